import PyProof.Rows.All
import Wide.All
import OpenK.AllK
import Wide.FinOn
import Lean
import PyProof.EqAt
import PyProof.EqKinds
import PyProof.TupleCall
import PyProof.NsDelKeeps
import KE.KIsBytes
import PyProof.Rows.SetFrom
import KE.KDictOf
import PyProof.AttrMissSeq
import PyProof.WalksMore
import PyProof.ZipIter
import PyProof.StrBlock2
import PyProof.StrBlockI
import PyProof.Rows.StrJoin2
import PyProof.Rows.CountFlat
import PyProof.Rows.Range3
import PyProof.SumWalkG
import PyProof.Rows.ListMulArg
import PyProof.FactsAll.tuple
import PyProof.EnumFor
import PyProof.EnumMake
import KE.KDictLaws
import KE.KDictSum
import KE.KRevIter
import PyProof.Rows.SortStr
import PyProof.Rows.SortWalk
import PyProof.AutoListH
import PyProof.StrLawsReplace
import PyProof.Rows.SortShellK
import KE.KLam
import KE.KSortKey
import KE.KNestM
import PyProof.EnumStmt
import PyProof.ListMulRoad
import PySem.Challenge.RW_pageturns_k31_pages_on_and_back
set_option compiler.extract_closed false
set_option hygiene false in
local macro_rules|`(tactic|obtain $p:rcasesPatMed)=>`(tactic|(rintro _ _ _ _ _ _ _ S R Z hr ($p:rcasesPatMed);subst e))
local macro_rules|`(tactic| trivial)=>`(tactic| decide +kernel)
set_option Elab.async false
set_option linter.all false
set_option maxRecDepth 100000
set_option genInjectivity false
set_option genSizeOfSpec false
namespace Tactic
theorem qQQ(h:True:=by rfl):True:=h
def qQJ:Lean.Syntax:=qQQ._auto_1
theorem qQX(h:True:=by decide):True:=h
def qQZ:Lean.Syntax:=qQX._auto_1
theorem qQK(h:True:=by intro _;rfl):True:=h
def qQ0:Lean.Syntax:=qQK._auto_1
theorem qQ1(h:True:=by with_unfolding_all rfl):True:=h
def qQ2:Lean.Syntax:=qQ1._auto_1
theorem qQ3(h:True:=by exact⟨rfl,rfl,rfl,rfl⟩):True:=h
def qQ4:Lean.Syntax:=qQ3._auto_1
theorem qQ5(h:True:=by first|exact .inl rfl|exact .inr rfl|assumption):True:=h
def qQ6:Lean.Syntax:=qQ5._auto_1
theorem qQ7(h:True:=by first|exact .inl rfl|exact .inr rfl):True:=h
def qQ8:Lean.Syntax:=qQ7._auto_1
theorem qQ9(h:True:=by intro _ _ _ _ _;exact{Or.inl rfl,rfl}):True:=h
def qJQ:Lean.Syntax:=qQ9._auto_1
theorem qJJ(h:True:=by first|decide|omega):True:=h
def qJX:Lean.Syntax:=qJJ._auto_1
theorem qJZ(h:True:=by first|exact Or.inl rfl|exact Or.inr (Or.inl rfl)|exact Or.inr (Or.inr rfl)):True:=h
def qJK:Lean.Syntax:=qJZ._auto_1
theorem qJ0(h:True:=by first|exact Or.inl rfl|exact Or.inr rfl):True:=h
def qJ1:Lean.Syntax:=qJ0._auto_1
theorem qJ2(h:True:=by intro _ _ _ _ _;rfl):True:=h
def qJ3:Lean.Syntax:=qJ2._auto_1
theorem qJ4(h:True:=by trivial):True:=h
def qJ5:Lean.Syntax:=qJ4._auto_1
local macro_rules|`({$a:term})=>`(⟨$a⟩)|`({$a:term,$b:term,*})=>`(⟨$a,$b,*⟩)
local macro_rules|`(!$t)=>do{let mut t:=t;let mut n:=1;for _ in [0:20] do{if let `(!$u):=t then{t:=u;n:=n+1}};let xs←(match t with|`(⟨$x,*⟩)=>pure x.getElems|`({$x:term,$y:term,*})=>pure (#[x]++y.getElems)|_=>Lean.Macro.throwUnsupported);let mut a:=xs;for _ in [0:n] do{a:=#[←`(_),←`(rfl)]++a};`(⟨$a,*⟩)}
open PySem.W (instObj methodObj hideAll hideAll_get of_hideAll Frag lookIn plainGet hasDictIn findIn handedIn plainGet_of isFn plainOver takerIn makesIn emptyDict specialIn keepIn mroIn kitOne kia_one kitx_list fnOf codeIn excIn callWith_K methodCall_KW envX kla_fn codeHdIn tabObj codeHd_of_K nsIn mg_of)
theorem za:type_of%@PySem.Heap.get?_push_of_some:=@PySem.Heap.get?_push_of_some
theorem zb:type_of%@List.length_map:=@List.length_map
theorem zc:type_of%@PySem.wpAny_bind:=@PySem.wpAny_bind
theorem zd:type_of%@Bool.false_ne_true:=@Bool.false_ne_true
theorem ze:type_of%@List.getElem?_eq_some_iff:=@List.getElem?_eq_some_iff
theorem zf:type_of%@List.mem_cons_of_mem:=@List.mem_cons_of_mem
theorem zg:type_of%@List.getElem?_eq_getElem:=@List.getElem?_eq_getElem
theorem zh:type_of%@List.mem_map:=@List.mem_map
theorem zi:type_of%@List.getElem?_map:=@List.getElem?_map
theorem zj:type_of%@List.mem_cons:=@List.mem_cons
theorem zk:type_of%@PySem.Heap.get?_push_size:=@PySem.Heap.get?_push_size
theorem zm:type_of%@List.mem_cons_self:=@List.mem_cons_self
theorem zo:type_of%@PySem.wpAny_pure:=@PySem.wpAny_pure
theorem zp:type_of%@List.size_toArray:=@List.size_toArray
theorem zq:type_of%@Nat.lt_of_lt_of_le:=@Nat.lt_of_lt_of_le
theorem zr:type_of%@Nat.le_refl:=@Nat.le_refl
theorem zt:type_of%@PySem.Heap.lt_size:=@PySem.Heap.lt_size
theorem zu:type_of%@decide_eq_false:=@decide_eq_false
theorem zw:type_of%@decide_eq_true:=@decide_eq_true
theorem zx:type_of%@List.map_cons:=@List.map_cons
theorem zy:type_of%@List.map_map:=@List.map_map
theorem zA:type_of%@Nat.ne_of_lt:=@Nat.ne_of_lt
theorem zB:type_of%@of_decide_eq_true:=@of_decide_eq_true
theorem zC:type_of%@List.length_append:=@List.length_append
theorem zD:type_of%@List.mem_append_right:=@List.mem_append_right
theorem zE:type_of%@List.mem_of_getElem?:=@List.mem_of_getElem?
theorem zG:type_of%@List.getD_eq_getElem?_getD:=@List.getD_eq_getElem?_getD
theorem zH:type_of%@Nat.le_trans:=@Nat.le_trans
theorem zI:type_of%@List.mem_singleton:=@List.mem_singleton
theorem zJ:type_of%@Int.emod_lt_of_pos:=@Int.emod_lt_of_pos
theorem zK:type_of%@List.map_append:=@List.map_append
theorem zL:type_of%@Bool.and_eq_true:=@Bool.and_eq_true
theorem zM:type_of%@List.not_mem_nil:=@List.not_mem_nil
theorem zN:type_of%@Int.emod_nonneg:=@Int.emod_nonneg
theorem zO:type_of%@PySem.F.plainAttrs_list:=@PySem.F.plainAttrs_list
theorem zP:type_of%@List.mem_append:=@List.mem_append
theorem zQ:type_of%@List.length_cons:=@List.length_cons
theorem zR:type_of%@decide_eq_true_eq:=@decide_eq_true_eq
theorem zS:type_of%@List.map_congr_left:=@List.map_congr_left
theorem zT:type_of%@Option.some.inj:=@Option.some.inj
theorem zU:type_of%@List.mem_range:=@List.mem_range
theorem zV:type_of%@Nat.zero_le:=@Nat.zero_le
theorem zW:type_of%@Bool.false_and:=@Bool.false_and
theorem zX:type_of%@Array.length_toList:=@Array.length_toList
theorem zY:type_of%@PySem.wpAny_field:=@PySem.wpAny_field
theorem zZ:type_of%@PySem.F.slot_list_append:=@PySem.F.slot_list_append
theorem z0:type_of%@PySem.F.type_list_append:=@PySem.F.type_list_append
theorem ya:type_of%@List.all_eq_true:=@List.all_eq_true
theorem yb:type_of%@List.find?_cons:=@List.find?_cons
theorem yc:type_of%@PySem.Heap.size_push:=@PySem.Heap.size_push
theorem yd:type_of%@of_decide_eq_false:=@of_decide_eq_false
theorem ye:type_of%@Bool.true_and:=@Bool.true_and
theorem yf:type_of%@List.lookup_cons:=@List.lookup_cons
theorem yg:type_of%@PySem.sizeLine_eq:=@PySem.sizeLine_eq
theorem yh:type_of%@List.drop_eq_getElem_cons:=@List.drop_eq_getElem_cons
theorem yi:type_of%@PySem.wpAny_newObj_type:=@PySem.wpAny_newObj_type
theorem yj:type_of%@List.nodup_cons:=@List.nodup_cons
theorem yk:type_of%@PySem.mem_of_lookup:=@PySem.mem_of_lookup
theorem ym:type_of%@List.length_take:=@List.length_take
theorem yn:type_of%@List.mem_append_left:=@List.mem_append_left
theorem yo:type_of%@List.mem_filter:=@List.mem_filter
theorem yp:type_of%@Bool.eq_iff_iff:=@Bool.eq_iff_iff
theorem yq:type_of%@decide_eq_false_iff_not:=@decide_eq_false_iff_not
theorem yr:type_of%@Nat.ne_of_gt:=@Nat.ne_of_gt
theorem yt:type_of%@List.getElem?_of_mem:=@List.getElem?_of_mem
theorem yu:type_of%@PySem.Heap.get?_update_other:=@PySem.Heap.get?_update_other
theorem yw:type_of%@List.filter_sublist:=@List.filter_sublist
theorem yx:type_of%@PySem.wpAny_truthy_bool:=@PySem.wpAny_truthy_bool
theorem yy:type_of%@PySem.Heap.get?_update_self:=@PySem.Heap.get?_update_self
theorem yz:type_of%@PySem.F.slot_dict_get:=@PySem.F.slot_dict_get
theorem yA:type_of%@PySem.Obj.data_mapFields:=@PySem.Obj.data_mapFields
theorem yB:type_of%@Nat.lt_irrefl:=@Nat.lt_irrefl
theorem yC:type_of%@PySem.Heap.SameBut.update:=@PySem.Heap.SameBut.update
theorem yD:type_of%@List.length_reverse:=@List.length_reverse
theorem yE:type_of%@PySem.Calls.spliced_cons:=@PySem.Calls.spliced_cons
theorem yF:type_of%@PySem.wpAny_call_entry:=@PySem.wpAny_call_entry
theorem yG:type_of%@List.take_length:=@List.take_length
theorem yH:type_of%@PySem.wpAny_holding:=@PySem.wpAny_holding
theorem yI:type_of%@PySem.wpAny_mono:=@PySem.wpAny_mono
theorem yJ:type_of%@List.foldl_cons:=@List.foldl_cons
theorem yK:type_of%@Nat.le_of_lt:=@Nat.le_of_lt
theorem yL:type_of%@PySem.Paired.length:=@PySem.Paired.length
theorem yM:type_of%@List.filter_cons:=@List.filter_cons
theorem yN:type_of%@decide_eq_decide:=@decide_eq_decide
theorem yO:type_of%@Sum.inr.inj:=@Sum.inr.inj
theorem yP:type_of%@PySem.codeAny_builtin:=@PySem.codeAny_builtin
theorem yQ:type_of%@List.any_cons:=@List.any_cons
theorem yR:type_of%@PySem.wpAny_setField:=@PySem.wpAny_setField
theorem yS:type_of%@Nat.le_succ:=@Nat.le_succ
theorem yT:type_of%@List.map_nil:=@List.map_nil
theorem yU:type_of%@PySem.codeAny_mono:=@PySem.codeAny_mono
theorem yV:type_of%@Bool.false_or:=@Bool.false_or
theorem yW:type_of%@PySem.wpAny_rule:=@PySem.wpAny_rule
theorem yX:type_of%@PySem.wpAny_of_eq:=@PySem.wpAny_of_eq
namespace L2
open PySem PySem.Spec PyProof.Rows
abbrev Key:=Sum Int Str
def keyIs:Key->Value->Bool|.inl k,v=>Value.isInt k v|.inr x,v=>Value.isStrOf x v
def WG(w:World):Key->Int|.inl k=>hashInt k|.inr x=>hashStr w x
theorem bB:∀{k:Key}{v:Value},keyIs k v=true->(∃i t,k=Sum.inl i/\v=Value.int i t)\/(∃x t,k=Sum.inr x/\v=Value.str x t)|.inl i,v,h=>(by obtain⟨t,e⟩:=Value.isInt_shape (k:=i) (v:=v) h;exact .inl ⟨i,t,rfl,e⟩)|.inr x,v,h=>by obtain⟨t,e⟩:=Value.isStrOf_shape (x:=x) (v:=v) h;exact .inr ⟨x,t,rfl,e⟩
theorem Ed(i:Int)(t:Tok):keyIs (.inl i) (.int i t)=true:=by simp[keyIs,Value.isInt]
theorem Ee(x:Str)(t:Tok):keyIs (.inr x) (.str x t)=true:=by simp[keyIs,Value.isStrOf]
theorem NR(a b:Int):decide ((Sum.inl a:Key)=Sum.inl b)=(a==b):=by by_cases e:a=b;subst e;simp;have h:¬(Sum.inl a:Key)=Sum.inl b:=λq=>e<|Sum.inl.inj q;rw[zu h];exact(beq_eq_false_iff_ne.mpr e).symm
theorem NS(a b:Str):decide ((Sum.inr a:Key)=Sum.inr b)=decide (a=b):=by by_cases e:a=b;subst e;simp;have h:¬(Sum.inr a:Key)=Sum.inr b:=λq=>e<|yO q;rw[zu h,zu e]
theorem NT(a:Int)(b:Str):decide ((Sum.inl a:Key)=Sum.inr b)=false:=zu λq=>nomatch q
theorem NU(a:Str)(b:Int):decide ((Sum.inr a:Key)=Sum.inl b)=false:=zu λq=>nomatch q
def aF(prog:Program)(w:World):PySem.KeyKind prog w Key where
 is:=keyIs
 hash:=WG w
 inj:=λv a b ha hb=>by
  rcases bB ha with⟨i,t,rfl,rfl⟩|⟨x,t,rfl,rfl⟩
  ·rcases bB hb with⟨j,u,rfl,e⟩|⟨y,u,rfl,e⟩
   ·injection e with e1 _;rw[e1]
   ·exact nomatch e
  ·rcases bB hb with⟨j,u,rfl,e⟩|⟨y,u,rfl,e⟩
   ·exact nomatch e
   ·injection e with e1 _;rw[e1]
 byValue:=λk v h=>by
  rcases bB h with⟨i,t,rfl,rfl⟩|⟨x,t,rfl,rfl⟩<;>rfl
 pyHash:=λhv h=>by
  rcases bB hv with⟨i,t,rfl,rfl⟩|⟨x,t,rfl,rfl⟩
  ·exact wpAny_pyHash_int h
  ·exact wpAny_pyHash_str h
 eqBool:=λhu hv h=>by
  rcases bB hu with⟨i,t,rfl,rfl⟩|⟨x,t,rfl,rfl⟩
  ·rcases bB hv with⟨j,u,rfl,rfl⟩|⟨y,u,rfl,rfl⟩
   ·rw[NR]at h;exact wpAny_eqBool_int h
   ·rw[NT]at h;exact SeqAt.EqAt.int_str i t y u _ _ _ _ h
  ·rcases bB hv with⟨j,u,rfl,rfl⟩|⟨y,u,rfl,rfl⟩
   ·rw[NU]at h;exact SeqAt.EqAt.str_int x t j u _ _ _ _ h
   ·rw[NS]at h;exact wpAny_eqBool_str h
 «strs»:=λk x t v h=>by
  rcases bB h with⟨i,u,rfl,e⟩|⟨y,u,rfl,e⟩
  ·exact nomatch e
  ·injection e with e1 _
   subst e1
   cases v<;>rfl
theorem wX(prog:Program)(w:World)(i:Int)(t:Tok):(aF prog w).is (.inl i) (.int i t)=true:=Ed i t
theorem iU(prog:Program)(w:World)(x:Str)(t:Tok):(aF prog w).is (.inr x) (.str x t)=true:=Ee x t
set_option genInjectivity true in
set_option genSizeOfSpec true in
inductive V where
 |av|bl (b:Bool)|int (i:Int)|str (x:Str)|CF (b:Array UInt8)|NV (b:UInt64)|ref (a:Addr)|ty (n:String)
 deriving DecidableEq
def RelV:V->Value->Prop|.av,u=>u=Value.none|.bl b,u=>u=Value.bool b|.int i,u=>∃t,u=Value.int i t|.str x,u=>∃t,u=Value.str x t|.CF b,u=>∃t,u=Value.bytes b t|.NV b,u=>∃t,u=Value.float b t|.ref a,u=>u=Value.ref a|.ty n,u=>u=Value.type n
abbrev Vals:List V->List Value->Prop:=Paired RelV
theorem Vals.length{xs:List V}{us:List Value}(r:Vals xs us):xs.length=us.length:=yL r
theorem Vals.get:∀{xs:List V}{us:List Value}{i:Nat}{x:V},Vals xs us->xs[i]?=some x->∃u,us[i]?=some u/\RelV x u|_,_,_,_,.nil,e=>by simp at e|_,_,0,_,.cons r _,e=>by simp at e;subst e;exact{_,rfl,r}|_,_,i+1,x,.cons _ t,e=>by obtain⟨u,h1,h2⟩:=Vals.get (i:=i) (x:=x) t (by simpa using e);exact{u,by simpa using h1,h2}
theorem Vals.set(r:RelV x u):∀{xs:List V}{us:List Value}(i:Nat),Vals xs us->Vals (xs.set i x) (us.set i u)|_,_,_,.nil=>.nil|_,_,0,.cons _ t=>.cons r t|_,_,i+1,.cons q t=>.cons q<|Vals.set r i t
theorem Vals.append:∀{xs ys:List V}{us ws:List Value},Vals xs us->Vals ys ws->Vals (xs++ys) (us++ws)|_,_,_,_,.nil,s=>s|_,_,_,_,.cons r t,s=>.cons r<|Vals.append t s
theorem Vals.take:∀{xs:List V}{us:List Value}(n:Nat),Vals xs us->Vals (xs.take n) (us.take n)|_,_,0,_=>.nil|_,_,_+1,.nil=>.nil|_,_,n+1,.cons r t=>.cons r<|Vals.take n t
theorem Vals.drop:∀{xs:List V}{us:List Value}(n:Nat),Vals xs us->Vals (xs.drop n) (us.drop n)|_,_,0,r=>r|_,_,_+1,.nil=>.nil|_,_,n+1,.cons _ t=>Vals.drop n t
def fL:Option V->Option Value->Prop|some v,some u=>RelV v u|none,none=>True|_,_=>False
def KV{κ:Type} : List (κ×V)->List (κ×Value)->Prop:=Paired λ(p:κ×V)(q:κ×Value)=>p.1=q.1/\RelV p.2 q.2
def kV:Key->V|.inl i=>.int i|.inr x=>.str x
set_option genInjectivity true in
set_option genSizeOfSpec true in
inductive HO where
  |lst (xs:List V)
  |tup (xs:List V)
  |dK (kvs:List<|Key×V)|dT (kvs:List<|List Key×V)
  |set (S:Int->Bool) (n:Nat)
  |ins (C dx:Addr) (fs:List<|Str×V)
  |own (x:Addr)
  |xd (fs:List<|Str×V)
  |met (f x:Addr)
  |VC (lo hi:Int)
  |kL (o:Obj) (u:HO)
  |pT (ps:Array Value)
  |ext (φ:Heap->Prop)
abbrev Hp:=Addr->Option HO
noncomputable def upd(H:Hp)(a:Addr)(o:HO):Hp:=λb=>if b=a then some o else H b
theorem aE{H:Hp}{a:Addr}{o:HO} : upd H a o a=some o:=by unfold upd;rw[if_pos rfl]
theorem ax{H:Hp}{a b:Addr}{o:HO}(h:b≠a):upd H a o b=H b:=by unfold upd;rw[if_neg h]
theorem aD{H:Hp}{a b:Addr}{o:HO}(h:H a=some o)(h':H b=none):a≠b:=by intro e;subst e;rw[h]at h';cases h'
def g6(h:Heap)(a:Addr)(items:Array Value):Prop:=∃o,h.get? a=some o/\o.cls=.type "tuple"/\o.dict=none/\∃n,o.data=.seq items n
theorem g6.tup(x:g6 h a items):IsTup h a items:=by obtain⟨o,e,c,_,n,d⟩:=x;exact⟨o,e,c,n,d⟩
theorem g6.lt(x:g6 h a items):a<h.objs.size:=x.tup.lt
theorem g6.new(h:Heap)(items:Array Value):g6 (h.push {cls:=.type "tuple",data:=.seq items}) h.objs.size items:={_,zk _ rfl,rfl,rfl,_,rfl}
section
variable(P:Program)(w:World)
def bt(H:Hp)(h:Heap)(a:Addr):HO->Prop|.lst xs=>xs.length<=sizeLine/\∃(az:List Value) (n:Nat),Vals xs az/\h.get? a=some {cls:=.type "list",data:=.seq az.toArray n}|.tup xs=>xs.length<=sizeLine/\∃az:List Value,Vals xs az/\g6 h a az.toArray|.dK kvs=>kvs.length<=sizeLine/\(a==sysModules)=false/\∃vs,KV kvs vs/\h.DictOf (aF P w) a vs|.dT _=>False|.set S n=>h.SetOf (intKind P w) a S n|.ins C dx fs=>H dx=some (.own a)/\fs.length<=1000/\dx≠a/\h.get? a=some (instObj C dx)/\∃mA,h.Ns1 dx mA/\(∀f,fL (fs.lookup f)<|mA f)/\PySem.Within mA (fs.map (·.1))|.own _=>∃o,h.get? a=some o|.xd fs=>∃mA,h.Ns1 a mA/\∀f,fL (fs.lookup f) (mA f)|.VC lo hi=>∃t u v,h.get? a=some {cls:=.type "range",data:=.fields #[.int lo t,.int hi u,.int 1 v]}|.kL o u=>h.get? a=some o/\bt H h a u|.pT ps=>h.get? a=some {cls:=.none,data:=.fields ps}|.met f x=>h.get? a=some (methodObj (.ref f)<|.ref x)|.ext φ=>φ h/\(∃o,h.get? a=some o)/\∀h1 h2:Heap,φ h1->(∀o,h1.get? a=some o->h2.get? a=some o)->φ h2
def kM(H:Hp)(h:Heap):Prop:=∀a o,H a=some o->bt P w H h a o
end
section
variable{P:Program}{w:World}{H H':Hp}{h h':Heap}{a:Addr}{o:HO}
theorem bt.lt(x:bt P w H h a o):a<h.objs.size:=by cases o with|lst xs=>(obtain⟨_,_,_,_,e⟩:=x;exact zt e)|tup xs=>(obtain⟨_,_,_,p⟩:=x;exact p.lt)|dK kvs=>(obtain⟨_,_,_,_,o,_,_,e,_⟩:=x;exact zt e)|dT kvs=>exact False.elim x|set S n=>(obtain⟨o,_,_,_,e,_⟩:=x;exact zt e)|ins C dx fs=>(obtain⟨_,_,_,e,_⟩:=x;exact zt e)|own y=>(obtain⟨_,e⟩:=x;exact zt e)|xd fs=>(obtain⟨_,⟨_,_,_,e,_⟩,_⟩:=x;exact zt e)|VC lo hi=>(obtain⟨_,_,_,e⟩:=x;exact zt e)|kL ob u=>(obtain⟨e,_⟩:=x;exact zt e)|pT ps=>exact zt (show h.get? a=some _ from x)|met f y=>exact zt (show h.get? a=some _ from x)|ext φ=>obtain⟨_,⟨_,e⟩,_⟩:=x;exact zt e
theorem bt.pf(x:bt P w H h a o)(k:∀b u,(b=a\/H b=some (.own a))->h.get? b=some u->h'.get? b=some u) (ho:∀b,H b=some (.own a)->H' b=some (.own a)) (ht:∀b xs,H b=some (.tup xs)->H' b=some (.tup xs)):bt P w H' h' a o:=by induction o with|lst xs=>(obtain⟨z,az,n,r,e⟩:=x;exact{z,az,n,r,k _ _ (.inl rfl) e})|tup xs=>(obtain⟨z,az,r,ob,e,c⟩:=x;exact{z,az,r,ob,k _ _ (.inl rfl) e,c})|dK kvs=>(obtain⟨z,y,vs,r,ob,es,ep,e,c⟩:=x;exact{z,y,vs,r,ob,es,ep,k _ _ (.inl rfl) e,c})|dT kvs=>exact False.elim x|set S n=>(obtain⟨ob,es,ep,t,e,c⟩:=x;exact{ob,es,ep,t,k _ _ (.inl rfl) e,c})|ins C dx fs=>(obtain⟨d,z,ne,e,mA,⟨od,es,ep,e2,c⟩,r⟩:=x;exact{ho _ d,z,ne,k _ _ (.inl rfl) e,mA,{od,es,ep,k _ _ (.inr d) e2,c},r})|own y=>(obtain⟨ob,e⟩:=x;exact{ob,k _ _ (.inl rfl) e})|xd fs=>(obtain⟨mA,⟨od,es,ep,e,c⟩,r⟩:=x;exact{mA,{od,es,ep,k _ _ (.inl rfl) e,c},r})|VC lo hi=>(obtain⟨t,u,v,e⟩:=x;exact{t,u,v,k _ _ (.inl rfl) e})|kL ob u ih=>(obtain⟨e,q⟩:=x;exact{k _ _ (.inl rfl) e,ih q})|pT ps=>have e:h.get? a=some {cls:=.none,data:=.fields ps}:=x;show h'.get? a=some {cls:=.none,data:=.fields ps};exact k a _ (.inl rfl) e|met f y=>have e:h.get? a=some (methodObj (.ref f)<|.ref y):=x;show h'.get? a=some (methodObj (.ref f)<|.ref y);exact k a _ (.inl rfl) e|ext φ=>obtain⟨p,⟨o,e⟩,st⟩:=x;exact{st _ _ p λo q=>k _ _ (.inl rfl) q,{o,k _ _ (.inl rfl) e},st}
theorem kM.lt(x:kM P w H h)(e:H a=some o):a<h.objs.size:=(x a o e).lt
theorem kM.fresh(x:kM P w H h)(e:h.objs.size<=a):H a=none:=by cases q:H a with|none=>rfl|some u=>exact absurd (zq (x.lt q) e)<|yB _
theorem kM.kept(x:kM P w H h)(k:∀b u,h.get? b=some u->h'.get? b=some u):kM P w H h':=λa o e=>(x a o e).pf (λb u _ q=>k b u q) (λ_ q=>q) λ_ _ q=>q
theorem kM.laid(x:kM P w H h)(k:∀b u,h.get? b=some u->h'.get? b=some u)(hp:h.objs.size<=a)(new:bt P w (upd H a o) h' a o):kM P w (upd H a o) h':=λb u e=>by have hn:=x.fresh hp;by_cases hb:b=a;subst hb;rw[aE]at e;cases e;exact new;rw[ax hb]at e;exact(x b u e).pf (λc v _ q=>k c v q) (λc q=>by rw[ax<|aD q hn];exact q) λc xs q=>by rw[ax<|aD q hn];exact q
end
def Rd(H:Hp)(a:Addr)(u:HO):Prop:=H a=some u\/∃o,H a=some (.kL o u)
theorem Rd.of(h:H a=some u):Rd H a u:=.inl h
theorem Rd.ok{P:Program}{w:World}{H:Hp}{h:Heap}{a:Addr}{u:HO}(r:Rd H a u)(x:kM P w H h):bt P w H h a u:=by rcases r with r|⟨o,r⟩;exact x a u r;obtain⟨_,q⟩:=x a _ r;exact q
def RJ:Option HO->Prop|some (.lst _)=>True|some (.dK _)=>True|some (.dT _)=>True|some (.set _ _)=>True|some (.ins _ _ _)=>True|some (.ext _)=>True|_=>False
section
variable{P:Program}{w:World}{H:Hp}{h h':Heap}{x e:Addr}{o':HO}
theorem kM.write(ok:kM P w H h)(mu:RJ<|H x)(he:e=x\/H e=some (.own x))(k:∀b u,b≠e->h.get? b=some u->h'.get? b=some u)(QW:∃u,h'.get? e=some u) (new:bt P w (upd H x o') h' x o'):kM P w (upd H x o') h':=λb u q=>by
 have RK:∀c y,H c=some (.own y)->c≠x:=λc y r z=>by subst z;rw[r]at mu;exact mu
 have WH:∀c xs,H c=some (.tup xs)->c≠x:=λc xs r z=>by subst z;rw[r]at mu;exact mu
 by_cases hb:b=x;subst hb;rw[aE]at q;cases q;exact new;rw[ax hb]at q;by_cases NW:b=e;have q':H b=some (.own x):=by rcases he with z|z;exact absurd (NW.trans z) hb;rw[NW];exact z
 rw[q]at q';cases q';obtain⟨v,hv⟩:=QW;exact{v,by rw[NW];exact hv};refine(ok b u q).pf (λc v hc r=>k c v ?_ r) (λc r=>by rw[ax<|RK c b r];exact r) λc xs r=>by rw[ax<|WH c xs r];exact r
 rcases hc with rfl|hc;exact NW;rintro rfl;rcases he with z|z;exact RK c b hc z;rw[hc]at z;cases z;exact hb rfl
end
structure Un(fs ex:List Addr)(H H':Hp)(h h':Heap):Prop where
 keep:∀b o,h.get? b=some o->H b=none->b∉fs->b∉ex->h'.get? b=some o
 slot:∀b o,h.get? b=some o->H b=none->b∈fs->b∉ex->∃sl,h'.get? b=some {o with slots:=sl}
 free:∀b o,h.get? b=some o->H b=none->b∉ex->H' b=none
 there:∀b o,h.get? b=some o->b∉ex->∃o',h'.get? b=some o'
 lK:∀b xs,H b=some (.tup xs)->H' b=some (.tup xs)
 kN:∀b o u,H b=some (.kL o u)->H' b=some (.kL o u)
 kO:∀b ps,H b=some (.pT ps)->∃more,H' b=some (.pT<|ps++more)
section
variable{fs ex:List Addr}{H H1:Hp}{h h1 h':Heap}{a x e:Addr}{o:HO}
theorem Un.any(u:Un fs ex H H1 h h1){b:Addr}{ob:Obj}(q:h.get? b=some ob)(n:H b=none)(hx:b∉ex):∃sl,h1.get? b=some {ob with slots:=sl}:=by by_cases hb:b∈fs;exact u.slot b ob q n hb hx;exact{ob.slots,u.keep b ob q n hb hx}
theorem Un.kept(k:∀b u,h.get? b=some u->h'.get? b=some u):Un fs ex H H h h':={λb ob q _ _ _=>k b ob q,λb ob q _ _ _=>{ob.slots,k b ob q},λ_ _ _ n _=>n,λb ob q _=>{ob,k b ob q},λ_ _ q=>q,λ_ _ _ q=>q,λ_ ps q=>{#[],by rw[q];simp}}
theorem Un.refl:Un fs ex H H h h:=Un.kept λ_ _ q=>q
theorem Un.laid(k:∀b u,h.get? b=some u->h'.get? b=some u)(hp:h.objs.size<=a)(hn:H a=none):Un fs ex H (upd H a o) h h' where
 keep:=λb u q _ _ _=>k b u q
 slot:=λb u q _ _ _=>{u.slots,k b u q}
 free:=λb u q n _=>by rw[ax<|zA<|zq (zt q) hp];exact n
 there:=λb u q _=>{u,k b u q}
 lK:=λb xs q=>by rw[ax<|aD q hn];exact q
 kN:=λb u xs q=>by rw[ax<|aD q hn];exact q
 kO:=λb ps q=>{#[],by rw[ax<|aD q hn,q];simp}
theorem Un.write(mu:RJ<|H x)(he:e=x\/H e=some (.own x))(k:∀b u,b≠e->h.get? b=some u->h'.get? b=some u)(QW:∃u,h'.get? e=some u):Un fs ex H (upd H x o) h h':=by
 have hx:∀b,H b=none->b≠x:=λb n z=>by subst z;rw[n]at mu;exact mu
 have hb:∀b,H b=none->b≠e:=λb n z=>by subst z;rcases he with r|r;exact hx b n r;rw[n]at r;cases r
 have hm:∀b u,H b=some u->¬RJ (some u)->b≠x:=λb u q nm z=>by subst z;rw[q]at mu;exact nm mu
 refine⟨λb u q n _ _=>k b u (hb b n) q,λb u q n _ _=>{u.slots,k b u (hb b n) q},λb u q n _=>by rw[ax<|hx b n];exact n,λb u q _=>?_,
  λb xs q=>by rw[ax<|hm b _ q λz=>z];exact q,λb u xs q=>by rw[ax<|hm b _ q λz=>z];exact q,λb ps q=>{#[],by rw[ax<|hm b _ q λz=>z,q];simp}⟩
 by_cases NW:b=e;subst NW;exact QW;exact{u,k b u NW q}
end
noncomputable def VD(h:Heap)(H:Hp):List Addr:=(List.range h.objs.size).filter λa=>(H a).isSome
noncomputable def sP(h:Heap)(H:Hp):Heap:=hideAll h<|VD h H
theorem Ef(h:Heap)(H:Hp):(sP h H).objs.size=h.objs.size:=PySem.W.hideAll_size _ _
theorem Gq(e:h.get? b=some o)(n:H b=none):(sP h H).get? b=some o:=hideAll_get _ e λhm=>by have q:(H b).isSome=true:=(yo.mp hm).2;rw[n]at q;simp at q
theorem JT(e:(sP h H).get? b=some o):h.get? b=some o/\H b=none:=by have e':h.get? b=some o:=of_hideAll (VD h H) e;refine{e',?_};cases q:H b with|none=>rfl|some x=>have hm:b∈VD h H:=yo.mpr {zU.mpr<|zt e',by simp[q]};have z:(sP h H).get? b=none:=PySem.W.hideAll_none (VD h H) hm;rw[z]at e;cases e
noncomputable def JU(g h:Heap)(L:Addr):List (Addr×Obj):=(List.range h.objs.size).filterMap λa=>if a=L\/(g.get? a).isSome=true then none else (h.get? a).map λo=>(a,o)
noncomputable def rest(g h:Heap)(L d:Addr):List (Addr×Obj):=(JU g h L).filter λp=>decide<|p.1≠d
structure Mod(K:Frag)(mg:Str->Option Value)(base:Heap):Prop where
 NX:K.In base
 glob:base.Ns mainGlobals mg
 blt:∃mb,base.Ns builtinsNs mb/\∀x:Str,x≠"__name__"->mb x=bootBuiltins x
 nolimit:base.NoLimit
structure Cx where
 prog:Program
 w:World
 K:Frag
 mg:Str->Option Value
 base:Heap
 A:Around
 N:List Str
 dm:Shared
 uX:Hp
 env:Env
 outer:List Env
 stack:List Env
 ex:List Addr
 fn:Str->Bool
 calm:Bool
 pn:List (Addr×Obj)
 xe:Value->Shared->Prop
def mX(l:List Env):List Addr:=l.filterMap (·.frame)
noncomputable abbrev Cx.fs(X:Cx):List Addr:=mX X.outer
def JV(sc:Scope)(x:Str):Prop:=sc.names.lookup x=some .local\/sc.names.lookup x=some .cell\/sc.names.lookup x=some .free
def Loc(sc:Scope)(x:Str):Prop:=sc.names.lookup x=some .local\/sc.names.lookup x=some .cell
def Look(env:Env)(h:Heap)(m:Str->Option Value)(x:Str)(u:Value):Prop:=(env.kindOf x=some .local/\m x=some u)\/((env.kindOf x=some .cell\/env.kindOf x=some .free)/\∃c,env.cells.lookup x=some c/\h.IsCell c (some u))
structure Cx.Ok(X:Cx):Prop where
 mod:Mod X.K X.mg X.base
 kind:X.env.scope.kind=.function
 glob:X.env.globals=mainGlobals
 blt:X.env.builtins=builtinsNs
 above:X.dm.heap.objs.size<=X.env.locals
 inj:∀x y c,X.env.cells.lookup x=some c->X.env.cells.lookup y=some c->x=y
 has:∀x,(X.env.kindOf x=some .cell\/X.env.kindOf x=some .free)->∃c,X.env.cells.lookup x=some c
 WI:∀x c,X.fn x=true->X.env.cells.lookup x=some c->X.dm.heap.objs.size<=c
 hd:X.calm=true->X.A.handled=none
 frames:X.A.frames=some X.stack
 Z2:X.stack=X.outer\/(X.stack=X.env::X.outer/\X.env.frame=some X.env.locals)
 exf:∀b∈X.ex,b≠X.env.locals/\∀x c,X.env.cells.lookup x=some c->c≠b
 bs:∀b o,X.base.get? b=some o->X.dm.heap.get? b=some o/\X.uX b=none
 JW:X.base.objs.size<=X.dm.heap.objs.size
 NY:∀b o,X.base.get? b=some o->b∉X.ex
 RL:∀b∈X.ex,b∉X.fs
 ph:X.dm.heap.FunFrames X.base X.outer
 NZ:∀b∈X.fs,X.uX b=none
structure Inv(X:Cx)(pins:List (Addr×Obj))(σ:List (Option V))(H:Hp)(s:Shared):Prop where
 ok:X.Ok
 os:s.os=X.dm.os
 bare:AllBare s.gens
 base:Un X.fs X.ex X.uX H X.dm.heap s.heap
 loc:∃m,s.heap.Ns X.env.locals m/\∀(i:Nat)(x:Str)(v:V),X.N[i]?=some x->σ[i]?=some (some v)->JV X.env.scope x->∃u,RelV v u/\Look X.env s.heap m x u
 cell:∀x c,X.env.cells.lookup x=some c->∃v,s.heap.IsCell c v
 free:H X.env.locals=none
 fP:∀x c,X.env.cells.lookup x=some c->H c=none
 pin:∀p∈X.pn++pins,s.heap.get? p.1=some p.2/\H p.1=none/\p.1≠X.env.locals/\p.1∉X.fs/\∀v,p.2.data≠.cell v
 aJ:kM X.prog X.w H s.heap
 len:σ.length=X.N.length
section
variable{X:Cx}{pins:List (Addr×Obj)}{σ:List (Option V)}{H H':Hp}{s:Shared}{h':Heap}
theorem Cx.Ok.Eg(ok:X.Ok)(e:X.base.get? b=some o):b∉X.fs:=λhb=>by have:=(ok.ph.mem hb).1;rw[e]at this;cases this
theorem Inv.bs(I:Inv X pins σ H s):∀b o,X.base.get? b=some o->s.heap.get? b=some o/\H b=none:=λb o e=>{I.base.keep b o (I.ok.bs b o e).1 (I.ok.bs b o e).2 (I.ok.Eg e)<|I.ok.NY b o e,I.base.free b o (I.ok.bs b o e).1 (I.ok.bs b o e).2<|I.ok.NY b o e}
theorem Inv.bk(I:Inv X pins σ H s):∀b o,X.base.get? b=some o->s.heap.get? b=some o:=λb o e=>(I.bs b o e).1
theorem Inv.mod(I:Inv X pins σ H s):Mod X.K X.mg X.base:=I.ok.mod
theorem Inv.mY(I:Inv X pins σ H s):X.K.In s.heap:=I.ok.mod.NX.keeps I.bk
theorem Inv.nolimit(I:Inv X pins σ H s):s.heap.NoLimit:=I.ok.mod.nolimit.keeps I.bk
theorem Inv.fr(I:Inv X pins σ H s):∃m,Fr X.base X.env.locals s.heap m :=
 let ⟨m,hn,_⟩:=I.loc
 ⟨m,hn,I.bk,zH I.ok.JW I.ok.above⟩
theorem Inv.lt(I:Inv X pins σ H s):X.env.locals<s.heap.objs.size:=by obtain⟨_,hn,_⟩:=I.loc;exact hn.lt
theorem Inv.sz(I:Inv X pins σ H s):X.dm.heap.objs.size<=s.heap.objs.size:=zH I.ok.above<|yK I.lt
theorem Inv.RM(I:Inv X pins σ H s)(h:s.heap.objs.size<=a):a∉X.fs:=λhb=>by obtain⟨_,o,ho,_⟩:=I.ok.ph.mem hb;exact absurd (zq (zt ho)<|zH I.sz h)<|yB _
theorem Inv.N1(I:Inv X pins σ H s):∀x c,X.env.cells.lookup x=some c->c≠X.env.locals:=λx c e z=>by obtain⟨v,o,ho,hd⟩:=I.cell x c e;obtain⟨m,⟨o',es,ep,AM,qq,_⟩,_⟩:=I.loc;rw[z,AM]at ho;cases ho;rw[qq]at hd;cases hd
theorem Inv.ph(I:Inv X pins σ H s):s.heap.FunFrames X.base X.outer:=by
 have all:∀(l:List Env),(∀b∈mX l,b∈X.fs)->X.dm.heap.FunFrames X.base l->s.heap.FunFrames X.base l:=by intro l;induction l with|nil=>intro _ _;trivial|cons env r ih=>intro hs hl;obtain⟨hk,⟨L,o,hf,hn,ho,hd⟩,hr⟩:=hl;have hL:L∈X.fs:=hs L (by unfold mX;rw[List.filterMap_cons,hf];exact zm);obtain⟨sl,e⟩:=I.base.slot L o ho (I.ok.NZ L hL) hL λz=>I.ok.RL L z hL;exact{hk,{L,_,hf,hn,e,hd},ih (λb hb=>hs b<|by unfold mX;rw[List.filterMap_cons,hf];exact zf _ hb) hr}
 exact all X.outer (λ_ hb=>hb) I.ok.ph
theorem Inv.stack(I:Inv X pins σ H s):s.heap.FunFrames X.base X.stack:=by rcases I.ok.Z2 with e|⟨e,hf⟩;rw[e];exact I.ph;rw[e];obtain⟨m,hn,_⟩:=I.loc;refine .cons (by rw[I.ok.kind];decide) hf hn ?_ I.ph;exact Heap.get?_none_of_le<|zH I.ok.JW I.ok.above
theorem Inv.mZ(I:Inv X pins σ H s):∀b∈mX X.stack,b∈X.env.locals::X.fs:=λb hb=>by rcases I.ok.Z2 with e|⟨e,hf⟩;rw[e]at hb;exact zf _ hb;rw[e]at hb;unfold mX at hb;rw[List.filterMap_cons,hf]at hb;exact hb
theorem Inv.pU(I:Inv X pins σ H s):∀b∈mX X.stack,H b=none:=λb hb=>by rcases zj.mp (I.mZ b hb) with e|hb;rw[e];exact I.free;obtain⟨_,o,ho,_⟩:=I.ok.ph.mem hb;exact I.base.free b o ho (I.ok.NZ b hb) λz=>I.ok.RL b z hb
theorem Inv.step{g':Array GenState}{t':Nat}{d':Drawn}{ch:List Addr}(I:Inv X pins σ H s) (JE:∀b∈ch,(b∈X.ex\/X.dm.heap.objs.size<=b)/\b≠X.env.locals/\(∀x c,X.env.cells.lookup x=some c->c≠b)/\∀p∈X.pn++pins,p.1≠b) (keep:∀b o,b≠X.env.locals->b∉X.fs->b∉ch->s.heap.get? b=some o->H b=none->h'.get? b=some o) (slot:∀b o,b≠X.env.locals->b∈X.fs->b∉ch->s.heap.get? b=some o->H b=none->∃sl,h'.get? b=some {o with slots:=sl}) (free:∀b o,b∉ch->s.heap.get? b=some o->H b=none->H' b=none) (there:∀b o,b∉ch->s.heap.get? b=some o->∃o',h'.get? b=some o') (lK:∀b xs,H b=some (.tup xs)->H' b=some (.tup xs)) (kN:∀b o u,H b=some (.kL o u)->H' b=some (.kL o u)) (kO:∀b ps,H b=some (.pT ps)->∃more,H' b=some (.pT<|ps++more)) (ns:∀m,s.heap.Ns X.env.locals m->h'.Ns X.env.locals m) (aJ:kM X.prog X.w H' h') (hg:AllBare g'): Inv X pins σ H' {s with heap:=h',gens:=g',drawn:=d',toks:=t'}:=by
 have Z3:∀b o,X.dm.heap.get? b=some o->b≠X.env.locals:=λb o e=>zA<|zq (zt e) I.ok.above;have VE:∀b o,X.dm.heap.get? b=some o->b∉X.ex->b∉ch:=λb o e hx hb=>by rcases (JE b hb).1 with z|z;exact hx z;exact absurd (zq (zt e) z)<|yB _
 have cellK:∀x c,X.env.cells.lookup x=some c->∀v,s.heap.IsCell c v->h'.IsCell c v:=by rintro x c e v ⟨o,ho,hd⟩;have RN:c∉ch:=λz=>(JE c z).2.2.1 x c e rfl;by_cases hc:c∈X.fs;obtain⟨sl,q⟩:=slot c o (I.N1 x c e) hc RN ho<|I.fP x c e;exact{_,q,hd};exact{o,keep c o (I.N1 x c e) hc RN ho<|I.fP x c e,hd}
 refine{I.ok,I.os,hg,{λb o e n hb hx=>?_,λb o e n hb hx=>?_,λb o e n hx=>?_,λb o e hx=>?_,λb xs e=>lK b xs<|I.base.lK b xs e,λb o xs e=>kN b o xs<|I.base.kN b o xs e,λb ps e=>?_},?_,λx c e=>?_,?_,λx c e=>?_,λp hp=>?_,aJ,I.len};exact keep b o (Z3 b o e) hb (VE b o e hx) (I.base.keep b o e n hb hx)<|I.base.free b o e n hx;obtain⟨sl,e1⟩:=I.base.slot b o e n hb hx;obtain⟨sl',e2⟩:=slot b _ (Z3 b o e) hb (VE b o e hx) e1<|I.base.free b o e n hx;exact⟨sl',e2⟩;obtain⟨o',e1⟩:=I.base.there b o e hx;exact free b o' (VE b o e hx) e1<|I.base.free b o e n hx;obtain⟨o',e1⟩:=I.base.there b o e hx;exact there b o' (VE b o e hx) e1;obtain⟨m1,e1⟩:=I.base.kO b ps e;obtain⟨m2,e2⟩:=kO b _ e1;exact{m1++m2,by rw[e2,Array.append_assoc]};obtain⟨m,hn,hl⟩:=I.loc;refine{m,ns m hn,λi x v e1 e2 e3=>?_};obtain⟨u,r,l⟩:=hl i x v e1 e2 e3;refine{u,r,?_};rcases l with l|⟨k,c,e,z⟩;exact .inl l;exact .inr {k,c,e,cellK x c e _ z};obtain⟨v,z⟩:=I.cell x c e;exact{v,cellK x c e v z};obtain⟨m,⟨o,_,_,ho,_⟩,_⟩:=I.loc;exact free _ o (λz=>(JE _ z).2.1 rfl) ho I.free;obtain⟨v,o,ho,hd⟩:=I.cell x c e;exact free c o (λz=>(JE c z).2.2.1 x c e rfl) ho<|I.fP x c e;obtain⟨e,n,ne,nf,d⟩:=I.pin p hp;have RN:p.1∉ch:=λz=>(JE p.1 z).2.2.2 p hp rfl;exact{keep p.1 p.2 ne nf RN e n,free p.1 p.2 RN e n,ne,nf,d}
theorem Inv.un{t':Nat}(I:Inv X pins σ H s)(u:Un X.fs [] H H' s.heap h')(aJ:kM X.prog X.w H' h'):Inv X pins σ H' {s with heap:=h',toks:=t'}:=by obtain⟨m,⟨o,es,ep,ho,r⟩,_⟩:=id I.loc;obtain⟨sl,hL⟩:=u.any ho I.free (by simp);exact I.step (g':=s.gens) (d':=s.drawn) (ch:=[]) (λ_ z=>nomatch z) (λb o _ hb _ e n=>u.keep b o e n hb<|by simp) (λb o _ hb _ e n=>u.slot b o e n hb<|by simp) (λb o _ e n=>u.free b o e n<|by simp) (λb o _ e=>u.there b o e<|by simp) u.lK u.kN u.kO (λm' hm=>by obtain⟨o',VF,WJ,AM,r'⟩:=hm;rw[ho]at AM;cases AM;exact{_,VF,WJ,hL,r'}) aJ I.bare
theorem Inv.call{g':Array GenState}{t':Nat}{d':Drawn}{ch:List Addr}(I:Inv X pins σ H s)(u:Un (mX X.stack) ch H H' s.heap h')(aJ:kM X.prog X.w H' h')(hg:AllBare g') (JE:∀b∈ch,(b∈X.ex\/X.dm.heap.objs.size<=b)/\b≠X.env.locals/\(∀x c,X.env.cells.lookup x=some c->c≠b)/\∀p∈X.pn++pins,p.1≠b): Inv X pins σ H' {s with heap:=h',gens:=g',drawn:=d',toks:=t'}:=by obtain⟨m,⟨o,es,ep,ho,r⟩,_⟩:=id I.loc;obtain⟨sl,hL⟩:=u.any ho I.free λz=>(JE _ z).2.1 rfl;exact I.step (ch:=ch) JE (λb o hL hb hc e n=>u.keep b o e n (λz=>(zj.mp<|I.mZ b z).elim hL hb) hc) (λb o _ _ hc e n=>u.any e n hc) (λb o hc e n=>u.free b o e n hc) (λb o hc e=>u.there b o e hc) u.lK u.kN u.kO (λm' hm=>by obtain⟨o',VF,WJ,AM,r'⟩:=hm;rw[ho]at AM;cases AM;exact{_,VF,WJ,hL,r'}) aJ hg
theorem Inv.turned{t':Nat}{it:Addr}(I:Inv X pins σ H s)(k:∀b o,b≠it->s.heap.get? b=some o->h'.get? b=some o)(hn:H it=none)(hL:it≠X.env.locals) (h1:it∈X.ex\/X.dm.heap.objs.size<=it) (h2:∀x c,X.env.cells.lookup x=some c->c≠it) (h3:∀p∈X.pn++pins,p.1≠it):Inv X pins σ H {s with heap:=h',toks:=t'}:=by
 have N2:∀b u,H b=some u->b≠it:=λb u e z=>by rw[z,hn]at e;cases e
 refine I.step (g':=s.gens) (d':=s.drawn) (ch:=[it]) (λb hb=>?_) (λb o _ _ hc e _=>k b o (λz=>hc<|by simp[z]) e) (λb o _ _ hc e _=>{o.slots,k b o (λz=>hc<|by simp[z]) e}) (λ_ _ _ _ n=>n) (λb o hc e=>{o,k b o (λz=>hc<|by simp[z]) e}) (λ_ _ e=>e) (λ_ _ _ e=>e) (λb ps e=>{#[],by rw[e];simp}) (λm hm=>?_) (λb u e=>?_) I.bare;have e:b=it:=by simpa using hb
 subst e;exact⟨h1,hL,h2,h3⟩;obtain⟨o,es,ep,ho,r⟩:=hm;exact{o,es,ep,k _ o (Ne.symm hL) ho,r};refine(I.aJ b u e).pf (λc v hc q=>k c v ?_ q) (λ_ q=>q) λ_ _ q=>q;rcases hc with z|z;rw[z];exact N2 b u e;exact N2 c _ z
theorem Inv.tok(I:Inv X pins σ H s)(t:Nat):Inv X pins σ H {s with toks:=t}:=I.un (h':=s.heap) (t':=t) Un.refl I.aJ
theorem Inv.kept(I:Inv X pins σ H s)(k:∀b u,s.heap.get? b=some u->h'.get? b=some u):Inv X pins σ H {s with heap:=h',toks:=t'}:=I.un (Un.kept k)<|I.aJ.kept k
theorem Inv.laid{a:Addr}{o:HO}{t':Nat}(I:Inv X pins σ H s)(k:∀b u,s.heap.get? b=some u->h'.get? b=some u)(hp:s.heap.objs.size<=a)(new:bt X.prog X.w (upd H a o) h' a o): Inv X pins σ (upd H a o) {s with heap:=h',toks:=t'}:=I.un (Un.laid k hp<|I.aJ.fresh hp)<|I.aJ.laid k hp new
theorem Inv.write(I:Inv X pins σ H s)(mu:RJ<|H x)(he:e=x\/H e=some (.own x))(k:∀b u,b≠e->s.heap.get? b=some u->h'.get? b=some u)(QW:∃u,h'.get? e=some u) (new:bt X.prog X.w (upd H x o) h' x o):Inv X pins σ (upd H x o) {s with heap:=h',toks:=t'}:=I.un (Un.write mu he k QW)<|I.aJ.write mu he k QW new
theorem Inv.weak(I:Inv X pins σ H s)(hl:aB.length=σ.length)(w:∀(i:Nat) v,aB[i]?=some (some v)->σ[i]?=some (some v)):Inv X pins aB H s:={I.ok,I.os,I.bare,I.base,by obtain⟨m,hn,Z4⟩:=I.loc;exact{m,hn,λi x v e1 e2 e3=>Z4 i x v e1 (w i v e2) e3},I.cell,I.free,I.fP,I.pin,I.aJ,hl.trans I.len}
theorem Inv.lL(I:Inv X pins σ H s)(h:∀p∈pins',s.heap.get? p.1=some p.2/\H p.1=none/\p.1≠X.env.locals/\p.1∉X.fs/\∀v,p.2.data≠.cell v):Inv X pins' σ H s:={I.ok,I.os,I.bare,I.base,I.loc,I.cell,I.free,I.fP,λp hp=>(zP.mp hp).elim (λz=>I.pin p<|yn _ z)<|h p,I.aJ,I.len}
theorem wY{N:List Str}(hN:N.Nodup){i j:Nat}{x:Str}(a:N[i]?=some x)(b:N[j]?=some x):i=j:=by obtain⟨h1,e1⟩:=ze.mp a;obtain⟨h2,e2⟩:=ze.mp b;exact(List.getElem_inj hN).mp<|e1.trans e2.symm
theorem t5{M:Model}{A:Around}{E:Value->Shared->Prop}{i:Nat}{x:Str}{v:V}{u:Value}{Q:Unit->Shared->Prop}(I:Inv X pins σ H s)(hN:X.N.Nodup)(hi:X.N[i]?=some x)(hx:Loc X.env.scope x)(r:RelV v u) (h:∀s',Inv X pins (σ.set i<|some v) H s'->(∃a,Heap.SameBut a s.heap s'.heap/\(a=X.env.locals\/X.env.cells.lookup x=some a))->Q () s') (hf:autoParam (X.fn x=true\/X.env.scope.names.lookup x=some .local) qQ6):wpAny M A (storeName X.env x u) Q E s:=by
 obtain⟨m,hn,hl⟩:=id I.loc;have WK:(X.env.scope.kind==.class||(X.env.scope.kind==.module&&X.env.locals != X.env.globals))=false:=by rw[I.ok.kind];rfl
 have RO:i<σ.length:=by rw[I.len];exact(ze.mp hi).1
 have N1:=I.N1;have tracked:∀{a:Addr}{h':Heap},(∃o,s.heap.get? a=some o/\H a=none)->Heap.SameBut a s.heap h'->kM X.prog X.w H h':=λ{a h'} ha hs b ob e=>by obtain⟨_,_,Mz⟩:=ha;refine(I.aJ b ob e).pf (λc w' hc q=>(hs.2 c ?_).trans q) (λ_ q=>q) λ_ _ q=>q;rintro rfl;rcases hc with rfl|hc;rw[Mz]at e;cases e;rw[Mz]at hc;cases hc
 rcases hx with hk|hk;refine wpAny_storeName_local hk hn (λh' MA hs=>?_) WK;obtain⟨oL,_,_,FY,_⟩:=id hn;refine h _ {I.ok,I.os,I.bare,{λb o e n hb hx=>?_,λb o e n hb hx=>?_,I.base.free,λb o e hx=>?_,I.base.lK,I.base.kN,I.base.kO},{_,MA,λj y v' e1 e2 e3=>?_},λy c e=>?_,I.free,I.fP,λp hp=>?_,tracked ⟨oL,FY,I.free⟩ hs,by simpa using I.len} {_,hs,.inl rfl};exact(hs.2 b<|zA<|zq (zt e) I.ok.above).trans<|I.base.keep b o e n hb hx;obtain⟨sl,e1⟩:=I.base.slot b o e n hb hx;exact{sl,(hs.2 b<|zA<|zq (zt e) I.ok.above).trans e1};obtain⟨o',e1⟩:=I.base.there b o e hx;exact{o',(hs.2 b<|zA<|zq (zt e) I.ok.above).trans e1};by_cases hj:j=i;subst hj;rw[hi]at e1;cases e1;rw[List.getElem?_set_self RO]at e2;cases e2;exact{u,r,.inl {hk,by simp}};rw[List.getElem?_set_ne<|Ne.symm hj]at e2;obtain⟨u',r',q⟩:=hl j y v' e1 e2 e3;refine{u',r',?_};rcases q with⟨k,e⟩|⟨k,c,e,z⟩;refine .inl {k,?_};have:y≠x:=λe=>hj<|wY hN e1<|e ▸ hi;simp[this,e];exact .inr {k,c,e,z.sameBut hs<|N1 y c e};obtain⟨w',z⟩:=I.cell y c e;exact{w',z.sameBut hs<|N1 y c e};obtain⟨e,n,ne,nf,d⟩:=I.pin p hp;exact{(hs.2 p.1 ne).trans e,n,ne,nf,d};have WL:X.fn x=true:=by rcases hf with z|z;exact z;rw[z]at hk;cases hk
 obtain⟨c,hc⟩:=I.ok.has x<|.inl hk;obtain⟨w',z⟩:=I.cell x c hc;refine wpAny_storeName_cell I.ok.kind hk hc z λh' JX hs=>?_;obtain⟨oc,VG,WM⟩:=id z;refine h {s with heap:=h'} {I.ok,I.os,I.bare,{λb o e n hb hx=>?_,λb o e n hb hx=>?_,I.base.free,λb o e hx=>?_,I.base.lK,I.base.kN,I.base.kO},{m,hn.sameBut hs<|Ne.symm<|N1 x c hc,λj y v' e1 e2 e3=>?_},λy c' e=>?_,I.free,I.fP,λp hp=>?_,tracked {oc,VG,I.fP x c hc} hs,by simpa using I.len} {c,hs,.inr hc};exact(hs.2 b<|zA<|zq (zt e)<|I.ok.WI x c WL hc).trans<|I.base.keep b o e n hb hx;obtain⟨sl,e1⟩:=I.base.slot b o e n hb hx;exact{sl,(hs.2 b<|zA<|zq (zt e)<|I.ok.WI x c WL hc).trans e1};obtain⟨o',e1⟩:=I.base.there b o e hx;exact{o',(hs.2 b<|zA<|zq (zt e)<|I.ok.WI x c WL hc).trans e1};by_cases hj:j=i;subst hj;rw[hi]at e1;cases e1;rw[List.getElem?_set_self RO]at e2;cases e2;exact{u,r,.inr {.inl hk,c,hc,JX}};rw[List.getElem?_set_ne<|Ne.symm hj]at e2;obtain⟨u',r',q⟩:=hl j y v' e1 e2 e3;refine{u',r',?_};rcases q with q|⟨k,c',e,z'⟩;exact .inl q;refine .inr {k,c',e,z'.sameBut hs ?_};rintro rfl;exact hj<|wY hN e1<|I.ok.inj _ _ _ e hc ▸ hi;by_cases RP:c'=c;subst RP;exact{_,JX};obtain⟨w2,z2⟩:=I.cell y c' e;exact{w2,z2.sameBut hs RP};obtain⟨e,n,ne,nf,d⟩:=I.pin p hp;refine{(hs.2 p.1 ?_).trans e,n,ne,nf,d};intro q;rw[q,VG]at e;have q':oc=p.2:=zT e;exact d w'<|by rw[<-q'];exact WM
theorem iV(I:Inv X pins σ H s)(hN:X.N.Nodup)(hi:X.N[i]?=some x)(hx:Loc X.env.scope x)(r:RelV v u) (h:∀s',Inv X pins (σ.set i<|some v) H s'->Q () s') (hf:autoParam (X.fn x=true\/X.env.scope.names.lookup x=some .local) qQ6):wpAny M A (storeName X.env x u) Q E s:=t5 I hN hi hx r (λs' I' _=>h s' I') hf
theorem Inv.RQ(I:Inv X pins σ H s)(ho:s'.os=s.os)(u:Un (mX X.stack) ch H H' s.heap s'.heap)(aJ:kM X.prog X.w H' s'.heap)(hg:AllBare s'.gens) (JE:∀b∈ch,(b∈X.ex\/X.dm.heap.objs.size<=b)/\b≠X.env.locals/\(∀x c,X.env.cells.lookup x=some c->c≠b)/\∀p∈X.pn++pins,p.1≠b):Inv X pins σ H' s':=by obtain⟨h',g',d',t',o'⟩:=s';have e:o'=s.os:=ho;subst e;exact I.call (g':=g') (t':=t') (d':=d') u aJ hg JE
end
abbrev XK:=Value->Option Addr->Hp->Prop
abbrev St:=List<|Option V
abbrev VK:=V->Hp->Prop
abbrev TE:=St->Hp->VK->Prop
abbrev TT:=St->Hp->(Bool->Hp->Prop)->Prop
abbrev TA:=St->Hp->(List V->Hp->Prop)->Prop
structure Ends where
 nx:St->Hp->Prop
 rt:VK
 bk:St->Hp->Prop:=λ_ _=>False
 ct:St->Hp->Prop:=λ_ _=>False
abbrev TS:=Ends->St->Hp->Prop
def EP(X:Cx)(pins:List<|Addr×Obj)(σ:St)(Q:VK)(u:Value)(s':Shared):Prop:=∃v H',Inv X pins σ H' s'/\RelV v u/\Q v H'
def TP(X:Cx)(pins:List<|Addr×Obj)(σ:St)(Q:Bool->Hp->Prop)(b:Bool)(s':Shared):Prop:=∃H',Inv X pins σ H' s'/\Q b H'
def AP(X:Cx)(pins:List<|Addr×Obj)(σ:St)(Q:List V->Hp->Prop)(us:List Value)(s':Shared):Prop:=∃vs H',Inv X pins σ H' s'/\Vals vs us/\Q vs H'
def SP(X:Cx)(pins:List<|Addr×Obj)(D:Ends)(f:Flow)(s':Shared):Prop:=match f with|.next=>∃aB H',Inv X pins aB H' s'/\D.nx aB H'|.brk=>∃aB H',Inv X pins aB H' s'/\D.bk aB H'|.cont=>∃aB H',Inv X pins aB H' s'/\D.ct aB H'|.ret u=>∃v aB H',Inv X pins aB H' s'/\RelV v u/\D.rt v H'
def PE(X:Cx)(e:Expr)(t:TE):Prop:=∀(pins:List (Addr×Obj))(s:Shared)(σ:St)(H:Hp)(Q:VK),Inv X pins σ H s->t σ H Q->wpAny (model X.prog X.w) X.A (eval e X.env) (EP X pins σ Q) X.xe s
def PT(X:Cx)(e:Expr)(t:TT):Prop:=∀(pins:List (Addr×Obj))(s:Shared)(σ:St)(H:Hp)(Q:Bool->Hp->Prop),Inv X pins σ H s->t σ H Q->wpAny (model X.prog X.w) X.A (isTrue e X.env<|eval e X.env) (TP X pins σ Q) X.xe s
def PW(X:Cx)(e:Expr)(t:TT):Prop:=∀(whole:Sem Value)(pins:List (Addr×Obj))(s:Shared)(σ:St)(H:Hp)(Q:Bool->Hp->Prop),Inv X pins σ H s->t σ H Q->wpAny (model X.prog X.w) X.A (isTrue e X.env whole) (TP X pins σ Q) X.xe s
theorem PW.pt{t:TT}(h:PW X e t):PT X e t:=h _
def PA(X:Cx)(es:List Expr)(t:TA):Prop:=∀(pos:Pos)(pins:List (Addr×Obj))(s:Shared)(σ:St)(H:Hp)(Q:List V->Hp->Prop),Inv X pins σ H s->t σ H Q->wpAny (model X.prog X.w) X.A (spliced<|backTo pos<|starEach es X.env) (AP X pins σ Q) X.xe s
def PS(X:Cx)(st:Stmt)(t:TS):Prop:=∀(pins:List (Addr×Obj))(s:Shared)(σ:St)(H:Hp)(D:Ends),Inv X pins σ H s->t D σ H->wpAny (model X.prog X.w) X.A (exec st X.env) (SP X pins D) X.xe s
def CG(X:Cx)(st:List Stmt)(t:TS):Prop:=∀(pins:List (Addr×Obj))(s:Shared)(σ:St)(H:Hp)(D:Ends),Inv X pins σ H s->t D σ H->wpAny (model X.prog X.w) X.A (execs st X.env) (SP X pins D) X.xe s
theorem bw{t:Sem α}(h:wpAny M A t Q E s)(hQ:∀a s,Q a s->Q' a s):wpAny M A t Q' E s:=yI h hQ λ_ _ x=>x
section
variable{X:Cx}
def WN(i:Nat):TE:=λσ H Q=>∃v,σ[i]?=some (some v)/\Q v H
def tC(v:V):TE:=λ_ H Q=>Q v H
theorem Gr(hN:X.N[i]?=some x)(hv:JV X.env.scope x)(hd:autoParam ((x==("__debug__": Str))=false) qQZ)(oo:autoParam ((x==("__classdict__": Str))=false) qQZ):PE X (.Name x pos) (WN i):=by intro pins s σ H Q I h;obtain⟨v,e,h⟩:=h;obtain⟨m,hn,hl⟩:=I.loc;obtain⟨u,r,l⟩:=hl i x v hN e hv;have fin:EP X pins σ Q u s:=⟨v,H,I,r,h⟩;rcases l with⟨hk,hm⟩|⟨hk,c,hc,CH⟩;exact wpAny_Name (wpAny_loadName_local I.ok.kind hk hn hm fin) hd;rcases hk with hk|hk;exact wpAny_Name (wpAny_loadName_cell I.ok.kind hk hc CH fin) hd;exact wpAny_Name (wpAny_loadName_free I.ok.kind hk hc CH fin oo) hd
theorem N3:PE X (.Constant (.int i) j pos) (tC<|.int i):=λ_ _ _ H _ I h=>wpAny_Constant_int {.int i,H,I.tok _,{_,rfl},h}
theorem MB:PE X (.Constant (.bool b) j pos) (tC<|.bl b):=λ_ _ _ H _ I h=>Constant_bool {.bl b,H,I,rfl,h}
theorem N4:PE X (.Constant .none j pos) (tC .av):=λ_ _ _ H _ I h=>Constant_none {.av,H,I,rfl,h}
theorem N5:PE X (.Constant (.str x) j pos) (tC<|.str x):=λ_ _ _ H _ I h=>Calls.Constant_str {.str x,H,I.tok _,{_,rfl},h}
def Gl(X:Cx)(x:Str):Prop:=X.env.kindOf x=some .globalImplicit
theorem pV(I:Inv X pins σ H s)(hg:Gl X x)(hm:X.mg x=some u)(h:Q u s) (hd:autoParam ((x==("__debug__": Str))=false) qQZ):wpAny (model X.prog X.w) X.A (eval (.Name x pos) X.env) Q E s:=Calls.Name_function_global I.ok.kind hg (Calls.loadGlobal_global (by rw[I.ok.glob];exact I.mod.glob.keeps I.bk) hm h) hd
theorem gk(I:Inv X pins σ H s)(hg:Gl X x)(hm:X.mg x=none)(hv:bootBuiltins x=some u)(h:Q u s) (hn:autoParam (x≠"__name__") qQZ) (hd:autoParam ((x==("__debug__": Str))=false) qQZ):wpAny (model X.prog X.w) X.A (eval (.Name x pos) X.env) Q E s:=by obtain⟨mb,h1,h2⟩:=I.mod.blt;exact Calls.Name_function_global I.ok.kind hg (Calls.loadGlobal_builtin (by rw[I.ok.glob];exact I.mod.glob.keeps I.bk) hm (by rw[I.ok.blt];exact h1.keeps I.bk) ((h2 x hn).trans hv) h) hd
theorem CI(hg:Gl X x)(hm:X.mg x=some u)(r:RelV v u)(hd:autoParam ((x==("__debug__": Str))=false) qQZ):PE X (.Name x pos) (tC v):=λ_ _ _ H _ I h=>pV I hg hm ⟨v,H,I,r,h⟩ hd
theorem JY(hg:Gl X x)(hm:X.mg x=none)(hv:bootBuiltins x=some u)(r:RelV v u)(hn:autoParam (x≠"__name__") qQZ)(hd:autoParam ((x==("__debug__": Str))=false) qQZ):PE X (.Name x pos) (tC v):=λ_ _ _ H _ I h=>gk I hg hm hv ⟨v,H,I,r,h⟩ hn hd
variable{a b:Expr}{ta tb:TE}{pos:Pos}
def tB(t:TE):TT:=λσ H Q=>t σ H λx H1=>∃c,x=.bl c/\Q c H1
theorem N6{t:TE}(h:PE X e t)(he:autoParam (∀whole,isTrue e X.env whole=(do let v <-whole;standAt e.pos;holding [v] (truthy v))) qQ0):PT X e (tB t):=by intro pins s σ H Q I hw;refine isTrue_plain (bw (h pins s σ H _ I hw) λv s1 ⟨x,H1,I1,r1,q1⟩=>?_)<|he _;obtain⟨d,rfl,q⟩:=q1;cases r1;exact yx ⟨H1,I1,q⟩
variable{tA VH:TT}{rest:List Expr}
def WO(t u:TT):TT:=λσ H Q=>t σ H λc H1=>if c=true then u σ H1 Q else Q false H1
def tOr(t u:TT):TT:=λσ H Q=>t σ H λc H1=>if c=true then Q true H1 else u σ H1 Q
def WQ(t:TT):TT:=λσ H Q=>t σ H λc H1=>Q (!c) H1
theorem pw_and1(ha:PT X a tA):PW X (.BoolOp .And [a] pos) tA:=by intro wh pins s σ H Q I h;refine isTrue_and<|bw (ha pins s σ H Q I h) λc s1 e=>?_;cases c with|true=>exact isTrue_and_nil e|false=>exact e
theorem pw_or1(ha:PT X a tA):PW X (.BoolOp .Or [a] pos) tA:=by intro wh pins s σ H Q I h;refine isTrue_or<|bw (ha pins s σ H Q I h) λc s1 e=>?_;cases c with|false=>exact isTrue_or_nil e|true=>exact e
theorem pw_and(ha:PT X a tA)(hb:PW X (.BoolOp .And (b::rest) pos) VH):PW X (.BoolOp .And (a::b::rest) pos) (WO tA VH):=by intro wh pins s σ H Q I h;refine isTrue_and<|bw (ha pins s σ H _ I h) λc s1 ⟨H1,I1,q1⟩=>?_;cases c with|true=>exact hb wh pins s1 σ H1 Q I1 q1|false=>exact⟨H1,I1,q1⟩
theorem pw_or(ha:PT X a tA)(hb:PW X (.BoolOp .Or (b::rest) pos) VH):PW X (.BoolOp .Or (a::b::rest) pos) (tOr tA VH):=by intro wh pins s σ H Q I h;refine isTrue_or<|bw (ha pins s σ H _ I h) λc s1 ⟨H1,I1,q1⟩=>?_;cases c with|true=>exact⟨H1,I1,q1⟩|false=>exact hb wh pins s1 σ H1 Q I1 q1
theorem N7(ha:PT X a tA):PT X (.UnaryOp .Not a pos) (WQ tA):=by intro pins s σ H Q I h;exact isTrue_not<|ha pins s σ H (λc H1=>Q (!c) H1) I h
def RS(ta tb:TE):TE:=λσ H Q=>ta σ H λx H1=>∃c,x=.bl c/\if c=true then tb σ H1 Q else Q (.bl false) H1
def WR(ta tb:TE):TE:=λσ H Q=>ta σ H λx H1=>∃c,x=.bl c/\if c=true then Q (.bl true) H1 else tb σ H1 Q
def RT(ta:TE):TE:=λσ H Q=>ta σ H λx H1=>∃c,x=.bl c/\Q (.bl<|!c) H1
theorem N8{t:TE}(h:PE X a t):PE X (.BoolOp op [a] pos) t:=λpins s σ H Q I hw=>BoolOp_one<|h pins s σ H Q I hw
theorem N9(ha:PE X a ta)(hb:PE X (.BoolOp .And (b::rest) pos) tb):PE X (.BoolOp .And (a::b::rest) pos) (RS ta tb):=by intro pins s σ H Q I h;refine BoolOp_and<|bw (ha pins s σ H _ I h) λv s1 ⟨x,H1,I1,r1,q1⟩=>?_;obtain⟨c,rfl,q1⟩:=q1;cases r1;refine yx ?_;cases c with|true=>exact hb pins s1 σ H1 Q I1 q1|false=>exact{.bl false,H1,I1,rfl,q1}
theorem RU(ha:PE X a ta)(hb:PE X (.BoolOp .Or (b::rest) pos) tb):PE X (.BoolOp .Or (a::b::rest) pos) (WR ta tb):=by intro pins s σ H Q I h;refine BoolOp_or<|bw (ha pins s σ H _ I h) λv s1 ⟨x,H1,I1,r1,q1⟩=>?_;obtain⟨c,rfl,q1⟩:=q1;cases r1;refine yx ?_;cases c with|false=>exact hb pins s1 σ H1 Q I1 q1|true=>exact{.bl true,H1,I1,rfl,q1}
theorem N_(ha:PE X a ta):PE X (.UnaryOp .Not a pos) (RT ta):=by intro pins s σ H Q I h;refine UnaryOp_<|bw (ha pins s σ H _ I h) λv s1 ⟨x,H1,I1,r1,q1⟩=>?_;obtain⟨c,rfl,q1⟩:=q1;cases r1;exact not_of<|yx {.bl<|!c,H1,I1,rfl,q1}
def tIf(t:TT)(ta tb:TE):TE:=λσ H Q=>t σ H λc H1=>if c=true then ta σ H1 Q else tb σ H1 Q
theorem Gs(hc:PT X c tA)(ha:PE X a ta)(hb:PE X b tb):PE X (.IfExp c a b pos) (tIf tA ta tb):=by intro pins s σ H Q I h;refine wpAny_IfExp<|bw (hc pins s σ H _ I h) λd s1 ⟨H1,I1,q1⟩=>?_;cases d with|true=>exact ha pins s1 σ H1 Q I1 q1|false=>exact hb pins s1 σ H1 Q I1 q1
end
def iW(K:Frag)(H:Hp)(a:Addr)(xs:List V):Prop:=Rd H a (.lst xs)\/∃(o:Obj)(az:Array Value)(n:Nat),K.lookup a=some o/\o.cls=.type "list"/\o.dict=none/\o.data=.seq az n/\az.size<=sizeLine/\Vals xs az.toList
def iw(K:Frag)(H:Hp)(a:Addr)(xs:List V):Prop:=Rd H a (.tup xs)\/∃(o:Obj)(az:Array Value)(n:Nat),K.lookup a=some o/\o.cls=.type "tuple"/\o.data=.seq az n/\az.size<=sizeLine/\Vals xs az.toList
noncomputable def WS:Value->Option V|.none=>some .av|.bool b=>some (.bl b)|.int i _=>some (.int i)|.str x _=>some (.str x)|.bytes b _=>some (.CF b)|.float b _=>some (.NV b)|.ref a=>some (.ref a)|.type n=>some (.ty n)|_=>none
theorem RelV.abs(r:RelV x u):WS u=some x:=by cases x with|av=>(cases r;rfl)|bl _=>(cases r;rfl)|int _=>(obtain⟨t,rfl⟩:=r;rfl)|str _=>(obtain⟨t,rfl⟩:=r;rfl)|CF _=>(obtain⟨t,rfl⟩:=r;rfl)|NV _=>(obtain⟨t,rfl⟩:=r;rfl)|ref _=>(cases r;rfl)|ty _=>cases r;rfl
theorem RelV.inj(r:RelV x u)(q:RelV y u):x=y:=zT<|r.abs.symm.trans q.abs
theorem Vals.inj:∀{xs ys:List V}{us:List Value},Vals xs us->Vals ys us->xs=ys|_,_,_,.nil,.nil=>rfl|_,_,_,.cons r t,.cons r' t'=>by rw[r.inj r',Vals.inj t t']
section
variable{X:Cx}{pins:List (Addr×Obj)}{σ:St}{H:Hp}{s:Shared}{a:Addr}{xs ys:List V}
theorem iW.of{K:Frag}(h:H a=some (.lst xs)):iW K H a xs:=.inl<|.inl h
theorem iw.of{K:Frag}(h:H a=some (.tup xs)):iw K H a xs:=.inl<|.inl h
theorem Inv.list(I:Inv X pins σ H s)(h:iW X.K H a xs):∃az:List Value,Vals xs az/\PlainL s.heap a az.toArray/\xs.length<=sizeLine:=by rcases h with h|⟨o,az,n,hk,hc,hd,hs,hz,r⟩;obtain⟨z,az,n,r,e⟩:=h.ok I.aJ;exact{az,r,{_,n,e,rfl,rfl,rfl},z};refine{az.toList,r,{o,n,I.mY a o hk,hc,hd,by simpa using hs},?_};have e:=r.length;simp only[zX]at e;lia
theorem Inv.tuple(I:Inv X pins σ H s)(h:iw X.K H a xs):∃az:List Value,Vals xs az/\IsTup s.heap a az.toArray/\xs.length<=sizeLine:=by rcases h with h|⟨o,az,n,hk,hc,hs,hz,r⟩;obtain⟨z,az,r,p⟩:=h.ok I.aJ;exact⟨az,r,p.tup,z⟩;refine{az.toList,r,{o,I.mY a o hk,hc,n,by simpa using hs},?_};have e:=r.length;simp only[zX]at e;lia
theorem Inv.wZ(I:Inv X pins σ H s)(h:iW X.K H a xs)(h':iW X.K H a ys):xs=ys:=by
 obtain⟨az,r,⟨o,n,e,_,_,d⟩,_⟩:=I.list h;obtain⟨its',r',⟨o',n',e',_,_,d'⟩,_⟩:=I.list h';rw[e]at e';cases e';rw[d]at d';injection d' with d1 _;have:az=its':=by simpa using congrArg Array.toList d1
 subst this;exact r.inj r'
theorem Inv.m6(I:Inv X pins σ H s)(h:iw X.K H a xs)(h':iw X.K H a ys):xs=ys:=by
 obtain⟨az,r,⟨o,e,_,n,d⟩,_⟩:=I.tuple h;obtain⟨its',r',⟨o',e',_,n',d'⟩,_⟩:=I.tuple h';rw[e]at e';cases e';rw[d]at d';injection d' with d1 _;have:az=its':=by simpa using congrArg Array.toList d1
 subst this;exact r.inj r'
end
noncomputable abbrev Cx.abk(X:Cx)(E:Value->Shared->Prop):Cx:={X with xe:=E}
section
variable{X:Cx}{st:Stmt}{rest:List Stmt}{t u:TS}{e:Expr}{te:TE}{pos:Pos}
def RV:TS:=λD σ H=>D.nx σ H
def WT(t u:TS):TS:=λD σ H=>t {D with nx:=u D} σ H
theorem JZ:CG X [] RV:=λ_ _ σ H _ I h=>wpAny_execs_nil ⟨σ,H,I,h⟩
theorem Gu(h1:PS X st t)(h2:CG X rest u):CG X (st::rest) (WT t u):=by intro pins s σ H D I h;refine wpAny_execs_cons<|bw (h1 pins s σ H {D with nx:=u D} I h) λf s1 q=>?_;cases f with|next=>(obtain⟨aB,H',I',q⟩:=q;exact h2 pins s1 aB H' D I' q)|ret v=>exact q|brk=>exact q|cont=>exact q
theorem J1(h1:PS X st t):CG X [st] t:=by intro pins s σ H D I h;refine wpAny_execs_cons<|bw (h1 pins s σ H D I h) λf s1 q=>?_;cases f with|next=>exact wpAny_execs_nil q|ret v=>exact q|brk=>exact q|cont=>exact q
theorem Inv.quiet(I:Inv X pins σ H s):interactive X.env=false:=by simp[interactive,I.ok.kind]
def RW(te:TE):TS:=λD σ H=>te σ H λ_ H1=>D.nx σ H1
theorem J2(he:PE X e te)(hs:autoParam (swapsWith e none pos.line X.env=pure false) qQJ):PS X (.Expr e pos) (RW te):=by intro pins s σ H D I h;exact wpAny_Expr_any (bw (he pins s σ H _ I h) <| by rintro v s1 ⟨x,H1,I1,r1,q1⟩;exact⟨σ,H1,I1,q1⟩) I.quiet hs
def WU(te:TE):TS:=λD σ H=>te σ H D.rt
theorem Oa(he:PE X e te):PS X (.Return (some e) pos) (WU te):=by intro pins s σ H D I h;exact wpAny_Return_some<|bw (he pins s σ H _ I h) <| by rintro v s1 ⟨x,H1,I1,r1,q1⟩;exact⟨x,σ,H1,I1,r1,q1⟩
def WV(c:TT)(t u:TS):TS:=λD σ H=>c σ H λb H1=>if b=true then t D σ H1 else u D σ H1
theorem RX(hc:PT X c tc)(ha:CG X a t)(hb:CG X b u):PS X (.If c a b pos) (WV tc t u):=by intro pins s σ H D I h;refine wpAny_If<|bw (hc pins s σ H _ I h) λd s1 ⟨H1,I1,q1⟩=>?_;cases d with|true=>exact ha pins s1 σ H1 D I1 q1|false=>exact hb pins s1 σ H1 D I1 q1
end
abbrev TG:=V->St->Hp->(St->Hp->Prop)->Prop
abbrev MC:=List V->St->Hp->(St->Hp->Prop)->Prop
def PG(X:Cx)(target:Expr)(t:TG):Prop:=∀(pins:List (Addr×Obj))(s:Shared)(σ:St)(H:Hp)(v:V)(u:Value)(Q:St->Hp->Prop),Inv X pins σ H s->RelV v u->t v σ H Q->wpAny (model X.prog X.w) X.A (assign target X.env u) (λ_ s'=>∃aB H',Inv X pins aB H' s'/\Q aB H') X.xe s
def MD(X:Cx)(ts:List Expr)(t:MC):Prop:=∀(pins:List (Addr×Obj))(s:Shared)(σ:St)(H:Hp)(vs:List V)(us:List Value)(Q:St->Hp->Prop),Inv X pins σ H s->Vals vs us->t vs σ H Q->wpAny (model X.prog X.w) X.A (assignInOrder ((assignEach ts X.env).map (·.2)) us) (λ_ s'=>∃aB H',Inv X pins aB H' s'/\Q aB H') X.xe s
abbrev Ob:=V->V->V->Hp->(Hp->Prop)->Prop
def RY(X:Cx)(t:Ob):Prop:=∀(pins:List (Addr×Obj))(s:Shared)(σ:St)(H:Hp)(o i v:V)(ov iv u:Value)(Q:Hp->Prop),Inv X pins σ H s->RelV o ov->RelV i iv->RelV v u->t o i v H Q->wpAny (model X.prog X.w) X.A (setItem ov iv u) (λ_ s'=>∃H',Inv X pins σ H' s'/\Q H') X.xe s
abbrev WW:=V->V->Hp->VK->Prop
def Z5(X:Cx)(op:Operator)(t:WW):Prop:=∀(pins:List (Addr×Obj))(s:Shared)(σ:St)(H:Hp)(x y:V)(v u:Value)(Q:VK),Inv X pins σ H s->RelV x v->RelV y u->t x y H Q->wpAny (model X.prog X.w) X.A (inplaceOp op v u) (EP X pins σ Q) X.xe s
section
variable{X:Cx}{pos:Pos}
def iy(i:Nat):TG:=λv σ H Q=>Q (σ.set i<|some v) H
theorem pW(hN:X.N.Nodup)(hi:X.N[i]?=some x)(hx:Loc X.env.scope x)(hf:autoParam (X.fn x=true\/X.env.scope.names.lookup x=some .local) qQ6):PG X (.Name x pos) (iy i):=by intro pins s σ H v u Q I r h;exact wpAny_assign_Name<|iV I hN hi hx r (λs' I'=>{_,H,I',h}) hf
def J3:MC:=λvs σ H Q=>vs=[]/\Q σ H
def qr(t:TG)(u:MC):MC:=λvs σ H Q=>∃v r,vs=v::r/\t v σ H λaB H'=>u r aB H' Q
theorem CJ:MD X [] J3:=by intro pins s σ H vs us Q I r h;obtain⟨e,h⟩:=h;subst e;cases r;exact assignInOrder_nil ⟨σ,H,I,h⟩
theorem qt{t:TG}(h1:PG X e t)(h2:MD X es u) (hs:autoParam ((assignEach (e::es) X.env).map (·.2)=assign e X.env::(assignEach es X.env).map (·.2)) qQJ):MD X (e::es) (qr t u):=by intro pins s σ H vs us Q I r h;obtain⟨v,vr,e1,h⟩:=h;subst e1;cases r with|cons r rr=>rw[hs];refine assignInOrder_cons<|bw (h1 pins s σ H _ _ _ I r h) λ_ s1 ⟨wM,H1,I1,q1⟩=>?_;exact h2 pins s1 wM H1 _ _ Q I1 rr q1
def J4(K:Frag)(n:Nat)(t:MC):TG:=λv σ H Q=>∃a xs,v=.ref a/\iw K H a xs/\xs.length=n/\t xs σ H Q
theorem Gv{t:MC}(hc:X.calm=true)(h:MD X es t) (hn:autoParam ((assignEach es X.env).length=n) qQJ) (w4:autoParam ((assignEach es X.env).findIdx? (·.1)=none) qQJ):PG X (.Tuple es k pos) (J4 X.K n t):=by intro pins s σ H v u Q I r hw;obtain⟨a,xs,e1,hq,hl,hw⟩:=hw;subst e1;cases r;obtain⟨az,rv,ht,hz⟩:=I.tuple hq;refine assign_Tuple_tuple (I.ok.hd hc) ht (by simp[hn,<-hl,rv.length]) w4 λh' hx=>?_;have I1:Inv X pins σ H {s with heap:=h'}:=I.kept (t':=s.toks) λb o e=>hx b o (zA<|zt e) e;exact h pins _ σ H xs _ Q I1 (by simpa using rv) hw
def WX(to ti:TE)(t:Ob):TG:=λv σ H Q=>to σ H λo H1=>ti σ H1 λi H2=>t o i v H2 λH3=>Q σ H3
theorem Oc{t:Ob}(ho:PE X o to)(hi:PE X i ti)(hs:RY X t)
  (ha:autoParam (∀v,assign (.Subscript o i pos) X.env v=(do
   let ov <-holding [v] (eval o X.env)
   let iv <-holding [v,ov] (eval i X.env)
   standAt pos
   holding [v,ov,iv] (setItem ov iv v)
   release [v,ov,iv] [])) qQ0):PG X (.Subscript o i pos) (WX to ti t):=by
 intro pins s σ H v u Q I r h
 rw[ha]
 refine zc<|yH<|bw (ho pins s σ H _ I h) λov s1 ⟨x,H1,I1,r1,q1⟩=>?_
 refine zc<|yH<|bw (hi pins s1 σ H1 _ I1 q1) λiv s2 ⟨y,H2,I2,r2,q2⟩=>?_
 refine zc<|wpAny_standAt<|zc<|yH<|bw (hs pins s2 σ H2 x y v ov iv u _ I2 r1 r2 r q2) λ_ s3 ⟨H3,I3,q3⟩=>?_
 exact wpAny_release ⟨σ,H3,I3,q3⟩
def Od(te:TE)(g:TG):TS:=λD σ H=>te σ H λx H1=>g x σ H1 D.nx
theorem Gw(he:PE X e te)(hg:PG X tg g)(hs:autoParam (swapsWithSole [tg] e pos.line X.env=pure false) qQJ)(hw:autoParam (swappedStores [tg] e X.env=pure none) qQJ) (h1:autoParam ((assignEach [tg] X.env).map (·.2)=[assign tg X.env]) qQJ):PS X (.Assign [tg] e pos) (Od te g):=by intro pins s σ H D I h;refine wpAny_Assign_stores (bw (he pins s σ H _ I h) λv s1 ⟨x,H1,I1,r1,q1⟩=>?_) hs hw;rw[h1];exact bw (hg pins s1 σ H1 x v _ I1 r1 q1) λ_ s2 q=>q
theorem Oe(hN:X.N.Nodup)(hi:X.N[i]?=some x)(hx:Loc X.env.scope x)(he:PE X e te)(hs:autoParam (swapsWith e (some<|.Name x pos') pos.line X.env=pure false) qQJ)(hf:autoParam (X.fn x=true\/X.env.scope.names.lookup x=some .local) qQ6): PS X (.Assign [.Name x pos'] e pos) (Od te<|iy i):=by intro pins s σ H D I h;refine wpAny_Assign_Name (bw (he pins s σ H _ I h) λv s1 ⟨y,H1,I1,r1,q1⟩=>?_) hs;exact iV I1 hN hi hx r1 (λs2 I2=>{_,H1,I2,q1}) hf
def WY(i j:Nat)(ta:TA):TS:=λD σ H=>ta σ H λvs H1=>∃v w,vs=[v,w]/\D.nx ((σ.set i<|some v).set j<|some w) H1
theorem Of(hc:X.calm=true)(hN:X.N.Nodup)(hi:X.N[i]?=some x)(hj:X.N[j]?=some y)(iX:i≠j) (hx:X.env.scope.names.lookup x=some .local) (hy:X.env.scope.names.lookup y=some .local) (ha:PA X [a,b] ta) (hw:swappedStores [.Tuple [.Name x px,.Name y py] kt pt] (.Tuple [a,b] k2 pt2) X.env=pure (some [x,y])) (hs:autoParam (swapsWithSole [.Tuple [.Name x px,.Name y py] kt pt] (.Tuple [a,b] k2 pt2) pos.line X.env=pure false) qQJ): PS X (.Assign [.Tuple [.Name x px,.Name y py] kt pt] (.Tuple [a,b] k2 pt2) pos) (WY i j ta):=by
 intro pins s σ H D I h;rw[exec_Assign_arm];refine zc<|wpAny_standAt ?_;rw[hs];refine zc<|zo ?_;rw[if_neg<|by decide];refine zc<|Tuple_<|bw (ha _ pins s σ H _ I h) λus s1 ⟨vs,H1,I1,r1,q1⟩=>?_;obtain⟨v,w,e1,q1⟩:=q1;subst e1;obtain⟨u1,u2,rfl,rv,m7⟩:∃u1 u2,us=[u1,u2]/\RelV v u1/\RelV w u2:=by cases r1 with|cons p q=>cases q with|cons p' q'=>cases q';exact{_,_,rfl,p,p'}
 refine yi ?_ (by show 2<=sizeLine;decide);have I2:Inv X pins σ H1 {s1 with heap:=s1.heap.push {cls:=.type "tuple",data:=.seq [u1,u2].toArray}}:=I1.kept (t':=s1.toks) λb o e=>za _ e;rw[hw];refine zc<|zo ?_;show wpAny (model X.prog X.w) X.A (do rule "assign.swapped-stores";let items <-unpackItems (.ref s1.heap.objs.size) 2 none;assignInOrder [λv=>bindName X.env y v,λv=>bindName X.env x v] items.reverse;pure Flow.next) _ _ _;refine zc<|yW<|zc<|unpackItems_tuple (items:=#[u1,u2]) (I.ok.hd hc) (IsTup.new s1.heap _) λh' Eh=>?_;have I3:=I2.kept (h':=h') (t':=s1.toks) λb o e=>Eh b o (zA<|zt e) e;show wpAny _ _ (assignInOrder [λv=>bindName X.env y v,λv=>bindName X.env x v] [u2,u1] >>=λ_=>pure Flow.next) _ _ _;refine zc<|assignInOrder_cons<|wpAny_bindName<|iV I3 hN hj (.inl hy) m7 (λs2 I4=>?_)<|.inr hy;refine assignInOrder_cons<|wpAny_bindName<|iV I4 hN hi (.inl hx) rv (λs3 I5=>assignInOrder_nil<|zo ?_)<|.inr hx;rw[List.set_comm _ _<|Ne.symm iX]at I5;exact{_,H1,I5,q1}
def WZ(i:Nat)(te:TE)(ti:WW):TS:=λD σ H=>∃x,σ[i]?=some (some x)/\te σ H λy H1=>ti x y H1 λz H2=>D.nx (σ.set i<|some z) H2
theorem Oh(hN:X.N.Nodup)(hi:X.N[i]?=some x)(hx:Loc X.env.scope x)(he:PE X e te)(ho:Z5 X op ti)(hf:autoParam (X.fn x=true\/X.env.scope.names.lookup x=some .local) qQ6): PS X (.AugAssign (.Name x pos') op e pos) (WZ i te ti):=by
 intro pins s σ H D I h;obtain⟨v,e1,h⟩:=h;obtain⟨m,hn,hl⟩:=I.loc;have vis:JV X.env.scope x:=by rcases hx with k|k;exact .inl k;exact .inr<|.inl k
 obtain⟨u,r,l⟩:=hl i x v hi e1 vis;refine wpAny_AugAssign_Name ?_;have go:wpAny (model X.prog X.w) X.A (eval e X.env) (λw bS=>wpAny (model X.prog X.w) X.A (inplaceOp op u w) (λr AN=>wpAny (model X.prog X.w) X.A (storeName X.env x r) (λ_=>SP X pins D .next) X.xe AN) X.xe bS) X.xe s:=by refine bw (he pins s σ H _ I h) λw s1 ⟨y,H1,I1,r1,q1⟩=>?_;refine bw (ho pins s1 σ H1 v y u w _ I1 r r1 q1) λz s2 ⟨zv,H2,I2,r2,q2⟩=>?_;exact iV I2 hN hi hx r2 (λs3 I3=>{_,H2,I3,q2}) hf
 rcases l with⟨hk,hm⟩|⟨hk,c,hc,CH⟩;exact wpAny_loadName_local I.ok.kind hk hn hm go;rcases hk with hk|hk;exact wpAny_loadName_cell I.ok.kind hk hc CH go;rcases hx with k|k;have:X.env.scope.names.lookup x=some .free:=hk;rw[k]at this;cases this;have:X.env.scope.names.lookup x=some .free:=hk;rw[k]at this;cases this
def ipI(f:Int->Int->Int):WW:=λx y H Q=>∃i j,x=.int i/\y=.int j/\Q (.int<|f i j) H
theorem Oi:Z5 X .Add (ipI λi j=>i+j):=by intro pins s σ H x y v u Q I r1 r2 h;obtain⟨i,j,e1,e2,q⟩:=h;subst e1;subst e2;obtain⟨t,rfl⟩:=r1;obtain⟨t',rfl⟩:=r2;exact iadd_int {.int _,H,I.tok _,{_,rfl},q}
def Oj(c:TT)(tb:TS):TS:=λD σ H=>∃W:Nat->St->Hp->Prop,(∃m,W m σ H)/\∀m σ H,W m σ H->c σ H λb H1=>if b=true then ∃N:St->Hp->Prop,(∀aB H',N aB H'->∃m',m'<m/\W m' aB H')/\tb {D with nx:=N,ct:=N,bk:=D.nx} σ H1 else D.nx σ H1
theorem Gx(hp:PassesOwn (model X.prog X.w) X.A X.env X.xe)(hc:PT X c tc)(hb:CG X body tb):PS X (.While c body [] pos) (Oj tc tb):=by intro pins s σ H D I h;obtain⟨W,⟨m0,w0⟩,turn⟩:=h;refine wpAny_While<|codeAny_whileLoop (λn s'=>∃aB H',Inv X pins aB H' s'/\W n aB H') ?_ m0 ⟨σ,H,I,w0⟩;rintro n s1 ⟨wM,H1,I1,w1⟩;refine wpAny_passesOwn hp<|bw (hc pins s1 wM H1 _ I1<|turn n wM H1 w1) λb s2 ⟨H2,I2,q2⟩=>?_;cases b with|true=>(obtain⟨N,hN,q2⟩:=q2;rw[if_pos rfl];refine wpAny_passesOwn hp<|bw (hb pins s2 wM H2 _ I2 q2) λf s3 q3=>?_;cases f with|next=>(obtain⟨fM,H3,I3,n3⟩:=q3;obtain⟨m',hm,w3⟩:=hN fM H3 n3;exact⟨m',hm,fM,H3,I3,w3⟩)|cont=>(obtain⟨fM,H3,I3,n3⟩:=q3;obtain⟨m',hm,w3⟩:=hN fM H3 n3;exact⟨m',hm,fM,H3,I3,w3⟩)|brk=>exact q3|ret v=>exact q3)|false=>rw[if_neg zd];exact wpAny_execs_nil ⟨wM,H2,I2,q2⟩
end
structure It where
 go:Nat->Hp->Prop
 RZ:Nat->Hp->V->Hp->Prop
 stop:Nat->Hp->Prop
def sQ(X:Cx)(pins:List<|Addr×Obj)(H:Hp)(b:Addr):Prop:=H b=none/\b≠X.env.locals/\b∉X.fs/\(b∈X.ex\/X.dm.heap.objs.size<=b)/\(∀x c,X.env.cells.lookup x=some c->c≠b)/\∀p∈X.pn++pins,p.1≠b
theorem Inv.pj(I:Inv X pins σ H s)(hb:s.heap.objs.size<=b)(hn:H' b=none):sQ X pins H' b:=by refine{hn,yr<|zq I.lt hb,I.RM hb,.inr<|zH I.sz hb,λx c e z=>?_,λp hp z=>?_};obtain⟨v,q⟩:=I.cell x c e;exact absurd (zq q.lt<|by rw[z];exact hb)<|yB _;exact absurd (zq (zt (I.pin p hp).1)<|by rw[z];exact hb)<|yB _
structure Turn(P:Program)(w:World)(K:Frag)(tg:Expr)(J:It)(fp:List Addr)(it:Addr)(tn:Nat->Heap->Prop):Prop where
 mem:it∈fp
 obj:∀i h,tn i h->∀b∈fp,∃o,h.get? b=some o/\∀v,o.data≠.cell v
 keep:∀i h h',tn i h->(∀b∈fp,∀o,h.get? b=some o->h'.get? b=some o)->tn i h'
 item:∀(X:Cx),X.prog=P->X.w=w->X.K=K->X.calm=true->∀(i:Nat)(pins:List (Addr×Obj))(s:Shared)(σ:St)(H:Hp)(E:Value->Shared->Prop),Inv X pins σ H s->(∀b∈fp,sQ X pins H b)->tn i s.heap->J.go i H ->
  wpAny (model P w) X.A (pyNext<|.ref it) (λr s1=>∃u,r=some u /\
   wpAny (model P w) X.A (letOwnedTupleGo tg (.ref it) u) (λ_ s2=>∃x H',Inv X pins σ H' s2/\RelV x u/\J.RZ i H x H'/\tn (i+1) s2.heap/\∀b∈fp,H' b=none) E s1) E s
 done:∀(X:Cx),X.prog=P->X.w=w->X.K=K->X.calm=true->∀(i:Nat)(pins:List (Addr×Obj))(s:Shared)(σ:St)(H:Hp)(E:Value->Shared->Prop),Inv X pins σ H s->(∀b∈fp,sQ X pins H b)->tn i s.heap->J.stop i H ->
  wpAny (model P w) X.A (pyNext<|.ref it) (λr s1=>r=none/\Inv X pins σ H s1) E s
 self:∀(A:Around)(i:Nat)(s:Shared)(Q:Value->Shared->Prop)(E:Value->Shared->Prop),tn i s.heap->Q (.ref it) s->wpAny (model P w) A (pyIter<|.ref it) Q E s
abbrev TI:=St->Hp->(It->Hp->Prop)->Prop
def W0(X:Cx)(pins:List<|Addr×Obj)(σ:St)(tg:Expr)(R:It->Hp->Prop)(VI:Value)(s2:Shared):Prop:=∃(it:Addr)(fp:List Addr)(tn:Nat->Heap->Prop)(J:It)(H':Hp),VI=.ref it/\Inv X pins σ H' s2/\Turn X.prog X.w X.K tg J fp it tn/\tn 0 s2.heap/\(∀b∈fp,sQ X pins H' b)/\R J H'
def PI(X:Cx)(tg iter:Expr)(wi:TI):Prop:=∀(pins:List (Addr×Obj))(s:Shared)(σ:St)(H:Hp)(R:It->Hp->Prop),Inv X pins σ H s->wi σ H R->wpAny (model X.prog X.w) X.A (eval iter X.env) (λv s1=>wpAny (model X.prog X.w) X.A (pyIter v) (W0 X pins σ tg R) X.xe s1) X.xe s
theorem t6(ho:s.heap.get? it=some o)(hc:o.cls=.type n)(hd:o.data=.fields vs) (hn:["enumerate","zip","dict_itemiterator","dict_reverseitemiterator","odict_iterator","itertools.zip_longest","itertools.pairwise"].contains n=false) (hQ:Q () s):wpAny M A (letOwnedTupleGo tg (.ref it) u) Q E s:=by
 unfold letOwnedTupleGo
 cases tg<;>first
  |exact zo hQ
  | (cases u<;>first
    |exact zo hQ
    | (refine zc (wpAny_load ho ?_)
       rw[hc,hd]
       show wpAny M A (if (["enumerate","zip","dict_itemiterator","dict_reverseitemiterator","odict_iterator","itertools.zip_longest","itertools.pairwise"].contains n&&vs[0]?==some (rawInt _))=true then _ else _) Q E s
       rw[if_neg<|by intro h;rw[hn,zW]at h;cases h]
       exact zo hQ))
def Z6(K:Frag)(a:Addr):It:={λi H=>∃xs x,iW K H a xs/\xs[i]?=some x,λi H x H'=>H'=H/\∀xs,iW K H a xs->xs[i]?=some x,λi H=>∃xs,iW K H a xs/\xs.length<=i}
def Z7(K:Frag)(a:Addr):It:={λi H=>∃xs x,iw K H a xs/\xs[i]?=some x,λi H x H'=>H'=H/\∀xs,iw K H a xs->xs[i]?=some x,λi H=>∃xs,iw K H a xs/\xs.length<=i}
noncomputable def VJ(lo:Int)(n:Nat):It:={λi _=>i<n,λi H x H'=>H'=H/\x=.int (lo+i),λi _=>n<=i}
theorem Ei{P:Program}{w:World}{K:Frag}{tg:Expr}(a it:Addr):Turn P w K tg (Z6 K a) [it] it (λi h=>h.IsListIter it a i) where
 mem:=by simp
 obj:=λi h st b hb=>by
  have e:b=it:=by simpa using hb
  subst e
  obtain⟨o,e,c,d⟩:=st
  exact{o,e,λv z=>by rw[d]at z;cases z}
 keep:=λi h h' st k=>st.at λo e=>k it (by simp) o e
 item:=by
  intro X hP hw hK hc i pins s σ H E I hf st hg
  subst hP hw hK
  obtain⟨xs,x,hq,hx⟩:=hg
  obtain⟨az,rv,p,hz⟩:=I.list hq
  obtain⟨u,hu,ru⟩:=rv.get hx
  obtain⟨f0,f1,f2,f3,f4,f5⟩:=hf it<|by simp
  refine wpAny_pyNext_list_item st p.isList (x:=u) (by simpa using hu) λh' eK sb=>?_
  have I1:Inv X pins σ H {s with heap:=h'}:=I.turned (t':=s.toks) (λb o hb e=>(sb.2 b hb).trans e) f0 f1 f3 f4 f5
  obtain⟨o,e,c,d⟩:=id eK
  exact{u,rfl,t6 (s:={s with heap:=h'}) e c d (by decide) {x,H,I1,ru,{rfl,λys hy=>by rw[I.wZ hy hq];exact hx},eK,λb hb=>(hf b hb).1}}
 done:=by
  intro X hP hw hK hc i pins s σ H E I hf st hg
  subst hP hw hK
  obtain⟨xs,hq,hx⟩:=hg
  obtain⟨az,rv,p,hz⟩:=I.list hq
  obtain⟨f0,f1,f2,f3,f4,f5⟩:=hf it<|by simp
  have hl:=rv.length
  exact wpAny_pyNext_list_end (I.ok.hd hc) st p.isList (by simp;lia) λh' eb=>{rfl,I.turned (t':=s.toks) (λb o hb e=>eb b o hb e) f0 f1 f3 f4 f5}
 self:=λ_ _ _ _ _ st h=>wpAny_pyIter_listiter st h
theorem AO{P:Program}{w:World}{K:Frag}{tg:Expr}(a it:Addr):Turn P w K tg (Z7 K a) [it] it (λi h=>h.IsTupleIter it a i) where
 mem:=by simp
 obj:=λi h st b hb=>by
  have e:b=it:=by simpa using hb
  subst e
  obtain⟨o,e,c,d⟩:=st
  exact{o,e,λv z=>by rw[d]at z;cases z}
 keep:=λi h h' st k=>st.at λo e=>k it (by simp) o e
 item:=by
  intro X hP hw hK hc i pins s σ H E I hf st hg
  subst hP hw hK
  obtain⟨xs,x,hq,hx⟩:=hg
  obtain⟨az,rv,p,hz⟩:=I.tuple hq
  obtain⟨u,hu,ru⟩:=rv.get hx
  obtain⟨f0,f1,f2,f3,f4,f5⟩:=hf it<|by simp
  refine wpAny_pyNext_tuple_item st (show s.heap.IsTuple a az.toArray from p) (x:=u) (by simpa using hu) λh' eK sb=>?_
  have I1:Inv X pins σ H {s with heap:=h'}:=I.turned (t':=s.toks) (λb o hb e=>(sb.2 b hb).trans e) f0 f1 f3 f4 f5
  obtain⟨o,e,c,d⟩:=id eK
  exact{u,rfl,t6 (s:={s with heap:=h'}) e c d (by decide) {x,H,I1,ru,{rfl,λys hy=>by rw[I.m6 hy hq];exact hx},eK,λb hb=>(hf b hb).1}}
 done:=by
  intro X hP hw hK hc i pins s σ H E I hf st hg
  subst hP hw hK
  obtain⟨xs,hq,hx⟩:=hg
  obtain⟨az,rv,p,hz⟩:=I.tuple hq
  obtain⟨f0,f1,f2,f3,f4,f5⟩:=hf it<|by simp
  have hl:=rv.length
  exact wpAny_pyNext_tuple_end (I.ok.hd hc) st (show s.heap.IsTuple a az.toArray from p) (by simp;lia) λh' eb=>{rfl,I.turned (t':=s.toks) (λb o hb e=>eb b o hb e) f0 f1 f3 f4 f5}
 self:=λ_ _ _ _ _ st h=>wpAny_pyIter_tupleiter st h
theorem AQ{P:Program}{w:World}{K:Frag}{tg:Expr}(it:Addr)(lo:Int)(n:Nat):Turn P w K tg (VJ lo n) [it] it (λi h=>IsRangeIter h it (lo+(i:Nat)*1) ((n:Int)-(i:Nat)) 1) where
 mem:=by simp
 obj:=λi h st b hb=>by
  have e:b=it:=by simpa using hb
  subst e
  exact⟨_,st,λv z=>by
   have z':Data.fields _=Data.cell v:=z
   cases z'⟩
 keep:=λi h h' st k=>k it (by simp) _ st
 item:=by
  intro X hP hw hK hc i pins s σ H E I hf st hg
  subst hP hw hK
  obtain⟨f0,f1,f2,f3,f4,f5⟩:=hf it<|by simp
  have W:=Walks.range (prog:=X.prog) (w:=X.w) (I.ok.hd hc) it lo 1 n
  refine W.item i s _ _ hg st λv h' tk hv eK kk=>?_
  obtain⟨t,rfl⟩:=hv
  have I1:Inv X pins σ H {s with heap:=h',toks:=tk}:=I.turned (λb o hb e=>kk b o (by simpa using hb) e) f0 f1 f3 f4 f5
  refine{_,rfl,t6 (s:={s with heap:=h',toks:=tk}) (n:="range_iterator") eK rfl rfl (by decide) {.int<|lo+i,H,I1,{t,?_},⟨rfl,rfl⟩,eK,λb hb=>(hf b hb).1}}
  rw[Int.mul_one]
 done:=by
  intro X hP hw hK hc i pins s σ H E I hf st hg
  subst hP hw hK
  obtain⟨f0,f1,f2,f3,f4,f5⟩:=hf it<|by simp
  exact wpAny_pyNext_range_end (I.ok.hd hc) st (by have:n<=i:=hg;lia) λh' eb=>{rfl,I.turned (t':=s.toks) (λb o hb e=>eb b o hb e) f0 f1 f3 f4 f5}
 self:=λ_ _ _ _ _ st h=>wpAny_pyIter_rangeiter st h
section
variable{X:Cx}{tg:Expr}
def R1(K:Frag)(tl:TE):TI:=λσ H R=>tl σ H λx H1=>∃a,x=.ref a/\(∃xs,iW K H1 a xs)/\R (Z6 K a) H1
def W2(K:Frag)(tl:TE):TI:=λσ H R=>tl σ H λx H1=>∃a,x=.ref a/\(∃xs,iw K H1 a xs)/\R (Z7 K a) H1
theorem J5{l:Expr}{tl:TE}(hl:PE X l tl):PI X tg l (R1 X.K tl):=by
 intro pins s σ H R I h;refine bw (hl pins s σ H _ I h) λv s1 ⟨x,H1,I1,r1,q1⟩=>?_;obtain⟨a,e,⟨xs,hq⟩,q⟩:=q1;subst e;cases r1;obtain⟨az,rv,p,hz⟩:=I1.list hq;refine wpAny_pyIter_list p.isList ?_;refine{s1.heap.objs.size,[s1.heap.objs.size],_,_,H1,rfl,I1.kept (t':=s1.toks) λb o e=>za _ e,Ei a _,{_,zk _ rfl,rfl,rfl},λb hb=>?_,q};have e:b=s1.heap.objs.size:=by simpa using hb
 subst e;exact I1.pj (zr _)<|I1.aJ.fresh<|zr _
theorem Ol{l:Expr}{tl:TE}(hl:PE X l tl):PI X tg l (W2 X.K tl):=by
 intro pins s σ H R I h;refine bw (hl pins s σ H _ I h) λv s1 ⟨x,H1,I1,r1,q1⟩=>?_;obtain⟨a,e,⟨xs,hq⟩,q⟩:=q1;subst e;cases r1;obtain⟨az,rv,p,hz⟩:=I1.tuple hq;refine wpAny_pyIter_tuple (show s1.heap.IsTuple a az.toArray from p) ?_;refine{s1.heap.objs.size,[s1.heap.objs.size],_,_,H1,rfl,I1.kept (t':=s1.toks) λb o e=>za _ e,AO a _,{_,zk _ rfl,rfl,rfl},λb hb=>?_,q};have e:b=s1.heap.objs.size:=by simpa using hb
 subst e;exact I1.pj (zr _)<|I1.aJ.fresh<|zr _
theorem Gy{pins:List<|Addr×Obj}{σ:St}{H:Hp}{s:Shared}{R:It->Hp->Prop}{E:Value->Shared->Prop}{lo hi:Int}{t u v:Tok}{tk:Nat}(I:Inv X pins σ H s)(h1:-(2^62)<=lo)(h2:lo<2^62)(h3:-(2^62)<=hi)(h4:hi<2^62) (q:R (VJ lo (hi-lo).toNat) H):wpAny (model X.prog X.w) X.A (pyIter<|.ref s.heap.objs.size) (W0 X pins σ tg R) E {s with heap:=s.heap.push {cls:=.type "range",data:=.fields #[.int lo t,.int hi u,.int 1 v]},toks:=tk}:=by
 refine wpAny_pyIter_range (IsRange.new ..) (small_one h1 h2 h3 h4) ?_;have I1:Inv X pins σ H {s with heap:=s.heap.push {cls:=.type "range",data:=.fields #[.int lo t,.int hi u,.int 1 v]},toks:=tk}:=I.kept λb o e=>za _ e;refine{(s.heap.push {cls:=.type "range",data:=.fields #[.int lo t,.int hi u,.int 1 v]}).objs.size,[(s.heap.push {cls:=.type "range",data:=.fields #[.int lo t,.int hi u,.int 1 v]}).objs.size],_,_,H,rfl,I1.kept (t':=tk) λb o e=>za _ e,AQ _ lo (hi-lo).toNat,?_,λb hb=>?_,q};have e1:lo+((0:Nat):Int)*1=lo:=by simp
 have e2:(((hi-lo).toNat:Nat):Int)-((0:Nat):Int)=Builtin.Range.rangeSize lo hi 1:=by rw[rangeSize_one];split<;>lia
 show IsRangeIter _ _ (lo+((0:Nat):Int)*1) ((((hi-lo).toNat:Nat):Int)-((0:Nat):Int)) 1;rw[e1,e2];exact zk _ rfl;have e:b=(s.heap.push {cls:=.type "range",data:=.fields #[.int lo t,.int hi u,.int 1 v]}).objs.size:=by simpa using hb
 subst e;exact I1.pj (zr _)<|I1.aJ.fresh<|zr _
def R3(ta:TA):TI:=λσ H R=>ta σ H λvs H1=>∃j:Int,vs=[.int j]/\-(2^62)<=j/\j<2^62/\R (VJ 0 j.toNat) H1
theorem Ej{a:Expr}{ta:TA}{p pos:Pos}(hg:Gl X "range")(hm:X.mg "range"= none)(ha:PA X [a] ta)(hs:autoParam (starEach [a] X.env=[(false,eval a X.env)]) qQJ):PI X tg (.Call (.Name "range" p) [a] [] pos) (R3 ta):=by intro pins s σ H R I h;refine Call_<|gk I hg hm boot_range<|PyProof.Rows.callWith_type1 (bw (ha pos pins s σ H _ I h) λus s1 ⟨vs,H1,I1,r1,q1⟩=>?_) hs rfl;obtain⟨j,e,q1,q2,q⟩:=q1;subst e;cases r1 with|cons r rr=>cases rr;obtain⟨t,rfl⟩:=r;exact call_range_1<|Gy I1 (by lia) (by lia) q1 q2<|by simpa using q
def W3(wi:TI)(g:TG)(tb:TS):TS:=λD σ H=>wi σ H λJ H1=>∃W:Nat->Nat->St->Hp->Prop,(∃m,W 0 m σ H1)/\∀i m σ H,W i m σ H->(J.stop i H/\D.nx σ H)\/(J.go i H/\∃N:St->Hp->Prop,(∀aB H',N aB H'->∃m',m'<m/\W (i+1) m' aB H')/\∀x H',J.RZ i H x H'->g x σ H' λpX H2=>tb {D with nx:=N,ct:=N,bk:=D.nx} pX H2)
noncomputable def qu(fp:List Addr)(h:Heap):List (Addr×Obj):=fp.filterMap λb=>(h.get? b).map λo=>(b,o)
theorem g9(hb:b∈fp)(e:h.get? b=some o):(b,o)∈qu fp h:=List.mem_filterMap.mpr {b,hb,by rw[e];rfl}
theorem Ek(hp:p∈qu fp h):p.1∈fp/\h.get? p.1=some p.2:=by obtain⟨b,hb,e⟩:=List.mem_filterMap.mp hp;cases q:h.get? b with|none=>(rw[q]at e;cases e)|some o=>rw[q]at e;have e':(b,o)=p:=zT e;subst e';exact⟨hb,q⟩
theorem Inv.pinned(I:Inv X pins σ H s)(hf:∀b∈fp,sQ X pins H b)(ho:∀b∈fp,∃o,s.heap.get? b=some o/\∀v,o.data≠.cell v):Inv X (pins++qu fp s.heap) σ H s:=I.lL λp hp=>(zP.mp hp).elim (λz=>I.pin p<|zD _ z) λz=>by obtain⟨hb,e⟩:=Ek z;obtain⟨f0,f1,f2,_⟩:=hf p.1 hb;obtain⟨o,e',d⟩:=ho p.1 hb;rw[e]at e';cases e';exact⟨e,f0,f1,f2,d⟩
theorem Inv.qv(I:Inv X (pins++pl) σ H s):Inv X pins σ H s:=I.lL λp hp=>I.pin p<|zD _<|yn _ hp
theorem Om(hp:PassesOwn (model X.prog X.w) X.A X.env X.xe)(hc:X.calm=true)(hi:PI X tg iter wi)(hg:PG X tg g)(hb:CG X body tb) (hs:autoParam (∀x,foldedSetIterable iter X.env x=pure x) qQ0):PS X (.For tg iter body [] pos) (W3 wi g tb):=by intro pins s σ H D I h;refine wpAny_For (bw (hi pins s σ H _ I h) λv s1 h1=>bw h1 λVI s2 h2=>?_) hs;obtain⟨it,fp,tn,J,H2,e,I2,T,ME,f2,W,⟨m0,w0⟩,turn⟩:=h2;subst e;have Oo:∀{H':Hp},(∀b∈fp,H' b=none)->∀b∈fp,sQ X pins H' b:=λhn b hb=>{hn b hb,(f2 b hb).2};refine codeAny_forLoop_any (λn s'=>∃i aB H',Inv X pins aB H' s'/\tn i s'.heap/\(∀b∈fp,H' b=none)/\W i n aB H') ?_ m0 {0,σ,H2,I2,ME,λb hb=>(f2 b hb).1,w0};rintro n s3 ⟨i,fM,H3,I3,MF,R4,w3⟩;rcases turn i n fM H3 w3 with⟨stop,qn⟩|⟨go,N,hN,step⟩;refine wpAny_passesOwn hp<|bw (T.done X rfl rfl rfl hc i pins s3 fM H3 X.xe I3 (Oo R4) MF stop) λr s4 ⟨hr,I4⟩=>?_;subst hr;exact wpAny_execs_nil ⟨fM,H3,I4,qn⟩;{refine wpAny_passesOwn hp<|bw (T.item X rfl rfl rfl hc i pins s3 fM H3 X.xe I3 (Oo R4) MF go) λr s4 ⟨u,hr,h4⟩=>?_;subst hr;refine wpAny_passesOwn hp<|bw h4 λ_ s5 ⟨x,H5,I5,r5,y5,JF,fr5⟩=>?_;have W4:=I5.pinned (Oo fr5)<|T.obj _ _ JF;refine wpAny_passesOwn hp<|bw (hg _ s5 fM H5 x u _ W4 r5<|step x H5 y5) λ_ s6 ⟨R5,H6,I6,q6⟩=>?_;refine wpAny_passesOwn hp<|bw (hb _ s6 R5 H6 _ I6 q6) λf s7 q7=>?_;have again:∀{Gz:St}{H7:Hp},Inv X (pins++qu fp s5.heap) Gz H7 s7->N Gz H7->∃m,m<n/\∃i aB H',Inv X pins aB H' s7/\tn i s7.heap/\(∀b∈fp,H' b=none)/\W i m aB H':=λ{Gz H7} I7 n7=>(by obtain⟨m',hm,w7⟩:=hN Gz H7 n7;refine{m',hm,i+1,Gz,H7,I7.qv,T.keep _ _ _ JF λb hb o e=>(I7.pin (b,o)<|zD _<|zD _<|g9 hb e).1,λb hb=>?_,w7};obtain⟨o,e,d⟩:=T.obj _ _ JF b hb;exact(I7.pin (b,o)<|zD _<|zD _<|g9 hb e).2.1);cases f with|next=>(obtain⟨Gz,H7,I7,n7⟩:=q7;exact again I7 n7)|cont=>(obtain⟨Gz,H7,I7,n7⟩:=q7;exact again I7 n7)|brk=>(obtain⟨Gz,H7,I7,q7⟩:=q7;exact⟨Gz,H7,I7.qv,q7⟩)|ret v=>obtain⟨x7,Gz,H7,I7,r7,q7⟩:=q7;exact⟨x7,Gz,H7,I7.qv,r7,q7⟩}
end
abbrev R2:=V->V->Hp->VK->Prop
def gW(X:Cx)(f:Value->Value->Sem Value)(r:R2):Prop:=∀(pins:List (Addr×Obj))(s:Shared)(σ:St)(H:Hp)(x y:V)(v u:Value)(Q:VK),Inv X pins σ H s->RelV x v->RelV y u->r x y H Q->wpAny (model X.prog X.w) X.A (f v u) (EP X pins σ Q) X.xe s
def W5(X:Cx)(f:Value->Sem Value)(r:V->Hp->VK->Prop):Prop:=∀(pins:List (Addr×Obj))(s:Shared)(σ:St)(H:Hp)(x:V)(v:Value)(Q:VK),Inv X pins σ H s->RelV x v->r x H Q->wpAny (model X.prog X.w) X.A (f v) (EP X pins σ Q) X.xe s
def ee(X:Cx)(f:Value)(r:List V->Hp->VK->Prop):Prop:=∀(pins:List (Addr×Obj))(s:Shared)(σ:St)(H:Hp)(xs:List V)(us:List Value)(Q:VK),Inv X pins σ H s->Vals xs us->r xs H Q->wpAny (model X.prog X.w) X.A (call f us) (EP X pins σ Q) X.xe s
def QY(r:R2)(ta tb:TE):TE:=λσ H Q=>ta σ H λx H1=>tb σ H1 λy H2=>r x y H2 Q
def tUn(r:V->Hp->VK->Prop)(ta:TE):TE:=λσ H Q=>ta σ H λx H1=>r x H1 Q
def rI(C:Int->Int->Prop)(g:Int->Int->V):R2:=λx y H Q=>∃i j,x=.int i/\y=.int j/\C i j/\Q (g i j) H
def J6(g:Int->Int->V):R2:=λx y H Q=>∃i j,x=.int i/\y=.int j/\Q (g i j) H
def rU(g:Int->V):V->Hp->VK->Prop:=λx H Q=>∃i,x=.int i/\Q (g i) H
section
variable{X:Cx}{a b:Expr}{ta tb:TE}{pos:Pos}
theorem Oq(ha:PE X a ta)(hb:PE X b tb){pins:List<|Addr×Obj}{s:Shared}{σ:St}{H:Hp}{R:V->V->Hp->Prop}(I:Inv X pins σ H s) (h:ta σ H λx H1=>tb σ H1 λy H2=>R x y H2) {Q:Value->Shared->Prop}{f:Value->Value->Sem Value} (hf:∀v u s2 x y H2,Inv X pins σ H2 s2->RelV x v->RelV y u->R x y H2->wpAny (model X.prog X.w) X.A (f v u) Q X.xe s2): wpAny (model X.prog X.w) X.A (eval a X.env) (λv a_=>wpAny (model X.prog X.w) X.A (eval b X.env) (λu bS=>wpAny (model X.prog X.w) X.A (f v u) Q X.xe bS) X.xe a_) X.xe s:=by refine bw (ha pins s σ H _ I h) λv s1 ⟨x,H1,I1,r1,q1⟩=>?_;refine bw (hb pins s1 σ H1 _ I1 q1) λu s2 ⟨y,H2,I2,r2,q2⟩=>?_;exact hf v u s2 x y H2 I2 r1 r2 q2
theorem R6{op:Operator}{r:R2}(ho:gW X (binaryOp op) r)(ha:PE X a ta)(hb:PE X b tb):PE X (.BinOp a op b pos) (QY r ta tb):=by intro pins s σ H Q I h;exact wpAny_BinOp<|Oq ha hb I h λv u s2 x y H2 I2 rx ry q=>ho pins s2 σ H2 x y v u Q I2 rx ry q
theorem R7(ho:W5 X (unaryOp op) r)(ha:PE X a ta):PE X (.UnaryOp op a pos) (tUn r ta):=by intro pins s σ H Q I h;exact UnaryOp_<|bw (ha pins s σ H _ I h) <| by rintro v s1 ⟨x,H1,I1,r1,q1⟩;exact ho pins s1 σ H1 x v Q I1 r1 q1
theorem VL{f:Value->Value->Sem Value}{C:Int->Int->Prop}{g:Int->Int->Int} (rule:∀(i j:Int)(t u:Tok)(s:Shared)(Q:Value->Shared->Prop)(E:Value->Shared->Prop),C i j->Q (.int (g i j) s.toks) {s with toks:=s.toks+1}->wpAny (model X.prog X.w) X.A (f (.int i t)<|.int j u) Q E s): gW X f (rI C λi j=>.int<|g i j):=by intro pins s σ H x y v u Q I rx ry h;obtain⟨i,j,rfl,rfl,hc,q⟩:=h;obtain⟨t,rfl⟩:=rx;obtain⟨t',rfl⟩:=ry;exact rule i j t t' s _ _ hc {.int<|g i j,H,I.tok _,{_,rfl},q}
theorem R8{f:Value->Value->Sem Value}{g:Int->Int->Int} (rule:∀(i j:Int)(t u:Tok)(s:Shared)(Q:Value->Shared->Prop)(E:Value->Shared->Prop),Q (.int (g i j) s.toks) {s with toks:=s.toks+1}->wpAny (model X.prog X.w) X.A (f (.int i t)<|.int j u) Q E s): gW X f (J6 λi j=>.int<|g i j):=by intro pins s σ H x y v u Q I rx ry h;obtain⟨i,j,rfl,rfl,q⟩:=h;obtain⟨t,rfl⟩:=rx;obtain⟨t',rfl⟩:=ry;exact rule i j t t' s _ _ {.int<|g i j,H,I.tok _,{_,rfl},q}
theorem J_{f:Value->Value->Sem Value}{g:Int->Int->Bool} (rule:∀(i j:Int)(t u:Tok)(s:Shared)(Q:Value->Shared->Prop)(E:Value->Shared->Prop),Q (.bool<|g i j) s->wpAny (model X.prog X.w) X.A (f (.int i t)<|.int j u) Q E s): gW X f (J6 λi j=>.bl<|g i j):=by intro pins s σ H x y v u Q I rx ry h;obtain⟨i,j,rfl,rfl,q⟩:=h;obtain⟨t,rfl⟩:=rx;obtain⟨t',rfl⟩:=ry;exact rule i j t t' s _ _ {.bl<|g i j,H,I,rfl,q}
def R9(i j:Int):Prop:=0<=j/\j<=1000000/\i.natAbs<2^64
def Ka(i j:Int):Prop:=(-(2^64)<i/\i<2^64)\/(-(2^64)<j/\j<2^64)
theorem Ka.ok{i j:Int}(h:Ka i j):IntMulOk i j:=by rcases h with⟨h1,h2⟩|⟨h1,h2⟩;exact .of_left<|intBits_le_64 h1 h2;exact .of_right<|intBits_le_64 h1 h2
theorem Ot:gW X (binaryOp .Add) (J6 λi j=>.int<|i+j):=R8 λ_ _ _ _ _ _ _ q=>add_int q
theorem Ou:gW X (binaryOp .Sub) (J6 λi j=>.int<|i-j):=R8 λ_ _ _ _ _ _ _ q=>sub_int q
theorem Ov:gW X (binaryOp .Mult) (rI Ka λi j=>.int<|i*j):=VL λ_ _ _ _ _ _ _ hc q=>mul_int q hc.ok
theorem Ow:gW X (binaryOp .Mod) (rI (λ_ j=>0<j) λi j=>.int<|i%j):=VL λi j _ _ _ _ _ hc q=>by have h1:(0:Int)<j:=hc;exact mod_int' (by lia)<|by rw[Int.fmod_eq_emod_of_nonneg i<|by lia];exact q
theorem Ox:gW X (binaryOp .Pow) (rI R9 λi j=>.int<|i^j.toNat):=VL λ_ _ _ _ _ _ _ hc q=>pow_int_small hc.1 hc.2.1 hc.2.2 q
theorem unI{f:Value->Sem Value}{g:Int->Int} (rule:∀(i:Int)(t:Tok)(s:Shared)(Q:Value->Shared->Prop)(E:Value->Shared->Prop),Q (.int (g i) s.toks) {s with toks:=s.toks+1}->wpAny (model X.prog X.w) X.A (f<|.int i t) Q E s): W5 X f (rU λi=>.int<|g i):=by intro pins s σ H x v Q I rx h;obtain⟨i,rfl,q⟩:=h;obtain⟨t,rfl⟩:=rx;exact rule i t s _ _ {.int<|g i,H,I.tok _,{_,rfl},q}
theorem Oy:W5 X (unaryOp .USub) (rU λi=>.int (-i)):=unI λ_ _ _ _ _ q=>neg_int q
end
noncomputable def R_:V->V->Bool|.av,.av=>true|.av,.int _=>true|.int _,.av=>true|.av,.bl _=>true|.bl _,.av=>true|.av,.str _=>true|.str _,.av=>true|.int _,.int _=>true|.bl _,.bl _=>true|.str _,.str _=>true|.CF _,.CF _=>true|.int _,.str _=>true|.str _,.int _=>true|.bl _,.str _=>true|.str _,.bl _=>true|_,_=>false
def rEq:R2:=λx y H Q=>R_ x y=true/\Q (.bl<|decide<|x=y) H
def rNe:R2:=λx y H Q=>R_ x y=true/\Q (.bl<|!decide (x=y)) H
theorem CK:decide (V.int i=V.int j)=(i==j):=by rw[yp];simp
theorem GA:decide (V.bl i=V.bl j)=(i==j):=by rw[yp];simp
theorem CL:decide (V.str i=V.str j)=(i==j):=by rw[yp];simp
theorem CM:decide (V.CF i=V.CF j)=(i.toList==j.toList):=by rw[yp];cases i;cases j;simp
section
variable{X:Cx}{a b c:Expr}{ta tb tc:TE}{pos:Pos}
theorem aG(I:Inv X pins σ H s)(q:Q (.bl k) H)(e:k=k'):EP X pins σ Q (.bool k') s:=by subst e;exact{.bl k,H,I,rfl,q}
theorem MG:gW X (compareOp .Eq) rEq:=by intro pins s σ H x y v u Q I rx ry h;obtain⟨hs,q⟩:=h;cases x with|av=>(cases rx;cases y with|av=>(cases ry;exact PySem.EqNone.eq_none_none<|aG I q<|by simp)|bl j=>(cases ry;exact PySem.EqNone.eq_none_bool<|aG I q<|by simp)|int j=>(obtain⟨t',rfl⟩:=ry;exact PySem.EqNone.eq_none_int<|aG I q<|by simp)|str j=>(obtain⟨t',rfl⟩:=ry;exact PySem.EqNone.eq_none_str<|aG I q<|by simp)|_=>exact absurd (show false=true from hs) zd)|bl i=>(cases rx;cases y with|av=>(cases ry;exact PySem.EqNone.eq_bool_none<|aG I q<|by simp)|bl j=>(cases ry;exact eq_bool<|aG I q GA)|str j=>(obtain⟨t',rfl⟩:=ry;exact PySem.EqMixed.eq_bool_str<|aG I q<|by simp)|_=>exact absurd (show false=true from hs) zd)|int i=>(obtain⟨t,rfl⟩:=rx;cases y with|av=>(cases ry;exact PySem.EqNone.eq_int_none<|aG I q<|by simp)|int j=>(obtain⟨t',rfl⟩:=ry;exact eq_int<|aG I q CK)|str j=>(obtain⟨t',rfl⟩:=ry;exact PySem.EqMixed.eq_int_str<|aG I q<|by simp)|_=>exact absurd (show false=true from hs) zd)|str i=>(obtain⟨t,rfl⟩:=rx;cases y with|av=>(cases ry;exact PySem.EqNone.eq_str_none<|aG I q<|by simp)|bl j=>(cases ry;exact PySem.EqMixed.eq_str_bool<|aG I q<|by simp)|int j=>(obtain⟨t',rfl⟩:=ry;exact PySem.EqMixed.eq_str_int<|aG I q<|by simp)|str j=>(obtain⟨t',rfl⟩:=ry;exact eq_str<|aG I q CL)|_=>exact absurd (show false=true from hs) zd)|CF i=>(obtain⟨t,rfl⟩:=rx;cases y with|CF j=>(obtain⟨t',rfl⟩:=ry;exact PySem.W.eq_bytes<|aG I q CM)|_=>exact absurd (show false=true from hs) zd)|_=>cases y<;>exact absurd (show false=true from hs) zd
theorem MH:gW X (compareOp .NotEq) rNe:=by intro pins s σ H x y v u Q I rx ry h;obtain⟨hs,q⟩:=h;cases x with|av=>(cases rx;cases y with|av=>(cases ry;exact PySem.EqNone.ne_none_none<|aG I q<|by simp)|bl j=>(cases ry;exact PySem.EqNone.ne_none_bool<|aG I q<|by simp)|int j=>(obtain⟨t',rfl⟩:=ry;exact PySem.EqNone.ne_none_int<|aG I q<|by simp)|str j=>(obtain⟨t',rfl⟩:=ry;exact PySem.EqNone.ne_none_str<|aG I q<|by simp)|_=>exact absurd (show false=true from hs) zd)|bl i=>(cases rx;cases y with|av=>(cases ry;exact PySem.EqNone.ne_bool_none<|aG I q<|by simp)|bl j=>(cases ry;exact ne_bool<|aG I q<|congrArg not GA)|str j=>(obtain⟨t',rfl⟩:=ry;exact PySem.EqMixed.ne_bool_str<|aG I q<|by simp)|_=>exact absurd (show false=true from hs) zd)|int i=>(obtain⟨t,rfl⟩:=rx;cases y with|av=>(cases ry;exact PySem.EqNone.ne_int_none<|aG I q<|by simp)|int j=>(obtain⟨t',rfl⟩:=ry;exact ne_int<|aG I q<|congrArg not CK)|str j=>(obtain⟨t',rfl⟩:=ry;exact PySem.EqMixed.ne_int_str<|aG I q<|by simp)|_=>exact absurd (show false=true from hs) zd)|str i=>(obtain⟨t,rfl⟩:=rx;cases y with|av=>(cases ry;exact PySem.EqNone.ne_str_none<|aG I q<|by simp)|bl j=>(cases ry;exact PySem.EqMixed.ne_str_bool<|aG I q<|by simp)|int j=>(obtain⟨t',rfl⟩:=ry;exact PySem.EqMixed.ne_str_int<|aG I q<|by simp)|str j=>(obtain⟨t',rfl⟩:=ry;exact ne_str<|aG I q<|congrArg not CL)|_=>exact absurd (show false=true from hs) zd)|CF i=>(obtain⟨t,rfl⟩:=rx;cases y with|CF j=>(obtain⟨t',rfl⟩:=ry;exact PySem.W.ne_bytes<|aG I q<|congrArg not CM)|_=>exact absurd (show false=true from hs) zd)|_=>cases y<;>exact absurd (show false=true from hs) zd
theorem Sa:gW X (compareOp .Lt) (J6 λi j=>.bl<|decide<|i<j):=J_ λ_ _ _ _ _ _ _ q=>lt_int q
theorem Sb:gW X (compareOp .LtE) (J6 λi j=>.bl<|decide<|i<=j):=J_ λ_ _ _ _ _ _ _ q=>le_int q
theorem Sd:gW X (compareOp .Gt) (J6 λi j=>.bl<|decide<|j<i):=J_ λ_ _ _ _ _ _ _ q=>gt_int q
theorem Se:gW X (compareOp .GtE) (J6 λi j=>.bl<|decide<|j<=i):=J_ λ_ _ _ _ _ _ _ q=>ge_int q
theorem El:gW X (compareOp .Lt) (λx y H Q=>∃i j,x=.str i/\y=.str j/\Q (.bl<|decide<|i.cps.toList<j.cps.toList) H):=by intro pins s σ H x y v u Q I rx ry h;obtain⟨i,j,rfl,rfl,q⟩:=h;obtain⟨t,rfl⟩:=rx;obtain⟨t',rfl⟩:=ry;exact lt_str<|aG I q rfl
theorem Em:gW X (compareOp .In) (λx y H Q=>∃i j,x=.str i/\y=.str j/\Q (.bl<|!(Builtin.Str.occurrences j i 0 j.length 1).isEmpty) H):=by intro pins s σ H x y v u Q I rx ry h;obtain⟨i,j,rfl,rfl,q⟩:=h;obtain⟨t,rfl⟩:=rx;obtain⟨t',rfl⟩:=ry;exact in_str<|aG I q rfl
theorem Oz:gW X (compareOp .Is) (λx y H Q=>y=.av/\Q (.bl<|decide<|x=.av) H):=by intro pins s σ H x y v u Q I rx ry h;obtain⟨rfl,q⟩:=h;cases ry;refine is_none_gen<|aG I q ?_;cases x<;>first| (cases rx;rfl)| (obtain⟨t,rfl⟩:=rx;rfl)
theorem Kb:gW X (compareOp .IsNot) (λx y H Q=>y=.av/\Q (.bl<|!decide (x=.av)) H):=by intro pins s σ H x y v u Q I rx ry h;obtain⟨rfl,q⟩:=h;cases ry;refine isnot_none_gen<|aG I q ?_;cases x<;>first| (cases rx;rfl)| (obtain⟨t,rfl⟩:=rx;rfl)
theorem W6(b:Expr)(h:autoParam (op≠.In) qQZ)(h2:autoParam (op≠.NotIn) qQZ):behindInMarks op b=false:=by
 have e1:(op==CmpOp.In)=false:=by cases op<;>first|rfl|exact absurd rfl h
 have e2:(op==CmpOp.NotIn)=false:=by cases op<;>first|rfl|exact absurd rfl h2
 cases b<;>simp[behindInMarks,e1,e2]
theorem CO{op:CmpOp}{r:R2}(ho:gW X (compareOp op) r)(ha:PE X a ta)(hb:PE X b tb)(hm:behindInMarks op b=false):PE X (.Compare a [op] [b] pos) (QY r ta tb):=by intro pins s σ H Q I h;exact wpAny_Compare1 (Oq ha hb I h λv u s2 x y H2 I2 rx ry q=>ho pins s2 σ H2 x y v u Q I2 rx ry q) hm
def GB(t:TE):TT:=λσ H Q=>t σ H λx H'=>∃k,x=.bl k/\Q k H'
theorem Kc{op:CmpOp}{r:R2}(ho:gW X (compareOp op) r)(ha:PE X a ta)(hb:PE X b tb)(hm:behindInMarks op b=false):PT X (.Compare a [op] [b] pos) (GB<|QY r ta tb):=by intro pins s σ H Q I h;refine wpAny_isTrue_Compare1 (bw (ha pins s σ H _ I h) λv s1 ⟨x,H1,I1,r1,q1⟩=>bw (hb pins s1 σ H1 _ I1 q1) λu s2 ⟨y,H2,I2,r2,q2⟩=>bw (ho pins s2 σ H2 x y v u _ I2 r1 r2 q2) λc s3 ⟨z,H3,I3,r3,k,e,q3⟩=>?_) hm;subst e;cases r3;exact yx ⟨H3,I3,q3⟩
def AR(r r':R2)(ta tb tc:TE):TE:=λσ H Q=>ta σ H λx H1=>tb σ H1 λy H2=>r x y H2 λz H3=>∃k,z=.bl k/\(if k=true then tc σ H3 λw' H4=>r' y w' H4 Q else Q (.bl false) H3)
theorem GC{op En:CmpOp}{r r':R2}(ho:gW X (compareOp op) r)(AM:gW X (compareOp En) r')(ha:PE X a ta)(hb:PE X b tb)(hc:PE X c tc) (hm:autoParam (lastMarks [op,En] [b,c]=false) qQ2):PE X (.Compare a [op,En] [b,c] pos) (AR r r' ta tb tc):=by intro pins s σ H Q I h;refine Compare_chain (bw (ha pins s σ H _ I h) λv s1 ⟨x,H1,I1,r1,q1⟩=>chain_link<|bw (hb pins s1 σ H1 _ I1 q1) λu s2 ⟨y,H2,I2,r2,q2⟩=>bw (ho pins s2 σ H2 x y v u _ I2 r1 r2 q2) λd s3 ⟨z,H3,I3,r3,k,e,q3⟩=>?_) hm;subst e;cases r3;refine yx ?_;cases k with|false=>exact ite_ff {.bl false,H3,I3,rfl,q3}|true=>exact ite_tt<|chain_last<|bw (hc pins s3 σ H3 _ I3 q3) λw' s4 ⟨z',H4,I4,r4,q4⟩=>AM pins s4 σ H4 y z' u w' Q I4 r2 r4 q4
theorem GF{op En:CmpOp}{r r':R2}(ho:gW X (compareOp op) r)(AM:gW X (compareOp En) r')(ha:PE X a ta)(hb:PE X b tb)(hc:PE X c tc) (hm:autoParam (lastMarks [op,En] [b,c]=false) qQ2):PT X (.Compare a [op,En] [b,c] pos) (GB<|AR r r' ta tb tc):=by intro pins s σ H Q I h;refine isTrue_chain (bw (ha pins s σ H _ I h) λv s1 ⟨x,H1,I1,r1,q1⟩=>test_link<|bw (hb pins s1 σ H1 _ I1 q1) λu s2 ⟨y,H2,I2,r2,q2⟩=>bw (ho pins s2 σ H2 x y v u _ I2 r1 r2 q2) λd s3 ⟨z,H3,I3,r3,k,e,q3⟩=>?_) hm;subst e;cases r3;refine yx ?_;cases k with|false=>(obtain⟨k',e',q'⟩:=q3;cases e';exact ite_ff ⟨H3,I3,q'⟩)|true=>refine ite_tt<|test_last<|bw (hc pins s3 σ H3 _ I3 q3) λw' s4 ⟨z',H4,I4,r4,q4⟩=>bw (AM pins s4 σ H4 y z' u w' _ I4 r2 r4 q4) λd' s5 ⟨z2,H5,I5,r5,k2,e2,q5⟩=>?_;subst e2;cases r5;exact yx ⟨H5,I5,q5⟩
theorem qw:(sizeLine:Nat)<2^63:=by rw[yg];decide
theorem AS:gW X (binaryOp .Add) (λx y H Q=>∃i j,x=.str i/\y=.str j/\i.length+j.length<=sizeLine/\Q (.str<|i++j) H):=by intro pins s σ H x y v u Q I rx ry h;obtain⟨i,j,rfl,rfl,hz,q⟩:=h;obtain⟨t,rfl⟩:=rx;obtain⟨t',rfl⟩:=ry;exact add_str (λt' tk=>{.str<|i++j,H,I.tok _,{_,rfl},q}) hz
theorem vals1(r:Vals [x] us):∃u,us=[u]/\RelV x u:=by cases r with|cons r1 r2=>cases r2;exact{_,rfl,r1}
theorem vals2(r:Vals [x,y] us):∃u w',us=[u,w']/\RelV x u/\RelV y w':=by cases r with|cons r1 r2=>cases r2 with|cons r3 r4=>cases r4;exact{_,_,rfl,r1,r3}
theorem Eo(hc:X.calm=true):ee X (.builtin "max") (λxs H Q=>∃i j,xs=[.int i,.int j]/\Q (.int<|if j>i then j else i) H):=by intro pins s σ H xs us Q I r h;obtain⟨i,j,rfl,q⟩:=h;obtain⟨u,w',rfl,⟨t,rfl⟩,⟨t',rfl⟩⟩:=vals2 r;refine max_two_ints (I.ok.hd hc) λh' tk k=>{_,H,I.kept k,?_,q};by_cases hj:j>i;rw[if_pos hj,if_pos hj];exact{_,rfl};rw[if_neg hj,if_neg hj];exact{_,rfl}
theorem Ep(hc:X.calm=true):ee X (.builtin "min") (λxs H Q=>∃i j,xs=[.int i,.int j]/\Q (.int<|if j<i then j else i) H):=by intro pins s σ H xs us Q I r h;obtain⟨i,j,rfl,q⟩:=h;obtain⟨u,w',rfl,⟨t,rfl⟩,⟨t',rfl⟩⟩:=vals2 r;refine min_two_ints (I.ok.hd hc) λh' tk k=>{_,H,I.kept k,?_,q};by_cases hj:j<i;rw[if_pos hj,if_pos hj];exact{_,rfl};rw[if_neg hj,if_neg hj];exact{_,rfl}
theorem t9:ee X (.type "int") (λxs H Q=>(∃i,xs=[.int i]/\Q (.int i) H)\/∃k,xs=[.bl k]/\Q (.int<|if k then 1 else 0) H):=by intro pins s σ H xs us Q I r h;rcases h with⟨i,rfl,q⟩|⟨k,rfl,q⟩;obtain⟨u,rfl,t,rfl⟩:=vals1 r;exact call_int_int {.int i,H,I,{_,rfl},q};obtain⟨u,rfl,r1⟩:=vals1 r;cases r1;exact call_int_bool {.int<|if k then 1 else 0,H,I.tok _,{_,rfl},q}
def W7(K:Frag)(x:V)(H:Hp)(n:Nat):Prop:=match x with|.str y=>y.length<=sizeLine/\n=y.length|.CF y=>y.size<=sizeLine/\n=y.size|.ref p=>(∃xs,iW K H p xs/\n=xs.length)\/∃xs,iw K H p xs/\n=xs.length|_=>False
theorem iY:ee X (.builtin "len") (λxs H Q=>∃x n,xs=[x]/\W7 X.K x H n/\Q (.int n) H):=by intro pins s σ H xs us Q I r h;obtain⟨x,n,rfl,e,q⟩:=h;obtain⟨u,rfl,rx⟩:=vals1 r;have hl:=qw;have hs:sizeLine=16777216:=yg;cases x with|str y=>(obtain⟨t,rfl⟩:=rx;obtain⟨hy,e'⟩:y.length<=sizeLine/\n=y.length:=e;subst e';exact len_str (by lia) {.int _,H,I.tok _,{_,rfl},q})|CF y=>(obtain⟨t,rfl⟩:=rx;obtain⟨hy,e'⟩:y.size<=sizeLine/\n=y.size:=e;subst e';exact PySem.W.len_bytes (by lia) {.int _,H,I.tok _,{_,rfl},q})|ref p=>(cases rx;have e':(∃xs,iW X.K H p xs/\n=xs.length)\/∃xs,iw X.K H p xs/\n=xs.length:=e;rcases e' with⟨xs,hx,e'⟩|⟨xs,hx,e'⟩;subst e';obtain⟨az,r',pl,hz⟩:=I.list hx;have hlen:=r'.length;exact Calls.call_len_list pl.isList (by simp only[zp];lia) {.int xs.length,H,I.tok _,{_,by simp only[zp];rw[hlen]},q};subst e';obtain⟨az,r',pl,hz⟩:=I.tuple hx;have hlen:=r'.length;exact len_tuple pl (by simp only[zp];lia) {.int xs.length,H,I.tok _,{_,by simp only[zp];rw[hlen]},q})|_=>exact(show False from e).elim
end
structure AU(h:Heap)(x dx C:Addr)(mA:Str->Option Value):Prop where
 obj:h.get? x=some (instObj C dx)
 ns:h.Ns1 dx mA
 ne:dx≠x
theorem Er{h:Heap}{dx:Addr}{mA:Str->Option Value}(n:h.Ns1 dx mA):∃od,h.get? dx=some od/\∀name,lookIn name od=some (mA name):=by
 obtain⟨o,es,ep,ho,hd,hk,_,hm⟩:=n;refine{o,ho,λname=>?_};have e:=hm name;unfold nsFind findBy at e;rw[<-Array.find?_toList]at e;unfold lookIn;rw[hd];dsimp only;split;rename_i y q;rw[q]at e;exact congrArg some e;rename_i q;rw[q]at e;have a:es.toList.any (·.refKey)=false:=by rw[List.any_eq_false];intro y hy;obtain⟨z,t,OA⟩:=hk y<|Array.mem_toList_iff.mp hy;simp[DictEntry.refKey,OA]
 have a':¬es.toList.any (·.refKey)=true:=by rw[a];exact zd
 rw[if_neg a'];exact congrArg some e
theorem AU.look(I:AU h x dx C mA):∃od,PySem.W.InstAt h x (instObj C dx) C (some od)/\∀name,lookIn name od=some (mA name):=
 let ⟨od,ho,hl⟩:=Er I.ns
 ⟨od,⟨I.obj,rfl,rfl,ho⟩,hl⟩
section
variable{prog:Program}{w:World}{A:Around}{E:Value->Shared->Prop}{s:Shared}{K:Frag}{x dx C f:Addr}{mA:Str->Option Value}{name:Str}{v:Value}
theorem get_map(X:K.In s.heap)(I:AU s.heap x dx C mA)(hg:plainGet K C name=true)(hh:hasDictIn K C=true) (ha:findIn K (.ref C) name=some none) (hv:mA name=some v) (MI:handedIn v=true) (h:Q v {s with toks:=s.toks+1}): wpAny (model prog w) A (getAttr (.ref x) name expr) Q E s:=by obtain⟨od,J,hl⟩:=I.look;exact PySem.W.get_value X J (plainGet_of hg).1 (PySem.W.findObj_own hh ha rfl<|by rw[hl,hv]) MI h
theorem GG(X:K.In s.heap)(I:AU s.heap x dx C mA)(hg:plainGet K C name=true) (hf:findIn K (.ref C) name=some (some<|.ref f)) (ht:isFn K (.ref f)=true) (hv:mA name=none) (h:Q (.ref f,[.ref x]) s): wpAny (model prog w) A (getMethod (.ref x) name pl) Q E s:=by obtain⟨od,J,hl⟩:=I.look;exact PySem.W.method_fn X J (plainGet_of hg).1 (plainGet_of hg).2 hf (beq_iff_eq.mp ht) (by show(lookIn name od).map (·.isSome)=some false;rw[hl,hv];rfl) h
theorem Ke(X:K.In s.heap)(I:AU s.heap x dx C mA) (hs:findIn K (.ref C) "__setattr__"= some (some<|.builtin "object.__setattr__")) (hp:plainOver K C=true) (ht:takerIn K C name=some none) (hh:hasDictIn K C=true) (hw:PySem.Within mA ns) (hsz:ns.length<=sizeLine) (h:∀h',AU h' x dx C (λy=>if y=name then some v else mA y)->Heap.SameBut dx s.heap h'->Q () {s with heap:=h',toks:=s.toks+2}): wpAny (model prog w) A (setAttr (.ref x) name v) Q E s:=by obtain⟨od,J,hl⟩:=I.look;refine PySem.W.set_plain X J hs<|PySem.W.osa_open (s:={s with toks:=s.toks+1}) (r:=none) X J hp ht λb=>?_;obtain⟨cd,hc,qq⟩:=PySem.W.any_some hh;have hx:s.heap.get? x=some {.ref C,some dx,.plain,#[]}:=I.obj;refine zc<|zo<|zc<|zc<|wpAny_loadPart hx<|zc<|PySem.W.Looks.here (s:={s with toks:=s.toks+1}) (PySem.W.looks_clsIn X hc) ?_;rw[qq];refine zo (a:=some dx)<|zc<|zo<|zc ?_;refine wpAny_nsSet1 (s:={s with toks:=s.toks+1}) I.ns λh' MJ uY=>?_;obtain⟨oD,esD,epD,hoD,hdD,hcD⟩:=MJ.count<|PySem.Within.cons name v hw;refine zc<|wpAny_lookBehind hoD (by rw[hdD];exact pastItsLine_dict<|zH hcD<|by rw[zQ];lia) ?_;exact zo<|h _ {(uY.2 _<|Ne.symm I.ne).trans I.obj,MJ,I.ne} uY
theorem GH(X:K.In s.heap)(hm:makesIn K C=true) (hi:findIn K (.ref C) "__init__"= some (some<|.ref f)) (hf:PySem.W.typeIn K (.ref f)=some (.type "function")) (h:codeAny (model prog w) (A.under<|.builtin "type.__call__" {.ref C::vs,kw}) (.call (.ref f) {.ref (s.heap.objs.size+1)::vs,kw}) (PySem.W.InitBack (s.heap.objs.size+1) R) {s with heap:=(s.heap.push emptyDict).push<|instObj C s.heap.objs.size}): codeAny (model prog w) A (.call (.ref C) ⟨vs,kw⟩) R s:=by obtain⟨hh,g,d,t,os⟩:=s;exact PySem.W.make_core (PySem.W.makes_of X hm) (PySem.W.looks_findIn X hi) (λself=>PySem.W.bind_fn X self hf) (.inl rfl) h
end
noncomputable def putF(f:Str)(v:V):List (Str×V)->List (Str×V)|[]=>[(f,v)]| (g,x)::r=>if g=f then (g,v)::r else (g,x)::putF f v r
theorem oq(f g:Str)(v:V):∀fs:List (Str×V),(putF f v fs).lookup g=if g=f then some v else fs.lookup g|[]=>by show List.lookup g [(f,v)]=_;by_cases h:g=f;have hb:(g==f)=true:=beq_iff_eq.mpr h;simp only[List.lookup,hb,if_pos h];have hb:(g==f)=false:=beq_eq_false_iff_ne.mpr h;simp only[List.lookup,hb,if_neg h]| (k,x)::r=>by have ih:=oq f g v r;rw[show putF f v ((k,x)::r)=(if k=f then (k,v)::r else (k,x)::putF f v r) from rfl];by_cases hk:k=f;rw[if_pos hk];by_cases h:g=k;have hb:(g==k)=true:=beq_iff_eq.mpr h;simp only[List.lookup,hb,if_pos<|h.trans hk];have hb:(g==k)=false:=beq_eq_false_iff_ne.mpr h;simp only[List.lookup,hb,if_neg (λe:g=f=>h<|e.trans hk.symm)];rw[if_neg hk];by_cases h:g=k;have hb:(g==k)=true:=beq_iff_eq.mpr h;simp only[List.lookup,hb,if_neg (λe:g=f=>hk<|h.symm.trans e)];have hb:(g==k)=false:=beq_eq_false_iff_ne.mpr h;simp only[List.lookup,hb];exact ih
theorem m8(f:Str)(v:V):∀fs:List (Str×V),f∈(putF f v fs).map (·.1)/\∀g,g∈fs.map (·.1)->g∈(putF f v fs).map (·.1)|[]=>{by simp[putF],λg h=>by simp at h}| (k,x)::r=>by obtain⟨i1,i2⟩:=m8 f v r;rw[show putF f v ((k,x)::r)=(if k=f then (k,v)::r else (k,x)::putF f v r) from rfl];by_cases hk:k=f;rw[if_pos hk];subst hk;exact{by simp,λg h=>by simpa using h};rw[if_neg hk];refine{?_,λg h=>?_};rw[zx];exact zf _ i1;rw[zx]at h⊢;rcases zj.mp h with e|e;exact zj.mpr<|.inl e;exact zf _<|i2 g e
theorem ot(f:Str)(v:V):∀fs:List (Str×V),(putF f v fs).length<=fs.length+1|[]=>by simp[putF]| (k,x)::r=>by have ih:=ot f v r;rw[show putF f v ((k,x)::r)=(if k=f then (k,v)::r else (k,x)::putF f v r) from rfl];by_cases hk:k=f;rw[if_pos hk,zQ,zQ];lia;rw[if_neg hk,zQ,zQ];lia
theorem fL.some_of(r:fL (some v) o):∃u,o=some u/\RelV v u:=by cases o with|none=>exact(show False from r).elim|some u=>exact⟨u,rfl,r⟩
theorem fL.none_of(r:fL none o):o=none:=by cases o with|none=>rfl|some u=>exact(show False from r).elim
theorem Es(r:RelV v u):handedIn u=true:=by cases v with|av=>(cases (show u=Value.none from r);rfl)|bl b=>(cases (show u=Value.bool b from r);rfl)|int i=>(obtain⟨t,e⟩:=(show ∃t,u=Value.int i t from r);cases e;rfl)|str x=>(obtain⟨t,e⟩:=(show ∃t,u=Value.str x t from r);cases e;rfl)|CF b=>(obtain⟨t,e⟩:=(show ∃t,u=Value.bytes b t from r);cases e;rfl)|NV b=>(obtain⟨t,e⟩:=(show ∃t,u=Value.float b t from r);cases e;rfl)|ref a=>(cases (show u=Value.ref a from r);rfl)|ty n=>cases (show u=Value.type n from r);rfl
section
variable{P:Program}{w:World}{H:Hp}{h:Heap}{a C dx:Addr}{fs:List (Str×V)}
theorem pY(aJ:kM P w H h)(e:H a=some (.ins C dx fs)):∃mA,AU h a dx C mA/\(∀f,fL (fs.lookup f)<|mA f)/\PySem.Within mA (fs.map (·.1))/\fs.length<=1000/\H dx=some (.own a):=by obtain⟨d,z,ne,ob,mA,n,r,q⟩:=(show bt P w H h a (.ins C dx fs) from aJ a _ e);exact{mA,⟨ob,n,ne⟩,r,q,z,d}
end
structure qx(K:Frag)(C:Addr):Prop where
 pg:plainGet K C Str.empty=true
 hd:hasDictIn K C=true
 po:plainOver K C=true
 sa:findIn K (.ref C) "__setattr__"= some (some<|.builtin "object.__setattr__")
theorem qx.get{K:Frag}{C:Addr}(c:qx K C)(f:Str):plainGet K C f=true:=c.pg
def iZ(K:Frag)(C:Addr)(f:Str):Prop:=findIn K (.ref C) f=some none
theorem iZ.Sf{K:Frag}{C:Addr}{f:Str}(n:iZ K C f):takerIn K C f=some none:=by unfold takerIn;rw[show findIn K (.ref C) f=some none from n];rfl
structure Con(K:Frag)(C:Addr)(f:Str)(v:V)(u:Value):Prop where
 at_:findIn K (.ref C) f=some (some u)
 rel:RelV v u
 get:specialIn K u "__get__"= some none
 cp:PySem.W.copiedNames.contains f=false
structure Meth(K:Frag)(C:Addr)(m:Str)(f:Addr):Prop where
 at_:findIn K (.ref C) m=some (some<|.ref f)
 fn:isFn K (.ref f)=true
 kp:keepIn K (.ref f)=true
section
variable{X:Cx}{pins:List (Addr×Obj)}{σ:St}{H:Hp}{s:Shared}{a C dx:Addr}{fs:List (Str×V)}{f:Str}{v:V}{A:Around}{E:Value->Shared->Prop}
theorem AV(I:Inv X pins σ H s)(e:H a=some (.ins C dx fs))(c:qx X.K C)(n:iZ X.K C f)(l:fs.lookup f=some v) (h:∀u s',Inv X pins σ H s'->RelV v u->Q u s'):wpAny (model X.prog X.w) A (getAttr (.ref a) f b) Q E s:=by obtain⟨mA,O,r,_,_,_⟩:=pY I.aJ e;obtain⟨u,hu,ru⟩:=fL.some_of (v:=v) (o:=mA f) (by rw[<-l];exact r f);exact get_map I.mY O (c.get f) c.hd n hu (Es ru)<|h u _ (I.tok _) ru
theorem qy(I:Inv X pins σ H s)(e:H a=some (.ins C dx fs))(c:qx X.K C)(k:Meth X.K C m g)(l:fs.lookup m=none) (h:Q (.ref g,[.ref a]) s):wpAny (model X.prog X.w) A (getMethod (.ref a) m pl) Q E s:=by obtain⟨mA,O,r,_,_,_⟩:=pY I.aJ e;have hn:mA m=none:=fL.none_of (by rw[<-l];exact r m);exact GG I.mY O (c.get m) k.at_ k.fn hn h
theorem AW(I:Inv X pins σ H s)(e:H a=some (.ins C dx fs))(c:qx X.K C)(n:iZ X.K C f)(hl:fs.length<1000)(ry:RelV y u) (h:∀s',Inv X pins σ (upd H a<|.ins C dx<|putF f y fs) s'->Q () s'):wpAny (model X.prog X.w) A (setAttr (.ref a) f u) Q E s:=by
 obtain⟨mA,O,r,wi,_,ho⟩:=pY I.aJ e;have hz:(fs.map (·.1)).length<=sizeLine:=by rw[zb,yg];lia
 refine Ke I.mY O c.sa c.po n.Sf c.hd wi hz λh' O' sb=>h _ ?_;have hd:∃o,h'.get? dx=some o:=by obtain⟨o,_,_,e',_⟩:=O'.ns;exact⟨o,e'⟩
 refine I.write (x:=a) (e:=dx) (by rw[e];exact True.intro) (.inr ho) (λb q hb z=>(sb.2 b hb).trans z) hd ?_;refine{by rw[ax O.ne];exact ho,?_,O.ne,O'.obj,_,O'.ns,λg=>?_,λg hg=>?_};have:=ot f y fs;lia;show fL ((putF f y fs).lookup g) (if g=f then some u else mA g);rw[oq];by_cases q:g=f;rw[if_pos q,if_pos q];exact ry;rw[if_neg q,if_neg q];exact r g;by_cases q:g=f;rw[q];exact(m8 f y fs).1;refine(m8 f y fs).2 g<|wi g λz=>hg ?_;show(if g=f then some u else mA g)=none;rw[if_neg q];exact z
theorem Inv.made(I:Inv X pins σ H s):Inv X pins σ (upd (upd H s.heap.objs.size<|.own<|s.heap.objs.size+1) (s.heap.objs.size+1)<|.ins C s.heap.objs.size []) {s with heap:=(s.heap.push emptyDict).push<|instObj C s.heap.objs.size}:=by
 have e1:(s.heap.push emptyDict).get? s.heap.objs.size=some emptyDict:=zk s.heap rfl;have e2:((s.heap.push emptyDict).push<|instObj C s.heap.objs.size).get? (s.heap.objs.size+1)=some (instObj C s.heap.objs.size):=by have:=zk (s.heap.push emptyDict) (o:=instObj C s.heap.objs.size) rfl;rwa [yc]at this
 have e3:(s.heap.push emptyDict).Ns s.heap.objs.size (λ_=>none):={emptyDict,#[],_,e1,rfl,(λe he=>absurd he<|by simp),λ_=>rfl};have I1:=I.laid (a:=s.heap.objs.size) (o:=.own<|s.heap.objs.size+1) (h':=s.heap.push emptyDict) (t':=s.toks) (λb u q=>za _ q) (zr _) {_,e1};refine I1.laid (a:=s.heap.objs.size+1) (o:=.ins C s.heap.objs.size []) (t':=s.toks) (λb u q=>za _ q) (Nat.le_of_eq<|yc _ _) ?_;have ne:s.heap.objs.size≠s.heap.objs.size+1:=zA<|Nat.lt_succ_self _;refine{by rw[ax ne,aE],zV _,ne,e2,λ_=>none,(Heap.Ns1.of_empty e3).at λo q=>za _ q,λ_=>True.intro,λy hy=>absurd rfl hy}
theorem Kf(hb:attributeBase e f env (eval e env)=eval e env) (h:wpAny (model prog w) A (eval e env) (λo a_=>wpAny (model prog w) A (getAttr o f true) Q E a_) E s):wpAny (model prog w) A (eval (.Attribute e f pos) env) Q E s:=Attribute_any_ h<|by rw[arm_eval_Attribute,hb]
end
def W8(K:Frag)(ta:TE)(f:Str):TE:=λσ H Q=>ta σ H λx H1=>∃a C dx fs v,x=.ref a/\H1 a=some (.ins C dx fs)/\qx K C/\iZ K C f/\fs.lookup f=some v/\Q v H1
def W9(K:Frag)(ta tv:TE)(f:Str):TS:=λD σ H=>tv σ H λy H1=>ta σ H1 λx H2=>∃a C dx fs,x=.ref a/\H2 a=some (.ins C dx fs)/\qx K C/\iZ K C f/\fs.length<1000/\D.nx σ (upd H2 a<|.ins C dx<|putF f y fs)
section
variable{X:Cx}{o e value:Expr}{f:Str}{pos pos':Pos}{ta tv:TE}
theorem OB(he:PE X e ta)(hb:attributeBase e f X.env (eval e X.env)=eval e X.env):PE X (.Attribute e f pos) (W8 X.K ta f):=by intro pins s σ H Q I h;refine Kf hb<|bw (he pins s σ H _ I h) λu s1 ⟨x,H1,I1,rx,a,C,dx,fs,v,ex,ea,c,n,l,q⟩=>?_;subst ex;obtain rfl:u=Value.ref a:=rx;exact AV I1 ea c n l λu' s2 I2 ru=>⟨v,H1,I2,ru,q⟩
theorem OC(ha:PE X o ta)(hv:PE X value tv)(hs:swapsWith value (some<|.Attribute o f pos') pos.line X.env=pure false):PS X (.Assign [.Attribute o f pos'] value pos) (W9 X.K ta tv f):=by intro pins s σ H D I h;refine plainObj_wpAny_Assign_Attribute (bw (hv pins s σ H _ I h) λu s1 ⟨y,H1,I1,ry,q⟩=>bw (ha pins s1 σ H1 _ I1 q) λov s2 ⟨x,H2,I2,rx,a,C,dx,fs,ex,ea,c,n,l,q2⟩=>?_) hs;subst ex;obtain rfl:ov=Value.ref a:=rx;exact AW I2 ea c n l ry λs3 I3=>{σ,_,I3,q2}
end
section
variable{X:Cx}{pins:List (Addr×Obj)}{σ:St}{H:Hp}{s:Shared}{A:Around}{E Q:Value->Shared->Prop}{c:Value}{b:Bool}
inductive m9 (K:Frag) (H:Hp):V->Value->Prop where
 |av:m9 K H .av (.type "NoneType")
 |bl (x:Bool):m9 K H (.bl x) (.type "bool")
 |int (i:Int):m9 K H (.int i) (.type "int")
 |str (x:Str):m9 K H (.str x) (.type "str")
 |NV (x:UInt64):m9 K H (.NV x) (.type "float")
 |lst {a:Addr}{xs:List V} (e:H a=some (.lst xs)):m9 K H (.ref a) (.type "list")
 |kL {a:Addr}{o:Obj}{xs:List V} (e:H a=some (.kL o<|.lst xs)):m9 K H (.ref a) (.type "list")
 |tup {a:Addr}{xs:List V} (e:H a=some (.tup xs)):m9 K H (.ref a) (.type "tuple")
 |dK {a:Addr}{kvs:List<|Key×V} (e:H a=some (.dK kvs)):m9 K H (.ref a) (.type "dict")
 |dT {a:Addr}{kvs:List<|List Key×V} (e:H a=some (.dT kvs)):m9 K H (.ref a) (.type "dict")
 |ins {a C dx:Addr}{fs:List<|Str×V} (e:H a=some (.ins C dx fs)) (cl:qx K C) (ha:findIn K (.ref C) "__class__"= some (some<|.builtin "object.__class__"))
   (hn:specialIn K (.builtin "object.__class__") "__get__"= some (some<|.builtin "getset_descriptor.__get__")) (Z8:PySem.W.takesIn K (.builtin "object.__class__")=some true)
   (hm:mroIn K C (.type "object")=some true):m9 K H (.ref a) (.ref C)
theorem Et{u t:Value}(I:Inv X pins σ H s)(rx:RelV x u)(ty:m9 X.K H x t)(e:kitOne X.K t c=some b)(h:∀tk,Q (.bool b) {s with toks:=tk}): wpAny (model X.prog X.w) A (call (.builtin "isinstance") [u,c]) Q E s:=by cases ty with|av=>(cases (show u=Value.none from rx);exact kia_one PySem.W.kitx_none I.mY True.intro e (λz=>nomatch z) h)|bl y=>(cases (show u=Value.bool y from rx);exact kia_one PySem.W.kitx_bool I.mY True.intro e (λz=>nomatch z) h)|int i=>(obtain⟨t,q⟩:=(show ∃t,u=Value.int i t from rx);cases q;exact kia_one PySem.W.kitx_int I.mY True.intro e (λz=>nomatch z) h)|str y=>(obtain⟨t,q⟩:=(show ∃t,u=Value.str y t from rx);cases q;exact kia_one PySem.W.kitx_str I.mY True.intro e (λz=>nomatch z) h)|NV y=>(obtain⟨t,q⟩:=(show ∃t,u=Value.float y t from rx);cases q;exact kia_one PySem.W.kitx_float I.mY True.intro e (λz=>nomatch z) h)|@lst a xs ea=>(cases (show u=Value.ref a from rx);obtain⟨_,_,n,_,h1⟩:=(show bt X.prog X.w H s.heap a (.lst xs) from I.aJ a _ ea);exact kia_one kitx_list I.mY {_,h1,rfl} e (λz=>nomatch z) h)|@kL a ob xs ea=>(cases (show u=Value.ref a from rx);obtain⟨_,_,_,n,_,h1⟩:=(show bt X.prog X.w H s.heap a (.kL ob<|.lst xs) from I.aJ a _ ea);exact kia_one kitx_list I.mY {_,h1,rfl} e (λz=>nomatch z) h)|@tup a xs ea=>(cases (show u=Value.ref a from rx);obtain⟨_,_,_,p⟩:=(show bt X.prog X.w H s.heap a (.tup xs) from I.aJ a _ ea);obtain⟨o,h1,h2,_⟩:=p;exact kia_one PySem.W.kitx_tuple I.mY ⟨o,h1,h2⟩ e (λz=>nomatch z) h)|@dK a kvs ea=>(cases (show u=Value.ref a from rx);obtain⟨_,_,vs,_,p⟩:=(show bt X.prog X.w H s.heap a (.dK kvs) from I.aJ a _ ea);obtain⟨o,es,ep,h1,h2,_⟩:=p;exact kia_one PySem.W.kitx_dict I.mY ⟨o,h1,h2.1⟩ e (λz=>nomatch z) h)|@dT a kvs ea=>exact False.elim (show bt X.prog X.w H s.heap a (.dT kvs) from I.aJ a _ ea)|@ins a C dx fs ea cl ha hn Z8 hm=>cases (show u=Value.ref a from rx);obtain⟨mA,O,_⟩:=pY I.aJ ea;obtain⟨od,J,_⟩:=O.look;exact kia_one (PySem.W.kitx_own (cl.get _) cl.hd ha hn Z8 hm) I.mY J e (λz=>nomatch z) h
end
structure bJ(k:Nat)(A:Around):Prop where
 hd:A.handled=none
 dp:A.depth+3*k+5<recursionLimit
 un:A.units+16*k+200<cLine
theorem bJ.mono(r:bJ k A)(h:j<=k):bJ j A:={r.hd,by have:=r.dp;lia,by have:=r.un;lia}
theorem bJ.deeper(r:bJ (k+1) A)(env:Env):bJ k (A.deeper env):={r.hd,by have:=r.dp;show A.depth+1+3*k+5<_;lia,by have:=r.un;show A.units+3+16*k+200<_;lia}
theorem bJ.in1(r:bJ (k+1) A):bJ k A.in1:={r.hd,by have:=r.dp;show A.depth+3*k+5<_;lia,by have:=r.un;show A.units+1+16*k+200<_;lia}
theorem AX{A:Around}{C:Addr}{us:List Value}{kw:List<|Str×Value} : (A.under<|.builtin "type.__call__" {.ref C::us,kw}).depth=A.depth+1:=by first|rfl|simp[Around.under,Code.weight,Code.isCreation,Code.isGuard,Code.isCaller,Code.frames,Code.isFrame,guardIds]
theorem AY{A:Around}{C:Addr}{us:List Value}{kw:List<|Str×Value} : (A.under<|.builtin "type.__call__" {.ref C::us,kw}).units=A.units+1:=by first|rfl|simp[Around.under,Code.cUnits,Code.frames,Code.isFrame]
theorem bJ.make(r:bJ (k+1) A)(C:Addr)(us:List Value)(kw:List<|Str×Value):bJ k (A.under<|.builtin "type.__call__" {.ref C::us,kw}):={r.hd,by have:=r.dp;rw[AX];lia,by have:=r.un;rw[AY];lia}
theorem bJ.depth(r:bJ k A):A.depth<recursionLimit:=by have:=r.dp;lia
theorem bJ.units(r:bJ k A):A.units+64<cLine:=by have:=r.un;lia
def Xa:TA:=λ_ H Q=>Q [] H
def MK(ta:TE)(tr:TA):TA:=λσ H Q=>ta σ H λx H1=>tr σ H1 λxs H2=>Q (x::xs) H2
section
variable{X:Cx}{e:Expr}{es:List Expr}{te:TE}{t:TA}{pos:Pos}
theorem AZ:PA X [] Xa:=λ_ _ _ _ H Q I h=>Calls.spliced_nil {[],H,I,.nil,h}
theorem Kg(ha:PE X e te)(hr:PA X es t)(hs:autoParam (starEach (e::es) X.env=(false,eval e X.env)::starEach es X.env) qQJ):PA X (e::es) (MK te t):=by intro pos pins s σ H Q I h;rw[hs];show wpAny _ _ (spliced<|(false,eval e X.env)::backTo pos (starEach es X.env)) _ _ s;refine yE<|bw (ha pins s σ H _ I h) λu s1 ⟨x,H1,I1,r1,q1⟩=>?_;exact bw (hr pos pins s1 σ H1 _ I1 q1) <| by rintro us s2 ⟨xs,H2,I2,r2,q2⟩;exact{x::xs,H2,I2,.cons r1 r2,q2}
def Xb(t:TA):TE:=λσ H Q=>t σ H λxs H1=>xs.length<=sizeLine/\∀p,H1 p=none->Q (.ref p) (upd H1 p<|.tup xs)
def Xc(t:TA):TE:=λσ H Q=>t σ H λxs H1=>xs.length<=sizeLine/\∀p,H1 p=none->Q (.ref p) (upd H1 p<|.lst xs)
theorem OD{x1}(h:PA X es t):PE X (.Tuple es x1 pos) (Xb t):=by intro pins s σ H Q I hq;refine wpAny_Tuple_spliced<|bw (h pos pins s σ H _ I hq) λus s1 ⟨xs,H1,I1,r,z,q⟩=>{by rw[<-r.length];exact z,?_};have hf:H1 s1.heap.objs.size=none:=I1.aJ.fresh<|zr _;refine{.ref s1.heap.objs.size,upd H1 s1.heap.objs.size<|.tup xs,I1.laid (t':=s1.toks) (λb u e=>za _ e) (zr _) ?_,rfl,q _ hf};exact{z,us,r,{_,zk _ rfl,rfl,rfl,_,rfl}}
theorem OE(h:PA X es t):PE X (.List es pos) (Xc t):=by intro pins s σ H Q I hq;refine wpAny_List_spliced<|bw (h pos pins s σ H _ I hq) λus s1 ⟨xs,H1,I1,r,z,q⟩=>{by rw[<-r.length];exact z,?_};have hf:H1 s1.heap.objs.size=none:=I1.aJ.fresh<|zr _;refine{.ref s1.heap.objs.size,upd H1 s1.heap.objs.size<|.lst xs,I1.laid (t':=s1.toks) (λb u e=>za _ e) (zr _) ?_,rfl,q _ hf};exact{z,us,0,r,zk _ rfl}
end
abbrev Sp:=List V->Hp->VK->XK->Prop
abbrev A1:=List Env->Hp->Shared->XK->Value->Shared->Prop
structure w5(P:Program)(w:World)(K:Frag)(mg:Str->Option Value)(base:Heap)(A:Around)(outer:List Env)(s:Shared)(H:Hp):Prop where
 frames:A.frames=some outer
 mod:Mod K mg base
 bs:∀b o,base.get? b=some o->s.heap.get? b=some o/\H b=none
 JW:base.objs.size<=s.heap.objs.size
 ph:s.heap.FunFrames base outer
 NZ:∀b∈mX outer,H b=none
 aJ:kM P w H s.heap
 bare:AllBare s.gens
def CE(outer:List Env)(P:Program)(w:World)(H:Hp)(s:Shared)(Q:VK)(u:Value)(s':Shared):Prop:=∃v H',s'.os=s.os/\AllBare s'.gens/\Un (mX outer) [] H H' s.heap s'.heap/\kM P w H' s'.heap/\RelV v u/\Q v H'
def CR(CX:A1)(outer:List Env)(P:Program)(w:World)(H:Hp)(s:Shared)(Q:VK)(E:XK)(r:Result)(s':Shared):Prop:=match r with|.ok (.ret u)=>CE outer P w H s Q u s'|.ok _=>False|.error e=>CX outer H s E e s'
structure bF(P:Program)(w:World)(K:Frag)(mg:Str->Option Value)(base:Heap)(CX:A1)(k:Nat)(f:Addr)(fd:FuncData)(ps:List Str)(sp:Sp):Prop where
 len:∀vs H Q E,sp vs H Q E->vs.length=ps.length
 run:∀(A:Around)(outer:List Env)(s:Shared)(H:Hp)(args:Args)(us:List Value)(vs:List V)(Q:VK)(E:XK),bJ k A->w5 P w K mg base A outer s H->BindsTo s fd args (ps.zip us)->Vals vs us->sp vs H Q E ->
  codeAny (model P w) A (.call (.ref f) args) (CR CX outer P w H s Q E) s
theorem bF.mono{P:Program}{w:World}{K:Frag}{mg:Str->Option Value}{base:Heap}{CX:A1}{j k:Nat}{f:Addr}{fd:FuncData}{ps:List Str}{sp:Sp}(F:bF P w K mg base CX j f fd ps sp)(h:j<=k): bF P w K mg base CX k f fd ps sp:={F.len,λA outer s H args us vs Q E hr=>F.run A outer s H args us vs Q E<|hr.mono h}
theorem bF.imp{P:Program}{w:World}{K:Frag}{mg:Str->Option Value}{base:Heap}{CX:A1}{k:Nat}{f:Addr}{fd:FuncData}{ps:List Str}{sp VM:Sp}(F:bF P w K mg base CX k f fd ps sp) (h:∀vs H Q E,VM vs H Q E->sp vs H Q E):bF P w K mg base CX k f fd ps VM:={λvs H Q E q=>F.len vs H Q E<|h _ _ _ _ q,λA outer s H args us vs Q E hr he hb hv hs=>F.run A outer s H args us vs Q E hr he hb hv<|h _ _ _ _ hs}
theorem w5.make{P:Program}{w:World}{K:Frag}{mg:Str->Option Value}{base:Heap}{A:Around}{outer:List Env}{s:Shared}{H:Hp}(e:w5 P w K mg base A outer s H)(C:Addr)(us:List Value)(kw:List<|Str×Value): w5 P w K mg base (A.under<|.builtin "type.__call__" {.ref C::us,kw}) outer s H:={by first|exact e.frames|(simpa [Around.under,Code.envs,Code.isFrame,pushEnvs]using e.frames),e.mod,e.bs,e.JW,e.ph,e.NZ,e.aJ,e.bare}
section
variable{X:Cx}{pins:List (Addr×Obj)}{σ:St}{H:Hp}{s s':Shared}
theorem Inv.Sh(I:Inv X pins σ H s):w5 X.prog X.w X.K X.mg X.base X.A X.stack s H:={I.ok.frames,I.ok.mod,I.bs,zH I.ok.JW I.sz,I.stack,I.pU,I.aJ,I.bare}
theorem Inv.after(I:Inv X pins σ H s)(h:CE X.stack X.prog X.w H s Q u s'):EP X pins σ Q u s':=by obtain⟨v,H',os,bare,un,aJ,r,q⟩:=h;obtain⟨hh,g,d,t,Si⟩:=s';obtain rfl:Si=s.os:=os;exact{v,H',I.call (h':=hh) (g':=g) (d':=d) (t':=t) (ch:=[]) un aJ bare λb z=>absurd z<|by simp,r,q}
end
def Binds(K:Frag)(fd:FuncData)(ps:List Str)(ds:List Value):Prop:=∀(s:Shared)(us:List Value),K.In s.heap->(us++ds).length=ps.length->BindsTo s fd {us,[]} (ps.zip<|us++ds)
theorem Binds.all{K:Frag}{fd:FuncData}{ps:List Str}(h:∀us:List Value,us.length=ps.length->bindArgs fd {us,[]}=pure (ps.zip us)):Binds K fd ps []:=λs us _ hl=>by rw[List.append_nil]at hl⊢;exact .of_eq<|h us hl
def Passes(CX:A1)(X:Cx)(E:XK):Prop:=∀(pins:List (Addr×Obj))(σ:St)(H:Hp)(s:Shared)(e:Value)(s':Shared),Inv X pins σ H s->CX X.stack H s E e s'->X.xe e s'
section
variable{f C:Addr}
structure Mk(K:Frag)(C f:Addr):Prop where
 makes:makesIn K C=true
 init:findIn K (.ref C) "__init__"= some (some<|.ref f)
 fn:isFn K (.ref f)=true
 kp:keepIn K (.ref C)=true
end
section
variable{fd:FuncData}{ps ks:List Str}
structure Xd(K:Frag)(fd:FuncData)(ps ks:List Str)(g:List Value->List Value->List Value)(gV:List V->List V->List V):Prop where
 to:∀(s:Shared)(us ws:List Value),K.In s.heap->(g us ws).length=ps.length->BindsTo s fd {us,ks.zip ws} (ps.zip<|g us ws)
 rel:∀{vs:List V}{us:List Value}{zs:List V}{ws:List Value},Vals vs us->Vals zs ws->Vals (gV vs zs) (g us ws)
variable{g:List Value->List Value->List Value}{gV:List V->List V->List V}
end
structure fQ(N P:List Str)(sc:Scope):Prop where
 kind:sc.kind=.function
 co:sc.isCoroutine=false
 gen:sc.isGenerator=false
 nd:N.Nodup
 pre:N.take P.length=P
 par:∀x∈P,sc.names.lookup x=some .local\/sc.names.lookup x=some .cell
 OF:∀y∈sc.names,y.2≠.free
theorem t_{kindOf:Str->Option NameKind}{x:Str} : ∀{binds:List (Str×Value)}{m:Str->Option Value},(∀v,(x,v)∉binds)->bindL kindOf binds m x=m x
 |[],_,_=>rfl
 | (n,v)::r,m,h=>by
  unfold bindL;rw[t_ λw hw=>h w<|zf _ hw];split;have:x≠n:=by rintro rfl;exact h v zm
  simp[this];rfl
theorem ua{kindOf:Str->Option NameKind}{x:Str} : ∀{binds:List (Str×Value)}{m:Str->Option Value},(∀v,(x,v)∉binds)->bindC kindOf binds m x=m x
 |[],_,_=>rfl
 | (n,v)::r,m,h=>by
  unfold bindC;rw[ua λw hw=>h w<|zf _ hw];split;rfl;have:x≠n:=by rintro rfl;exact h v zm
  simp[this]
theorem ub{kindOf:Str->Option NameKind}{x:Str}{v:Value} : ∀{P:List Str}{vs:List Value}{i:Nat}{m:Str->Option Value},P.Nodup->P[i]?=some x->vs[i]?=some v->kindOf x=some .local->bindL kindOf (P.zip vs) m x=some v|[],_,_,_,_,h,_,_=>by simp at h|_::_,[],_,_,_,_,h,_=>by simp at h|p::P,w::vs,0,m,nd,h1,h2,hk=>by simp at h1 h2;subst h1;subst h2;show bindL kindOf ((p,w)::P.zip vs) m p=_;unfold bindL;rw[t_ λv hv=>(yj.mp nd).1 (List.of_mem_zip hv).1,if_pos hk];simp|p::P,w::vs,i+1,m,nd,h1,h2,hk=>by show bindL kindOf ((p,w)::P.zip vs) m x=_;unfold bindL;exact ub (i:=i) (yj.mp nd).2 (by simpa using h1) (by simpa using h2) hk
theorem uc{kindOf:Str->Option NameKind}{x:Str}{v:Value} : ∀{P:List Str}{vs:List Value}{i:Nat}{m:Str->Option Value},P.Nodup->P[i]?=some x->vs[i]?=some v->kindOf x≠some .local->bindC kindOf (P.zip vs) m x=some v|[],_,_,_,_,h,_,_=>by simp at h|_::_,[],_,_,_,_,h,_=>by simp at h|p::P,w::vs,0,m,nd,h1,h2,hk=>by simp at h1 h2;subst h1;subst h2;show bindC kindOf ((p,w)::P.zip vs) m p=_;unfold bindC;rw[ua λv hv=>(yj.mp nd).1 (List.of_mem_zip hv).1,if_neg hk];simp|p::P,w::vs,i+1,m,nd,h1,h2,hk=>by show bindC kindOf ((p,w)::P.zip vs) m x=_;unfold bindC;exact uc (i:=i) (yj.mp nd).2 (by simpa using h1) (by simpa using h2) hk
noncomputable def start(N:List Str)(vs:List V):St:=vs.map some++List.replicate (N.length-vs.length) none
def j0(CX:A1)(P:Program)(w:World)(K:Frag)(mg:Str->Option Value)(base:Heap)(N:List Str)(qual:Str)(scope:Scope)(f:Addr)(cd:Value)(A:Around)(outer:List Env)(s:Shared)(H:Hp)(E:XK):Cx where
 prog:=P
 w:=w
 K:=K
 mg:=mg
 base:=base
 A:=A.deeper<|envOfC qual scope s.heap.objs.size f cd
 N:=N
 dm:=s
 uX:=H
 env:=envOfC qual scope s.heap.objs.size f cd
 outer:=outer
 stack:=envOfC qual scope s.heap.objs.size f cd::outer
 ex:=[]
 calm:=true
 fn:=λ_=>true
 pn:=[]
 xe:=λe s'=>wpAny (model P w) (A.deeper<|envOfC qual scope s.heap.objs.size f cd) (leaving (envOfC qual scope s.heap.objs.size f cd) e) (λ_ A2=>CX outer H s E e A2) (λe' A2=>CX outer H s E e' A2) s'
theorem w6{sc:Scope}{n:Nat}{x:Str}(h:sc.names.lookup x=some .cell):∃c,(cellsFrom n sc.names []).lookup x=some c:=by have q:=PySem.W.cellsFrom_some sc.names n []<|.inl h;exact Option.isSome_iff_exists.mp q
theorem Eu{CX:A1}{P:Program}{w:World}{K:Frag}{mg:Str->Option Value}{base:Heap}{N ps:List Str}{qual:Str}{scope:Scope}{f:Addr}{cd:Value}{A:Around}{outer:List Env}{s s1:Shared}{H:Hp}{E:XK}{us:List Value}{vs:List V} (S:fQ N ps scope) (hd:A.handled=none) (e0:w5 P w K mg base A outer s H) (hl:vs.length=ps.length) (r:Vals vs us) (x:InCallC s s.heap.objs.size (bindL (envOfC qual scope s.heap.objs.size f cd).kindOf (ps.zip us) λ_=>none) (cellsFrom (s.heap.objs.size+1) scope.names []) (bindC (envOfC qual scope s.heap.objs.size f cd).kindOf (ps.zip us) λ_=>none) s1): Inv (j0 CX P w K mg base N qual scope f cd A outer s H E) [] (start N vs) H s1:=by
 have cP:ps.length<=N.length:=by have:=congrArg List.length S.pre;rw[ym]at this;lia
 obtain⟨h1,tk,rfl,hk⟩:=x.done;have Kh:∀b:Addr,b∉(j0 CX P w K mg base N qual scope f cd A outer s H E).ex:=λb z=>absurd (show b∈([]:List Addr) from z) (by simp);refine{{e0.mod,S.kind,rfl,rfl,zr _,λy z c h1 h2=>?_,λy hy=>?_,λy c _ h=>?_,λ_=>hd,Around.frames_deeper e0.frames,.inr ⟨rfl,rfl⟩,λb z=>absurd z<|Kh b,e0.bs,e0.JW,λb _ _=>Kh b,λb z=>absurd z<|Kh b,e0.ph,e0.NZ},rfl,e0.bare,Un.kept hk,{_,x.toInCall.ns,λi y v h1 h2 h3=>?_},λy c h=>{_,x.cell y c h},e0.aJ.fresh<|zr _,λy c h=>?_,λp hp=>absurd (show p∈([]:List (Addr×Obj)) from hp)<|by simp,e0.aJ.kept hk,?_};exact name_of_addr x.apart (yk h1)<|yk h2;have hy:scope.names.lookup y=some .cell\/scope.names.lookup y=some .free:=hy;rcases hy with hy|hy;exact w6 hy;exact absurd rfl<|S.OF _<|yk hy;exact yK<|x.above y c<|yk h;have hi:i<vs.length:=by unfold start at h2;by_cases hi:i<vs.length;exact hi;rw[List.getElem?_append_right<|by simpa using hi]at h2;rw[List.getElem?_replicate]at h2;split at h2<;>cases h2
 have ha:vs[i]?=some v:=by unfold start at h2;rw[List.getElem?_append_left<|by simpa using hi,zi]at h2;cases e:vs[i]? with|none=>(rw[e]at h2;cases h2)|some a=>rw[e]at h2;cases h2;rfl
 obtain⟨u,hu,rv⟩:=r.get ha;have hp:ps[i]?=some y:=by rw[<-S.pre,List.getElem?_take_of_lt<|by lia];exact h1
 have Z9:ps.Nodup:=by rw[<-S.pre];exact S.nd.sublist<|List.take_sublist _ _
 refine{u,rv,?_};rcases S.par y (zE hp) with k|k;exact .inl {k,ub Z9 hp hu k};obtain⟨c,e⟩:=w6 (n:=s.heap.objs.size+1) k;refine .inr {.inl k,c,e,?_};have q:=x.cell y c e;rw[uc Z9 hp hu<|by show scope.names.lookup y≠_;rw[k];decide]at q;exact q;exact e0.aJ.fresh<|yK<|x.above y c<|yk h;unfold start;show _=N.length;rw[zC,zb,List.length_replicate];lia
theorem ML{CX:A1}{P:Program}{w:World}{K:Frag}{mg:Str->Option Value}{base:Heap}{k:Nat}{f:Addr}{name qual:Str}{params:Arguments}{body:List Stmt}{scope:Scope}{dV kV doc pm fN ct oc:Value}{an od:Option Addr} {OG:Array<|Option Value}{N ps:List Str}{sp:Sp} (lk:K.lookup f=some {oc,od,.func<|fnOf name qual params body scope dV kV doc pm an fN ct,OG}) (oo:codeIn K fN qual=true) (S:fQ N ps scope) (len:∀vs H Q E,sp vs H Q E->vs.length=ps.length) (lM:∀(A:Around)(outer:List Env)(s:Shared)(H:Hp)(vs:List V)(Q:VK)(E:XK),bJ k (A.deeper<|envOfC qual scope s.heap.objs.size f fN)->sp vs H Q E->∃t,CG (j0 CX P w K mg base N qual scope f fN A outer s H E) body t/\t {nx:=λ_ H'=>Q .av H',rt:=Q} (start N vs) H): bF P w K mg base CX (k+1) f (fnOf name qual params body scope dV kV doc pm an fN ct) ps sp:=by
 refine{len,λA outer s H args us vs Q E hr e0 hb r QZ=>?_};have hl:=len _ _ _ _ QZ;have KX:K.In s.heap:=e0.mod.NX.keeps λb o e=>(e0.bs b o e).1;have lim:s.heap.NoLimit:=e0.mod.nolimit.keeps λb o e=>(e0.bs b o e).1;have Sj:∀y∈ps.zip us,scope.names.lookup y.1=some .local\/(scope.names.lookup y.1=some .cell/\((cellsFrom (s.heap.objs.size+1) scope.names []).lookup y.1).isSome=true):=by rintro⟨n,v⟩ hy;rcases S.par n (List.of_mem_zip hy).1 with q|q;exact .inl q;exact .inr {q,PySem.W.cellsFrom_some _ _ _<|.inl q}
 refine codeAny_call_function hr.depth (KX _ _ lk) rfl S.co S.gen rfl (PySem.W.codeRec_of KX oo)<|hb _ _ _ _ ?_;refine wpAny_newFunctionEnv_cells S.kind Sj λenv he s1 x=>?_;subst he;refine{lim.keeps x.toInCall.keep,codeAny_func ?_};obtain⟨t,ht,hq⟩:=lM A outer s H vs Q E (hr.deeper _) QZ;have I:Inv (j0 CX P w K mg base N qual scope f fN A outer s H E) [] (start N vs) H s1:=Eu S hr.hd e0 hl r x;refine yI (ht [] s1 (start N vs) H _ I hq) (λfl s' hs=>?_) λe s' hs=>hs;have fin:∀{aB:St}{H':Hp}{v:V}{u:Value},Inv (j0 CX P w K mg base N qual scope f fN A outer s H E) [] aB H' s'->RelV v u->Q v H'->CE outer P w H s Q u s':=λ{aB H' v u} J rv q=>⟨v,H',J.os,J.bare,J.base,J.aJ,rv,q⟩;cases fl with|ret u=>(obtain⟨v,aB,H',J,rv,q⟩:=hs;exact fin J rv q)|next=>(obtain⟨aB,H',J,q⟩:=hs;exact fin (v:=V.av) (u:=Value.none) J rfl q)|brk=>(obtain⟨_,_,_,q⟩:=hs;exact False.elim q)|cont=>obtain⟨_,_,_,q⟩:=hs;exact False.elim q
section
variable{X:Cx}{x:Str}{p pos:Pos}{e:Expr}{es:List Expr}{t:TA}{id T:String}{r:List V->Hp->VK->Prop}
def Xe(r:List V->Hp->VK->Prop)(t:TA):TE:=λσ H Q=>t σ H λvs H1=>r vs H1 Q
theorem w9(hc:ee X (.builtin id) r)(hg:Gl X x)(hm:X.mg x=none)(hv:bootBuiltins x=some (.builtin id))(ha:PA X (e::es) t)(hn:autoParam (x≠"__name__") qQZ)(lN:autoParam ((x==("__debug__": Str))=false) qQZ) (he:autoParam (starEach (e::es) X.env=(false,eval e X.env)::starEach es X.env) qQJ) (cP:autoParam ((backTo pos<|starEach es X.env).any (·.1)=false) qQJ):PE X (.Call (.Name x p) (e::es) [] pos) (Xe r t):=by intro pins s σ H Q I h;refine wpAny_Call_Name_kw<|gk I hg hm hv ?_ hn lN;exact PyProof.Rows.callWith_builtin1 (bw (ha pos pins s σ H _ I h) <| by rintro us s1 ⟨vs,H1,I1,r1,q1⟩;exact hc pins s1 σ H1 vs us Q I1 r1 q1) he cP
theorem ud(hc:ee X (.type T) r)(hg:Gl X x)(hm:X.mg x=none)(hv:bootBuiltins x=some (.type T))(ha:PA X (e::es) t)(hn:autoParam (x≠"__name__") qQZ)(lN:autoParam ((x==("__debug__": Str))=false) qQZ) (he:autoParam (starEach (e::es) X.env=(false,eval e X.env)::starEach es X.env) qQJ) (cP:autoParam ((backTo pos<|starEach es X.env).any (·.1)=false) qQJ):PE X (.Call (.Name x p) (e::es) [] pos) (Xe r t):=by intro pins s σ H Q I h;refine wpAny_Call_Name_kw<|gk I hg hm hv ?_ hn lN;exact PyProof.Rows.callWith_type1 (bw (ha pos pins s σ H _ I h) <| by rintro us s1 ⟨vs,H1,I1,r1,q1⟩;exact hc pins s1 σ H1 vs us Q I1 r1 q1) he cP
end
end L2
namespace HT
open PySem PyProof.Rows
section
variable{prog:Program}{w:World}{A:Around}{E:Value->Shared->Prop}{s:Shared}
noncomputable def sIx(n d:Nat):Option Int->Nat|none=>d|some v=>if v<0 then (v+(n:Int)).toNat else min v.toNat n
theorem sIx_none(n d:Nat):sIx n d none=d:=rfl
theorem sIx_nat(n d k:Nat):sIx n d (some (k:Int))=min k n:=by show(if (k:Int)<0 then ((k:Int)+(n:Int)).toNat else min (k:Int).toNat n)=min k n;rw[if_neg<|by lia,Int.toNat_natCast]
theorem sIx_le(n d:Nat)(hd:d<=n)(o:Option Int):sIx n d o<=n:=by cases o with|none=>exact hd|some v=>show(if v<0 then (v+(n:Int)).toNat else min v.toNat n)<=n;by_cases hv:v<0;rw[if_pos hv];lia;rw[if_neg hv];exact Nat.min_le_right _ _
theorem clip_eq(v:Int)(n d:Nat):(if v<0 then max (v+(n:Int)) 0 else min v (n:Int))=((sIx n d (some v):Nat):Int):=by show(if v<0 then max (v+(n:Int)) 0 else min v (n:Int))=(((if v<0 then (v+(n:Int)).toNat else min v.toNat n):Nat):Int);by_cases hv:v<0;simp only[if_pos hv];lia;simp only[if_neg hv];lia
theorem adjust_gen(lo hi:Option Int)(n:Nat):Builtin.Slice.sliceAdjust lo hi 1 (n:Int)=(((sIx n 0 lo:Nat):Int),((sIx n n hi:Nat):Int)):=by
 have h1:¬((1:Int)<0):=by lia
 unfold Builtin.Slice.sliceAdjust;simp only[h1,if_false];refine Prod.ext ?_ ?_;cases lo with|none=>rfl|some v=>exact clip_eq v n 0
 cases hi with|none=>rfl|some v=>exact clip_eq v n n
theorem places_gen(i j:Nat):Builtin.Slice.slicePlaces (i:Int) (j:Int) 1=j-i:=by
 unfold Builtin.Slice.slicePlaces;have h1:(1:Int)>0:=by lia
 simp only[h1,if_true,Int.ediv_one];split<;>lia
theorem slicePart_(p:IsPart v o)(h:Q o s):wpAny (model prog w) A (Builtin.Slice.slicePartIndex v) Q E s:=by cases p with|none=>exact slicePart_none h|int i t=>exact slicePart_int h
theorem sliceApplied_gen{sl:Addr}{vl vu:Value}{lo hi:Option Int}{n:Nat}{Q:Int×Int×Nat->Shared->Prop}(hs:s.heap.IsSliceOf sl vl vu .none)(pl:IsPart vl lo)(pu:IsPart vu hi) (h:Q (((sIx n 0 lo:Nat):Int),1,sIx n n hi-sIx n 0 lo) s):wpAny (model prog w) A (Builtin.Slice.sliceApplied (.ref sl)<|pure (n:Int)) Q E s:=by obtain⟨os,Sk,Z_,Q0⟩:=id hs;unfold Builtin.Slice.sliceApplied Builtin.Slice.sliceFields;refine zc<|zc<|zY Sk Q0 (x:=vl) rfl<|zc<|zY Sk Q0 (x:=vu) rfl<|zc<|zY Sk Q0 (x:=.none) rfl<|zo ?_;refine zc<|slicePart_none ?_;show wpAny _ _ (if ((1:Int)==0)=true then _ else _) _ _ s;rw[if_neg<|by decide];refine zc<|slicePart_ pl<|zc<|slicePart_ pu<|zc<|zo ?_;show wpAny _ _ (match Builtin.Slice.sliceAdjust lo hi 1 (n:Int) with|(lo,hi)=>pure (lo,(1:Int),Builtin.Slice.slicePlaces lo hi 1)) _ _ s;rw[adjust_gen lo hi n];show wpAny _ _ (pure (((sIx n 0 lo:Nat):Int),(1:Int),Builtin.Slice.slicePlaces ((sIx n 0 lo:Nat):Int) ((sIx n n hi:Nat):Int) 1)) _ _ s;rw[places_gen];exact zo h
theorem pick_gen(xs:Array Value)(i k:Nat):((List.range k).filterMap λ(m:Nat)=>xs[((i:Int)+(m:Int)*1).toNat]?).toArray=((xs.toList.drop i).take k).toArray:=by
 have e:(λ(m:Nat)=>xs[((i:Int)+(m:Int)*1).toNat]?)=λm=>xs[i+m]?:=by funext m;have:((i:Int)+(m:Int)*1).toNat=i+m:=(by lia);rw[this]
 rw[e];have:=pick_run xs i k;rw[List.filterMap_map]at this;have e2:((λx=>xs[x]?) ∘ λx=>i+x)=λm=>xs[i+m]?:=rfl;rw[e2]at this;rw[this]
theorem getItem_tuple_cut{t sl:Addr}{items:Array Value}{vl vu:Value}{lo hi:Option Int}{Q:Value->Shared->Prop}(ht:IsTup s.heap t items)(hs:s.heap.IsSliceOf sl vl vu .none)(pl:IsPart vl lo)(pu:IsPart vu hi) (hw:¬(sIx items.size 0 lo=0/\sIx items.size items.size hi=items.size)) (h:Q (.ref s.heap.objs.size) {s with heap:=s.heap.push {cls:=.type "tuple",data:=.seq ((items.toList.drop<|sIx items.size 0 lo).take<|sIx items.size items.size hi-sIx items.size 0 lo).toArray}}) (hsz:items.size<=sizeLine):wpAny (model prog w) A (getItem (.ref t)<|.ref sl) Q E s:=by
 have CP:sizeOk (.seq ((items.toList.drop<|sIx items.size 0 lo).take<|sIx items.size items.size hi-sIx items.size 0 lo).toArray):=by show((items.toList.drop<|sIx items.size 0 lo).take<|sIx items.size items.size hi-sIx items.size 0 lo).toArray.size<=sizeLine;rw[zp,ym,List.length_drop,zX];lia
 have hj:sIx items.size items.size hi<=items.size:=sIx_le _ _ (zr _) hi;obtain⟨os,Sk,Z_,Q0⟩:=id hs;have hTs:s.TypeIs (.ref sl) "slice":=⟨os,Sk,Z_⟩;unfold getItem;try with_reducible refine yH ?_
 first|refine zc (zo ?_)|skip
 refine zc<|wpAny_sequenceKey ht.typeIs (by decide) ?_;refine zc<|wpAny_callSpecial?_slot (name:=Str.ofString "__getitem__") ht.typeIs PyProof.Rows.slot_tuple_getitem<|yF PyProof.Rows.slot_tuple_getitem ht.typeIs entry_tuple_getitem ?_<|args_tuple_getitem _ _;show wpAny _ _ (Builtin.Tuple.tupleItemsOf (.ref t) >>=_) _ _ s;refine zc<|tupleItemsOf_ ht ?_;refine zc<|wpAny_typeOf hTs ?_;rw[if_pos<|by decide];refine zc<|sliceApplied_gen hs pl pu ?_;have Ki:¬((((sIx items.size 0 lo:Nat):Int)==0&&(1:Int)==1&&(sIx items.size items.size hi-sIx items.size 0 lo)==items.size)=true):=by intro q;rw[zL,zL]at q;have q1:((sIx items.size 0 lo:Nat):Int)=0:=eq_of_beq q.1.1;have q2:sIx items.size items.size hi-sIx items.size 0 lo=items.size:=eq_of_beq q.2;exact hw {by lia,by lia}
 show wpAny _ _ (if (((sIx items.size 0 lo:Nat):Int)==0&&(1:Int)==1&&(sIx items.size items.size hi-sIx items.size 0 lo)==items.size)=true then _ else _) _ _ s;rw[if_neg Ki,pick_gen];first|exact zc (m:=Builtin.Tuple.tupleExact _) (yi (zo !⟨zo h⟩) CP)|exact zc (m:=Builtin.Tuple.tupleExact _) (yi (zc<|zo<|zo !⟨zo h⟩) CP)|exact zc (zc (m:=Builtin.Tuple.tupleExact _)<|yi (zo<|zo !⟨zo h⟩) CP)|exact zc (zc (m:=Builtin.Tuple.tupleExact _)<|yi (zo !⟨zo h⟩) CP)
end
end HT
namespace L2
open PySem PySem.Spec PyProof.Rows
abbrev TO:=St->Hp->(Option Int->Hp->Prop)->Prop
def PO(X:Cx)(e:Option Expr)(t:TO):Prop:=∀(pins:List (Addr×Obj))(s:Shared)(σ:St)(H:Hp)(Q:Option Int->Hp->Prop),Inv X pins σ H s->t σ H Q->wpAny (model X.prog X.w) X.A (evalPart e X.env) (λu s'=>∃o H',Inv X pins σ H' s'/\IsPart u o/\Q o H') X.xe s
def Kj:TO:=λ_ H Q=>Q none H
def Sl(t:TE):TO:=λσ H Q=>t σ H λx H1=>∃i,x=.int i/\Q (some i) H1
section
variable{X:Cx}{e:Expr}{te:TE}{lo hi:Option Expr}{tl th:TO}{pos p2:Pos}
theorem Kk:PO X none Kj:=by intro pins s σ H Q I h;rw[evalPart_none];exact zo {none,H,I,.none,h}
theorem Kl(h:PE X e te):PO X (some e) (Sl te):=by intro pins s σ H Q I hw;rw[evalPart_some];refine bw (h pins s σ H _ I hw) λu s1 ⟨x,H1,I1,r1,q1⟩=>?_;obtain⟨i,rfl,q⟩:=q1;obtain⟨t,rfl⟩:=r1;exact{some i,H1,I1,.int i t,q}
def Q1(X:Cx)(r:V->Option Int->Option Int->Hp->VK->Prop):Prop:=∀(pins:List (Addr×Obj))(s:Shared)(σ:St)(H:Hp)(x:V)(v vl vu:Value)(lo hi:Option Int)(sl:Addr)(Q:VK),Inv X pins σ H s->RelV x v->s.heap.IsSliceOf sl vl vu .none->IsPart vl lo->IsPart vu hi->r x lo hi H Q->∃T id,typeLookup (.type T) "__getitem__"= pure (some<|.builtin id)/\s.TypeIs v T/\wpAny (model X.prog X.w) X.A (getItem v<|.ref sl) (EP X pins σ Q) X.xe s
def tSl(r:V->Option Int->Option Int->Hp->VK->Prop)(te:TE)(tl th:TO):TE:=λσ H Q=>te σ H λx H1=>tl σ H1 λl H2=>th σ H2 λu H3=>r x l u H3 Q
theorem w_{r:V->Option Int->Option Int->Hp->VK->Prop}(hr:Q1 X r)(he:PE X e te)(hl:PO X lo tl)(hu:PO X hi th):PE X (.Subscript e (.Slice lo hi none p2) pos) (tSl r te tl th):=by intro pins s σ H Q I h;refine Subscript_<|bw (he pins s σ H _ I h) λv s1 ⟨x,H1,I1,r1,q1⟩=>?_;refine wpAny_Slice<|bw (hl pins s1 σ H1 _ I1 q1) λvl s2 ⟨l,H2,I2,pl,q2⟩=>bw (hu pins s2 σ H2 _ I2 q2) λvu s3 ⟨u,H3,I3,pu,q3⟩=>?_;rw[evalPart_none];refine zo ?_;have I4:Inv X pins σ H3 {s3 with heap:=s3.heap.push {cls:=.type "slice",data:=.fields #[vl,vu,.none]}}:=I3.kept (t':=s3.toks) λb ob q=>za _ q;obtain⟨T,id,hT,ht,hg⟩:=hr pins {s3 with heap:=s3.heap.push {cls:=.type "slice",data:=.fields #[vl,vu,.none]}} σ H3 x v vl vu l u s3.heap.objs.size Q I4 r1 (Heap.IsSliceOf.new ..) pl pu q3;show wpAny (model X.prog X.w) X.A (subscriptTail e (.Slice lo hi none p2) v<|.ref s3.heap.objs.size) (EP X pins σ Q) X.xe {s3 with heap:=s3.heap.push {cls:=.type "slice",data:=.fields #[vl,vu,.none]}};exact tail_any (ops:=[.ref s3.heap.objs.size,v]) ht hT hg<|by with_unfolding_all rfl
noncomputable def xa(xs:List V)(lo hi:Option Int):List V:=(xs.drop<|HT.sIx xs.length 0 lo).take<|HT.sIx xs.length xs.length hi-HT.sIx xs.length 0 lo
theorem ou(xs:List V)(lo hi:Option Int):(xa xs lo hi).length<=xs.length:=by unfold xa;rw[ym,List.length_drop];lia
def Xf(K:Frag):V->Option Int->Option Int->Hp->VK->Prop:=λx lo hi H Q=>∃a xs,x=.ref a/\iw K H a xs/\¬(HT.sIx xs.length 0 lo=0/\HT.sIx xs.length xs.length hi=xs.length)/\∀p,H p=none->Q (.ref p) (upd H p<|.tup<|xa xs lo hi)
theorem OH:Q1 X (Xf X.K):=by
 intro pins s σ H x v vl vu lo hi sl Q I rx hs pl pu h;obtain⟨a,xs,rfl,hx,hw,q⟩:=h;cases rx;obtain⟨az,r,ht,hz⟩:=I.tuple hx;have hlen:az.toArray.size=xs.length:=by rw[zp];exact r.length.symm
 refine{"tuple",_,PyProof.Rows.slot_tuple_getitem.lookup,ht.typeIs,?_};refine HT.getItem_tuple_cut ht hs pl pu (by rw[hlen];exact hw) ?_ (by rw[hlen];exact hz);rw[hlen];refine{.ref s.heap.objs.size,_,I.laid (t':=s.toks) (o:=.tup<|xa xs lo hi) (λb ob q=>za _ q) (zr _) ?_,rfl,q _<|I.aJ.fresh<|zr _};exact{zH (ou xs lo hi) hz,_,(r.drop<|HT.sIx xs.length 0 lo).take<|HT.sIx xs.length xs.length hi-HT.sIx xs.length 0 lo,g6.new _ _}
end
noncomputable def GI(n:Nat)(i:Int):Option Nat:=if 0<=i then (if i<n then some i.toNat else none) else if -(n:Int)<=i then some (i+n).toNat else none
noncomputable def jK{α:Type}(xs:List α)(i:Int):Option α:=(GI xs.length i).bind λj=>xs[j]?
theorem CQ(h:GI n i=some j):seqIndex? i n=some j/\j<n/\-(n:Int)<=i/\i<n:=by unfold GI at h;by_cases h0:0<=i;rw[if_pos h0]at h;by_cases h1:i<n;rw[if_pos h1]at h;have e:i.toNat=j:=zT h;exact{by rw[seqIndex_of h0 h1,e],by lia,by lia,h1};rw[if_neg h1]at h;cases h;rw[if_neg h0]at h;by_cases h1:-(n:Int)<=i;rw[if_pos h1]at h;have e:(i+n).toNat=j:=zT h;exact{by rw[seqIndex_neg (by lia) h1,e],by lia,h1,by lia};rw[if_neg h1]at h;cases h
theorem uZ(h:jK xs i=some v):∃j,seqIndex? i xs.length=some j/\xs[j]?=some v/\j<xs.length/\-(xs.length:Int)<=i/\i<xs.length:=by unfold jK at h;cases e:GI xs.length i with|none=>(rw[e]at h;cases h)|some j=>rw[e]at h;obtain⟨h1,h2,h3,h4⟩:=CQ e;exact⟨j,h1,h,h2,h3,h4⟩
theorem bU{α:Type}{xs:List α}{j:Nat}{v:α}(h:xs[j]?=some v):jK xs (j:Int)=some v:=by
 have hj:j<xs.length:=(ze.mp h).1;have e:GI xs.length (j:Int)=some j:=by unfold GI;rw[if_pos<|by lia,if_pos<|by lia];simp
 unfold jK;rw[e];exact h
def CT(b:Expr):Prop:=∀o i,subscripted b false o i=operate [o,i] (getItem o i)
def Sm(X:Cx)(r:R2):Prop:=∀(value slice:Expr)(pins:List (Addr×Obj))(s:Shared)(σ:St)(H:Hp)(x y:V)(v u:Value)(Q:VK),Inv X pins σ H s->RelV x v->RelV y u->r x y H Q->subscripted slice false v u=operate [v,u] (getItem v u)->wpAny (model X.prog X.w) X.A (subscriptTail value slice v u) (EP X pins σ Q) X.xe s
def Q2(X:Cx)(id:String)(r:V->List V->Hp->VK->Prop):Prop:=∀(pins:List (Addr×Obj))(s:Shared)(σ:St)(H:Hp)(x:V)(xs:List V)(v:Value)(us:List Value)(Q:VK),Inv X pins σ H s->RelV x v->Vals xs us->r x xs H Q->wpAny (model X.prog X.w) X.A (call (.builtin id)<|v::us) (EP X pins σ Q) X.xe s
section
variable{X:Cx}{a b:Expr}{ta tb:TE}{pos:Pos}
theorem Sn(hr:Sm X r)(ha:PE X a ta)(hb:PE X b tb)(hs:CT b):PE X (.Subscript a b pos) (QY r ta tb):=by intro pins s σ H Q I h;exact Subscript_<|Oq ha hb I h λv u s2 x y H2 I2 rx ry q=>hr a b pins s2 σ H2 x y v u Q I2 rx ry q<|hs _ _
def Xg(K:Frag):R2:=λx y H Q=>∃p xs i v,x=.ref p/\y=.int i/\iW K H p xs/\jK xs i=some v/\Q v H
def Xh(K:Frag):R2:=λx y H Q=>∃p xs i v,x=.ref p/\y=.int i/\iw K H p xs/\jK xs i=some v/\Q v H
def Xi:R2:=λx y H Q=>∃z i c,x=.str z/\y=.int i/\z.length<=sizeLine/\jK z.cps.toList i=some c/\Q (.str ⟨#[c]⟩) H
theorem CU:Sm X (Xg X.K):=by
 intro value slice pins s σ H x y v u Q I rx ry h hs;obtain⟨p,xs,i,z,rfl,rfl,hq,he,q⟩:=h;cases rx;obtain⟨t,rfl⟩:=ry;obtain⟨az,r,pl,hz⟩:=I.list hq;obtain⟨j,h1,h2,h3,h4,h5⟩:=uZ he;obtain⟨w,ew,m7⟩:=r.get h2;have hl:=r.length;have hn:=qw;have fin:EP X pins σ Q w s:=⟨z,H,I,m7,q⟩;by_cases h0:0<=i;have hj:i.toNat=j:=by rw[seqIndex_of h0 h5]at h1;exact zT h1
 exact item_listR pl.isList h0 (by lia) (by rw[hj];simpa using ew) fin hs;have hj:(i+(az.toArray.size:Int)).toNat=j:=by rw[seqIndex_neg (by lia) h4]at h1;rw[zp,<-hl];exact zT h1
 exact subscriptTail_builtinR (x:=w) pl.isList.typeIs slot_list_getitem.lookup (wpAny_getItem_list_neg (Q:=λr s'=>r=w/\EP X pins σ Q r s') pl.isList (by lia) (by rw[zp]<;>lia) (by lia) (by rw[hj];simpa using ew) ⟨rfl,fin⟩) hs
theorem GJ:Sm X (Xh X.K):=by intro value slice pins s σ H x y v u Q I rx ry h hs;obtain⟨p,xs,i,z,rfl,rfl,hq,he,q⟩:=h;cases rx;obtain⟨t,rfl⟩:=ry;obtain⟨az,r,pl,hz⟩:=I.tuple hq;obtain⟨j,h1,h2,h3,h4,h5⟩:=uZ he;obtain⟨w,ew,m7⟩:=r.get h2;have hl:=r.length;have hn:=qw;have fin:EP X pins σ Q w s:=⟨z,H,I,m7,q⟩;exact subscriptTail_builtinR (x:=w) pl.typeIs slot_tuple_getitem.lookup (getItem_tuple (j:=j) (Q:=λr s'=>r=w/\EP X pins σ Q r s') pl (by lia) (by lia) (by rw[zp,<-hl];exact h1) (by simpa using ew) ⟨rfl,fin⟩) hs
theorem OI:Sm X Xi:=by
 intro value slice pins s σ H x y v u Q I rx ry h hs;obtain⟨z,i,c,rfl,rfl,hz,he,q⟩:=h;obtain⟨t,rfl⟩:=rx;obtain⟨t',rfl⟩:=ry;obtain⟨j,h1,h2,h3,h4,h5⟩:=uZ he;have hl:z.cps.toList.length=z.length:=by simp[Str.length]
 rw[hl]at h1 h4 h5;have hn:=qw;exact tail_any (typeIs_str s z t) slot_str_getitem.lookup (getItem_str (c:=c) (by have e1:decide (i < -(2^63:Int))=false:=zu (by lia);have e2:decide (i>=2^63)=false:=zu (by lia);rw[e1,e2,Bool.or_false]) (by rw[h1];simpa using h2) {.str ⟨#[c]⟩,H,I.tok _,{_,rfl},q}) hs
theorem A3(az:List Value)(n j:Nat)(u:Value):Obj.mapSeq (·.setIfInBounds j u) {cls:=.type "list",data:=.seq az.toArray n}={cls:=.type "list",data:=.seq (az.set j u).toArray n}:=by simp[Obj.mapSeq]
theorem Inv.lst(I:Inv X pins σ H s)(h:H p=some (.lst xs)): ∃(az:List Value)(n:Nat),Vals xs az/\s.heap.get? p=some {cls:=.type "list",data:=.seq az.toArray n}/\xs.length<=sizeLine:=by obtain⟨z,az,n,r,e⟩:=I.aJ p _ h;exact⟨az,n,r,e,z⟩
theorem Inv.OJ{pins:List<|Addr×Obj}{σ:St}{H:Hp}{s:Shared}{p:Addr}{xs ys:List V}{az its':List Value}{n n':Nat}{f:Obj->Obj}(I:Inv X pins σ H s)(h:H p=some (.lst xs)) (ho:s.heap.get? p=some {cls:=.type "list",data:=.seq az.toArray n}) (hf:f {cls:=.type "list",data:=.seq az.toArray n}={cls:=.type "list",data:=.seq its'.toArray n'}) (r:Vals ys its') (hz:ys.length<=sizeLine) (t:Nat): Inv X pins σ (upd H p<|.lst ys) {s with heap:=s.heap.update p f,toks:=t}:=by
 have e:(s.heap.update p f).get? p=some {cls:=.type "list",data:=.seq its'.toArray n'}:=by rw[yy f ho<|by rw[hf]<;>rfl,hf]
 refine I.write (x:=p) (e:=p) (by rw[h];trivial) (.inl rfl) (λb u hb q=>(yu _ _<|Ne.symm hb).trans q) {_,e} ?_;exact⟨hz,its',n',r,e⟩
def So:V->V->V->Hp->(Hp->Prop)->Prop:=λo i v H Q=>∃p xs k j,o=.ref p/\i=.int k/\H p=some (.lst xs)/\GI xs.length k=some j/\Q (upd H p<|.lst<|xs.set j v)
theorem set_list:RY X So:=by
 intro pins s σ H o i v ov iv u Q I ro ri rv h;obtain⟨p,xs,k,j,rfl,rfl,hp,hj,q⟩:=h;cases ro;obtain⟨t,rfl⟩:=ri;obtain⟨az,n,r,ho,hz⟩:=I.lst hp;obtain⟨h1,h2,h3,h4⟩:=CQ hj;have hl:=r.length;have hn:=qw;have I':Inv X pins σ (upd H p<|.lst<|xs.set j v) {s with heap:=s.heap.update p (Obj.mapSeq (·.setIfInBounds j u))}:=I.OJ hp ho (A3 az n j u) (r.set rv j) (by rw[List.length_set];exact hz) s.toks;by_cases h0:0<=k;have hk:k.toNat=j:=by rw[seqIndex_of h0 h4]at h1;exact zT h1
 exact PySem.W.ki_setAt ho h0 (by lia) (by rw[zp,<-hl];exact h4) (by rw[hk];exact{_,I',q});have hk:(k+(az.toArray.size:Int)).toNat=j:=by rw[seqIndex_neg (by lia) h3]at h1;rw[zp,<-hl];exact zT h1
 exact PySem.W.ki_setBack ho (by lia) (by rw[zp,<-hl];exact h3) (by lia)<|by rw[hk];exact{_,I',q}
theorem u0(lo hi:Option Int)(n:Nat):(sliceBounds lo hi none n).1=((HT.sIx n 0 lo:Nat):Int)/\(sliceBounds lo hi none n).2.1=((HT.sIx n n hi:Nat):Int)/\(sliceBounds lo hi none n).2.2=1:=by
 refine{?_,?_,rfl};cases lo with|none=>simp[sliceBounds,HT.sIx]|some i=>simp only[sliceBounds,HT.sIx,Option.getD_none,show(1:Int)>0 by decide,if_true];by_cases h:i<0;simp only[h,if_true]<;>lia;simp only[h,if_false]<;>lia
 cases hi with|none=>simp[sliceBounds,HT.sIx]|some i=>simp only[sliceBounds,HT.sIx,Option.getD_none,show(1:Int)>0 by decide,if_true];by_cases h:i<0;simp only[h,if_true]<;>lia;simp only[h,if_false]<;>lia
theorem sR(az:List Value)(lo hi:Option Int):slicePick az.toArray lo hi none=((az.drop<|HT.sIx az.length 0 lo).take<|HT.sIx az.length az.length hi-HT.sIx az.length 0 lo).toArray:=by obtain⟨h1,h2,h3⟩:=u0 lo hi az.toArray.size;unfold slicePick;rw[h1,h2,h3];simp only[sliceRange_one,pick_run,zp]<;>rfl
def Xj(K:Frag):V->Option Int->Option Int->Hp->VK->Prop:=λx lo hi H Q=>∃a xs,x=.ref a/\iW K H a xs/\∀p,H p=none->Q (.ref p) (upd H p<|.lst<|xa xs lo hi)
theorem pZ:Q1 X (Xj X.K):=by intro pins s σ H x v vl vu lo hi sl Q I rx hs pl pu h;obtain⟨a,xs,rfl,hx,q⟩:=h;cases rx;obtain⟨az,r,ht,hz⟩:=I.list hx;have hlen:=r.length;refine{"list",_,slot_list_getitem.lookup,ht.isList.typeIs,?_};refine wpAny_getItem_list_slice ht.isList hs pl pu .none (by simp) ?_ (by rw[zp]<;>lia);rw[sR,<-hlen];refine{.ref s.heap.objs.size,_,I.laid (t':=s.toks) (o:=.lst<|xa xs lo hi) (λb ob q=>za _ q) (zr _) ?_,rfl,q _<|I.aJ.fresh<|zr _};exact{zH (ou xs lo hi) hz,_,0,(r.drop<|HT.sIx xs.length 0 lo).take<|HT.sIx xs.length xs.length hi-HT.sIx xs.length 0 lo,zk _ rfl}
noncomputable def gz:V->Bool|.av=>true|.bl _=>true|.int _=>true|.str _=>true|_=>false
noncomputable def eqV:V->V->Bool|.av,.av=>true|.bl a,.bl b=>a==b|.bl a,.int b=>((if a then 1 else 0)==b)|.int a,.bl b=>(a==(if b then 1 else 0))|.int a,.int b=>a==b|.str a,.str b=>a==b|_,_=>false
theorem OL(ry:RelV y u)(rx:RelV x v)(fy:gz y=true)(fx:gz x=true):SeqAt.EqAt A s u v (eqV y x):=by cases y with|av=>(cases ry;cases x with|av=>(cases rx;exact SeqAt.EqAt.same _)|bl b=>(cases rx;exact SeqAt.EqAt.none_bool b)|int b=>(obtain⟨t,rfl⟩:=rx;exact SeqAt.EqAt.none_int b t)|str b=>(obtain⟨t,rfl⟩:=rx;exact SeqAt.EqAt.none_str b t)|_=>exact absurd (show false=true from fx) zd)|bl a=>(cases ry;cases x with|av=>(cases rx;exact SeqAt.EqAt.bool_none a)|bl b=>(cases rx;exact SeqAt.EqAt.bool_bool a b)|int b=>(obtain⟨t,rfl⟩:=rx;exact SeqAt.EqAt.bool_int a b t)|str b=>(obtain⟨t,rfl⟩:=rx;exact SeqAt.EqAt.bool_str a b t)|_=>exact absurd (show false=true from fx) zd)|int a=>(obtain⟨t',rfl⟩:=ry;cases x with|av=>(cases rx;exact SeqAt.EqAt.int_none a t')|bl b=>(cases rx;exact SeqAt.EqAt.int_bool a t' b)|int b=>(obtain⟨t,rfl⟩:=rx;exact SeqAt.EqAt.int_int a t' b t)|str b=>(obtain⟨t,rfl⟩:=rx;exact SeqAt.EqAt.int_str a t' b t)|_=>exact absurd (show false=true from fx) zd)|str a=>(obtain⟨t',rfl⟩:=ry;cases x with|av=>(cases rx;exact SeqAt.EqAt.str_none a t')|bl b=>(cases rx;exact SeqAt.EqAt.str_bool a t' b)|int b=>(obtain⟨t,rfl⟩:=rx;exact SeqAt.EqAt.str_int a t' b t)|str b=>(obtain⟨t,rfl⟩:=rx;exact SeqAt.EqAt.str_str a t' b t)|_=>exact absurd (show false=true from fx) zd)|_=>exact absurd (show false=true from fy) zd
noncomputable def GK(x:V)(u:Value):Bool:=match u with|.none=>eqV .av x|.bool b=>eqV (.bl b) x|.int i _=>eqV (.int i) x|.str z _=>eqV (.str z) x|_=>false
theorem A4(r:RelV y u)(f:gz y=true):GK x u=eqV y x:=by cases y with|av=>(cases r;rfl)|bl b=>(cases r;rfl)|int i=>(obtain⟨t,rfl⟩:=r;rfl)|str z=>(obtain⟨t,rfl⟩:=r;rfl)|_=>exact absurd (show false=true from f) zd
theorem u3:∀{xs:List V}{us:List Value},Vals xs us->xs.all gz=true->us.any (GK x)=xs.any λy=>eqV y x|_,_,.nil,_=>rfl|y::xs,u::us,.cons r t,f=>by rw[List.all_cons,zL]at f;rw[yQ,yQ,A4 r f.1,u3 t f.2]
theorem lO(rx:RelV x v)(fx:gz x=true):∀{xs:List V}{us:List Value},Vals xs us->xs.all gz=true->∀u∈us,SeqAt.EqAt A s u v (GK x u)|_,_,.nil,_=>(λu hu=>by cases hu)|y::xs,u::us,.cons r t,f=>λu' hu=>by rw[List.all_cons,zL]at f;rcases zj.mp hu with rfl|hu;rw[A4 r f.1];exact OL r rx f.1 fx;exact lO rx fx t f.2 u' hu
noncomputable def A5(x:V)(xs:List V):Bool:=xs.any λy=>eqV y x
def rIn(K:Frag)(neg:Bool):R2:=λx y H Q=>∃p xs,y=.ref p/\(iW K H p xs\/iw K H p xs)/\gz x=true/\xs.all gz=true/\Q (.bl<|if neg then !A5 x xs else A5 x xs) H
theorem m_:gW X (compareOp .In) (rIn X.K false):=by intro pins s σ H x y v u Q I rx ry h;obtain⟨p,xs,rfl,hq,fx,fs,q⟩:=h;cases ry;rcases hq with hq|hq;obtain⟨az,r,pl,hz⟩:=I.list hq;refine SeqAt.in_listAt (GK x) pl.isList (λw hw=>lO rx fx r fs w<|by simpa using hw) {.bl _,H,I,rfl,?_};rw[show az.toArray.any (GK x)=az.any (GK x) by simp,u3 r fs];exact q;obtain⟨az,r,pl,hz⟩:=I.tuple hq;refine SeqAt.in_tupleAt (GK x) pl (λw hw=>lO rx fx r fs w<|by simpa using hw) {.bl _,H,I,rfl,?_};rw[show az.toArray.any (GK x)=az.any (GK x) by simp,u3 r fs];exact q
theorem kr:ee X (.type "tuple") (λxs H Q=>∃p ys,xs=[.ref p]/\((iW X.K H p ys/\∀l,H l=none->Q (.ref l) (upd H l<|.tup ys))\/(iw X.K H p ys/\Q (.ref p) H))):=by intro pins s σ H xs us Q I r h;obtain⟨p,ys,rfl,h⟩:=h;obtain⟨u,rfl,rx⟩:=vals1 r;cases rx;rcases h with⟨hq,q⟩|⟨hq,q⟩;obtain⟨az,r',pl,hz⟩:=I.list hq;have hlen:=r'.length;refine call_tuple_list pl.isList (λh' kp=>?_) (by simp only[zp]<;>lia);have I1:Inv X pins σ H {s with heap:=h'}:=I.kept (t':=s.toks) kp;have I2:Inv X pins σ (upd H h'.objs.size<|.tup ys) {s with heap:=h'.push {cls:=.type "tuple",data:=.seq az.toArray}}:=I1.laid (t':=s.toks) (λb o e=>za _ e) (zr _)<|show bt X.prog X.w _ _ _ (.tup ys) from{hz,az,r',g6.new _ _};exact{.ref h'.objs.size,_,I2,rfl,q _<|I1.aJ.fresh<|zr _};obtain⟨az,r',pl,hz⟩:=I.tuple hq;exact call_tuple_same pl {.ref p,H,I,rfl,q}
def VN(K:Frag)(T:String)(x:V)(H:Hp):Prop:=match x with|.str _=>T ="str"|.int _=>T ="int"|.ref p=>(T ="list"/\∃xs,iW K H p xs)\/(T ="tuple"/\∃o,K.lookup p=some o/\o.cls=.type "tuple"/\o.dict=none)\/(T ="dict"/\((∃kvs,H p=some (.dK kvs))\/∃kvs,H p=some (.dT kvs)))\/(T ="set"/\∃S n,H p=some (.set S n))|_=>False
theorem GL{T:String}(I:Inv X pins σ H s)(r:RelV x v)(ty:VN X.K T x H): s.TypeIs v T/\∀a,v=.ref a->∃ob,s.heap.get? a=some ob/\ob.dict=none:=by cases x with|str z=>(obtain⟨t,rfl⟩:=r;cases (show T ="str" from ty);exact{typeIs_str s z t,λ_ e=>nomatch e})|int i=>(obtain⟨t,rfl⟩:=r;cases (show T ="int" from ty);exact{typeIs_int s i t,λ_ e=>nomatch e})|ref p=>(cases r;rcases ty with⟨rfl,xs,hq⟩|⟨rfl,o,hk,hc,hd⟩|⟨rfl,hk⟩|⟨rfl,S,n,hk⟩;obtain⟨az,_,pl,_⟩:=I.list hq;refine{pl.isList.typeIs,λa e=>?_};cases e;obtain⟨o,n,e,c,hd,_⟩:=pl;exact⟨o,e,hd⟩;refine{{o,I.mY p o hk,hc},λa e=>?_};cases e;exact{o,I.mY _ o hk,hd};have z:∃o,s.heap.get? p=some o/\o.ExactDict:=(by rcases hk with⟨kvs,hk⟩|⟨kvs,hk⟩;obtain⟨_,_,_,_,o,_,_,e,ex,_⟩:=I.aJ p _ hk;exact⟨o,e,ex⟩;exact False.elim<|I.aJ p _ hk);obtain⟨o,e,ex⟩:=z;refine{⟨o,e,ex.1⟩,λa e2=>?_};cases e2;exact⟨o,e,ex.2.1⟩;obtain⟨o,_,_,_,e,ex,_⟩:=I.aJ p _ hk;refine{⟨o,e,ex.1⟩,λa e2=>?_};cases e2;exact⟨o,e,ex.2.1⟩)|_=>exact False.elim ty
def Xk(K:Frag)(T:String)(r:V->List V->Hp->VK->Prop)(to:TE):TE:=λσ H Q=>to σ H λx H1=>VN K T x H1/\r x [] H1 Q
def tBM(K:Frag)(T:String)(r:V->List V->Hp->VK->Prop)(to:TE)(t:TA):TE:=λσ H Q=>to σ H λx H1=>VN K T x H1/\t σ H1 λxs H2=>r x xs H2 Q
variable{o e:Expr}{es:List Expr}{to:TE}{t:TA}{name:Str}{apos aL:Pos}{T id:String}{r:V->List V->Hp->VK->Prop}
theorem OM(pa:PlainAttrs T)(slot:Slot T name id)(ON:typeOf (.builtin id)=pure (.type "method_descriptor"))(hm:Q2 X id r)(ho:PE X o to) (lP:autoParam (attributeBase o name X.env (eval o X.env)=eval o X.env) qQJ) (qz:autoParam ((apos.endLine==aL.line)=true) qQJ):PE X (.Call (.Attribute o name apos) [] [] aL) (Xk X.K T r to):=by intro pins s σ H Q I h;refine wpAny_Call_method0_late lP qz<|bw (ho pins s σ H _ I h) λv s1 ⟨x,H1,I1,r1,ty,q1⟩=>?_;obtain⟨h1,h2⟩:=GL I1 r1 ty;exact{T,id,pa,slot,ON,h1,h2,Calls.callWith_builtin rfl<|PySem.evalArgs_none<|hm pins s1 σ H1 x [] v [] Q I1 r1 .nil q1}
theorem Sr(pa:PlainAttrs T)(slot:Slot T name id)(ON:typeOf (.builtin id)=pure (.type "method_descriptor"))(hm:Q2 X id r)(ho:PE X o to)(ha:PA X (e::es) t) (lP:autoParam (attributeBase o name X.env (eval o X.env)=eval o X.env) qQJ) (OO:autoParam (((backTo aL<|starEach (e::es) X.env).all (λx=>!x.1)&&(backToKw aL<|keywordEach [] X.env).all (λx=>x.1.isSome)&&decide ((e::es).length+([]:List Keyword).length+(if ([]:List Keyword).isEmpty then 0 else 1)<30))=true) qQJ) (qz:autoParam ((apos.endLine==aL.line)=true) qQJ) (hs:autoParam (starEach (e::es) X.env=(false,eval e X.env)::starEach es X.env) qQJ) (A6:autoParam ((backTo aL<|starEach es X.env).any (·.1)=false) qQJ): PE X (.Call (.Attribute o name apos) (e::es) [] aL) (tBM X.K T r to t):=by intro pins s σ H Q I h;refine wpAny_Call_method_late lP OO qz rfl<|bw (ho pins s σ H _ I h) λv s1 ⟨x,H1,I1,r1,ty,q1⟩=>?_;obtain⟨h1,h2⟩:=GL I1 r1 ty;refine{T,id,pa,slot,ON,h1,h2,?_};have hA:=ha aL pins s1 σ H1 _ I1 q1;rw[hs]at hA⊢;refine Calls.callWith_builtin (by show(false||(backTo aL<|starEach es X.env).any (·.1))=false;rw[A6]<;>rfl)<|Calls.evalArgs_plain ?_;exact bw hA <| by rintro us s2 ⟨vs,H2,I2,r2,q2⟩;exact hm pins s2 σ H2 x vs v us Q I2 r1 r2 q2
end
def Ss(X:Cx)(id:String)(r:V->List V->Hp->VK->Prop):Prop:=∀(pins:List (Addr×Obj))(s:Shared)(σ:St)(H:Hp)(x:V)(xs:List V)(v:Value)(us:List Value)(Q:VK),Inv X pins σ H s->RelV x v->Vals xs us->r x xs H Q->wpAny (model X.prog X.w) X.A (call (.builtin id)<|v::us) (EP X pins σ Q) X.xe s
theorem Vals.one:∀{x:V}{us:List Value},Vals [x] us->∃u,us=[u]/\RelV x u:=by intro x us h;cases h with|cons r t=>cases t;exact{_,rfl,r}
theorem Vals.two:∀{x y:V}{us:List Value},Vals [x,y] us->∃u v,us=[u,v]/\RelV x u/\RelV y v:=by intro x y us h;cases h with|cons r t=>obtain⟨_,rfl,q⟩:=Vals.one t;exact{_,_,rfl,r,q}
theorem Vals.zero:∀{us:List Value},Vals [] us->us=[]|_,.nil=>rfl
theorem Vals.dropLast{xs:List V}{us:List Value}(h:Vals xs us):Vals xs.dropLast us.dropLast:=by induction h with|nil=>exact .nil|cons r t ih=>cases t with|nil=>exact .nil|cons q t'=>exact .cons r ih
theorem Vals.eraseIdx:∀{xs:List V}{us:List Value}(i:Nat),Vals xs us->Vals (xs.eraseIdx i) (us.eraseIdx i)|_,_,_,.nil=>.nil|_,_,0,.cons _ t=>t|_,_,i+1,.cons r t=>.cons r<|Vals.eraseIdx i t
theorem A7{α:Type}(l:List α):l.eraseIdx (l.length-1)=l.dropLast:=by induction l with|nil=>rfl|cons a r ih=>cases r with|nil=>rfl|cons b r=>have e:(a::b::r).length-1=((b::r).length-1)+1:=(by have h1:(a::b::r).length=r.length+2:=rfl;have h2:(b::r).length=r.length+1:=rfl;lia);rw[e,List.eraseIdx_cons_succ,ih];all_goals rfl
theorem ue{α:Type} : ∀(l:List α)(i:Nat),(l.eraseIdx i).length<=l.length|[],_=>zr _|_::_,0=>yS _|_::r,i+1=>Nat.succ_le_succ<|ue r i
section
variable{X:Cx}{pins:List (Addr×Obj)}{σ:St}{H:Hp}{s:Shared}{l:Addr}{xs ys:List V}
theorem Inv.GN{az its':List Value}{n:Nat}{f:Array Value->Array Value}{t':Nat}(I:Inv X pins σ H s)(hH:H l=some (.lst xs)) (e:s.heap.get? l=some {cls:=.type "list",data:=.seq az.toArray n}) (hf:f az.toArray=its'.toArray) (hv:Vals ys its') (hz:ys.length<=sizeLine): Inv X pins σ (upd H l<|.lst ys) {s with heap:=s.heap.update l<|Obj.mapSeq f,toks:=t'}:=by have q:=PySem.IsL.update e f;rw[hf]at q;refine I.write (x:=l) (e:=l) (by rw[hH];exact trivial) (.inl rfl) (λb' u hb hu=>(yu s.heap (Obj.mapSeq f)<|Ne.symm hb).trans hu) {_,q} ?_;exact{hz,its',_,hv,q}
theorem Inv.Xl(I:Inv X pins σ H s)(hv:Vals ys az)(hz:ys.length<=sizeLine): Inv X pins σ (upd H s.heap.objs.size<|.lst ys) {s with heap:=s.heap.push {cls:=.type "list",data:=.seq az.toArray},toks:=t'}:=I.laid (λ_ _ q=>za _ q) (zr _) {hz,az,0,hv,zk _ rfl}
theorem Inv.fresh(I:Inv X pins σ H s):H s.heap.objs.size=none:=I.aJ.fresh<|zr _
theorem Inv.xb(I:Inv X pins σ H s)(hH:H l=some (.lst xs)):xs.length<=sizeLine/\∃(az:List Value)(n:Nat),Vals xs az/\xs.length=az.length/\s.heap.get? l=some {cls:=.type "list",data:=.seq az.toArray n}:=by obtain⟨z,az,n,r,e⟩:=I.aJ l _ hH;exact⟨z,az,n,r,r.length,e⟩
theorem GO{n:Nat}(h:n<=sizeLine):Builtin.List.listTooLong n=false:=by unfold Builtin.List.listTooLong;exact zu<|by lia
end
section
variable{X:Cx}
def Km:V->List V->Hp->VK->Prop:=λx vs H Q=>∃l xs y,x=.ref l/\vs=[y]/\H l=some (.lst xs)/\xs.length<sizeLine/\Q .av (upd H l<|.lst<|xs++[y])
theorem Ew:Ss X "list.append" Km:=by intro pins s σ H x vs v us Q I rx rv h;obtain⟨l,xs,y,rfl,rfl,hH,hz,q⟩:=h;cases rx;obtain⟨u,rfl,ru⟩:=rv.one;obtain⟨z,az,n,r,hl,e⟩:=I.xb hH;refine call_meets F.slot_list_append {_,e,rfl} F.entry_list_append (F.args_list_append_2 _ _) (PySem.list_append l az.toArray n u<|by rw[zp];lia) {e,?_};refine{.av,_,I.GN (its':=az++[u]) hH e (by simp) (r.append<|.cons ru .nil) ?_,rfl,q};rw[zC,List.length_singleton];lia
def Xm:V->List V->Hp->VK->Prop:=λx vs H Q=>∃l xs y,x=.ref l/\vs=[]/\H l=some (.lst xs)/\xs[xs.length-1]?=some y/\Q y (upd H l<|.lst xs.dropLast)
theorem OP:Ss X "list.pop" Xm:=by
 intro pins s σ H x vs v us Q I rx rv h;obtain⟨l,xs,y,rfl,rfl,hH,hy,q⟩:=h;cases rx;have Xn:=rv.zero;subst Xn;obtain⟨z,az,n,r,hl,e⟩:=I.xb hH;obtain⟨u,hu,ru⟩:=r.get hy;have Su:az.toArray[az.toArray.size-1]?=some u:=by show az.toArray[az.length-1]?=some u;rw[<-Array.getElem?_toList,<-hl];exact hu
 refine call_meets F.slot_list_pop {_,e,rfl} F.entry_list_pop (F.args_list_pop_1 _) (MeetsSeq.list_pop_last l az.toArray n u Su<|by rw[zp];lia) {e,?_};refine{y,_,I.GN (its':=az.dropLast) hH e ?_ r.dropLast ?_,ru,q};show az.toArray.eraseIdxIfInBounds (az.toArray.size-1)=az.dropLast.toArray;rw[zp,List.eraseIdxIfInBounds_toArray,A7];rw[List.length_dropLast];lia
def OQ:V->List V->Hp->VK->Prop:=λx vs H Q=>∃l xs i k y,x=.ref l/\vs=[.int i]/\H l=some (.lst xs)/\-(2^63)<=i/\i<2^63/\seqIndex? i xs.length=some k/\xs[k]?=some y/\Q y (upd H l<|.lst<|xs.eraseIdx k)
theorem GP:Ss X "list.pop" OQ:=by intro pins s σ H x vs v us Q I rx rv h;obtain⟨l,xs,i,k,y,rfl,rfl,hH,h1,h2,hk,hy,q⟩:=h;cases rx;obtain⟨u,rfl,ru⟩:=rv.one;obtain⟨t,rfl⟩:=ru;obtain⟨z,az,n,r,hl,e⟩:=I.xb hH;obtain⟨w,hw,m7⟩:=r.get hy;refine call_meets F.slot_list_pop {_,e,rfl} F.entry_list_pop (F.args_list_pop_2 _ _) (MeetsSeq.list_pop_at l az.toArray n i t k w (fitsIndex_both h1 h2) (by rw[zp,<-hl];exact hk) (by rw[<-Array.getElem?_toList];exact hw)<|by rw[zp];lia) {e,?_};refine{y,_,I.GN (its':=az.eraseIdx k) hH e ?_ (r.eraseIdx k) ?_,m7,q};show az.toArray.eraseIdxIfInBounds k=(az.eraseIdx k).toArray;rw[List.eraseIdxIfInBounds_toArray];have:=ue xs k;lia
def OR:V->List V->Hp->VK->Prop:=λx vs H Q=>∃l xs,x=.ref l/\vs=[]/\H l=some (.lst xs)/\Q .av (upd H l<|.lst [])
theorem GQ:Ss X "list.clear" OR:=by intro pins s σ H x vs v us Q I rx rv h;obtain⟨l,xs,rfl,rfl,hH,q⟩:=h;cases rx;have Xn:=rv.zero;subst Xn;obtain⟨z,az,n,r,hl,e⟩:=I.xb hH;refine call_meets F.slot_list_clear {_,e,rfl} F.entry_list_clear (F.args_list_clear_1 _) (AutoSeq1.list_clear_list_0 l az.toArray n<|by rw[zp];lia) {e,?_};exact{.av,_,I.GN (its':=[]) (ys:=[]) hH e rfl .nil<|zV _,rfl,q}
def Xo:R2:=λx y H Q=>∃l b xs zs,x=.ref l/\y=.ref b/\H l=some (.lst xs)/\H b=some (.lst zs)/\xs.length+zs.length<=sizeLine/\∀p,H p=none->Q (.ref p) (upd H p<|.lst<|xs++zs)
theorem OS:gW X (binaryOp .Add) Xo:=by
 intro pins s σ H x y v u Q I rx ry h;obtain⟨l,b,xs,zs,rfl,rfl,hH,hB,hz,q⟩:=h;cases rx;cases ry;obtain⟨z,az,n,r,hl,e⟩:=I.xb hH;obtain⟨z2,sS,n2,r2,FZ,e2⟩:=I.xb hB;refine PySem.P.add_list e e2 ?_ (by rw[zp,zp];lia);have ea:az.toArray++sS.toArray=(az++sS).toArray:=by simp
 rw[ea];exact{.ref _,_,I.Xl (t':=s.toks) (r.append r2)<|by rw[zC];lia,rfl,q _ I.fresh}
end
section
variable{κ:Type}[DecidableEq κ]
noncomputable def fO(kvs:List<|κ×V)(k:κ):Option V:=(kvs.find? λkv=>decide<|kv.1=k).map (·.2)
noncomputable def putK(kvs:List<|κ×V)(k:κ)(v:V):List (κ×V):=if (kvs.any λkv=>decide<|kv.1=k)=true then kvs.map (λkv=>if kv.1=k then (kv.1,v) else kv) else kvs++[(k,v)]
noncomputable def ow(kvs:List<|κ×V)(k:κ):List (κ×V):=kvs.filter λkv=>decide<|kv.1≠k
theorem qA{p:κ×V}{r:List<|κ×V}{k:κ}(e:p.1=k):fO (p::r) k=some p.2:=by simp[fO,yb,e]
theorem qB{p:κ×V}{r:List<|κ×V}{k:κ}(e:¬p.1=k):fO (p::r) k=fO r k:=by simp[fO,yb,e]
theorem ox(kvs:List<|κ×V)(k:κ)(v:V):(putK kvs k v).length<=kvs.length+1:=by unfold putK;split;rw[zb];lia;rw[zC,zQ,List.length_nil];lia
theorem fL.ng(r:fL o u):o.isSome=u.isSome:=by cases o with|none=>(cases u with|none=>rfl|some _=>exact(show False from r).elim)|some _=>cases u with|none=>exact(show False from r).elim|some _=>rfl
theorem fL.getD{o:Option V}{u:Option Value}{d:V}{d':Value}(r:fL o u)(rd:RelV d d'):RelV (o.getD d) (u.getD d'):=by cases o with|none=>(cases u with|none=>exact rd|some _=>exact(show False from r).elim)|some _=>cases u with|none=>exact(show False from r).elim|some _=>exact r
theorem KV.val{kvs:List<|κ×V}{vs:List<|κ×Value}(r:KV kvs vs)(k:κ):fL (fO kvs k) (valueAt vs k):=by unfold KV at r;induction r with|nil=>exact True.intro|@cons p q ps qs h t ih=>obtain⟨h1,h2⟩:=h;by_cases e:p.1=k;have e':q.1=k:=h1.symm.trans e;have b:valueAt (q::qs) k=some q.2:=(by simp[valueAt,yb,e']);rw[qA e,b];exact h2;have e':¬q.1=k:=λz=>e<|h1.trans z;have b:valueAt (q::qs) k=valueAt qs k:=(by simp[valueAt,yb,e']);rw[qB e,b];exact ih
theorem KV.any{kvs:List<|κ×V}{vs:List<|κ×Value}(r:KV kvs vs)(k:κ):(kvs.any λkv=>decide<|kv.1=k)=vs.any λkv=>decide (kv.1=k):=by unfold KV at r;induction r with|nil=>rfl|cons h t ih=>rw[yQ,yQ,ih,h.1]
theorem KV.OT(r:KV kvs vs)(k:κ)(ry:RelV y u): KV (kvs.map λkv=>if kv.1=k then (kv.1,y) else kv) (vs.map λkv=>if kv.1=k then (kv.1,u) else kv):=by unfold KV at r⊢;induction r with|nil=>exact .nil|@cons p q ps qs h t ih=>rw[zx,zx];refine .cons ?_ ih;obtain⟨h1,h2⟩:=h;by_cases e:p.1=k;rw[if_pos e,if_pos<|h1.symm.trans e];exact⟨h1,ry⟩;rw[if_neg e,if_neg λz=>e<|h1.trans z];exact⟨h1,h2⟩
theorem KV.put(r:KV kvs vs)(k:κ)(ry:RelV y u):KV (putK kvs k y) (stored vs k u):=by unfold putK stored;rw[r.any k];by_cases e:(vs.any λkv=>decide<|kv.1=k)=true;rw[if_pos e,if_pos e];exact r.OT k ry;rw[if_neg e,if_neg e];exact Paired.snoc r ⟨rfl,ry⟩
theorem KV.drop(r:KV kvs vs)(k:κ):KV (ow kvs k) (without vs k):=by unfold KV at r⊢;unfold ow without;induction r with|nil=>exact .nil|@cons p q ps qs h t ih=>obtain⟨h1,h2⟩:=h;rw[yM,yM];by_cases e:p.1=k;have a:¬decide (p.1≠k)=true:=(by simp[e]);have b:¬decide (q.1≠k)=true:=(by simp[h1.symm.trans e]);rw[if_neg a,if_neg b];exact ih;have e':¬q.1=k:=λz=>e<|h1.trans z;have a:decide (p.1≠k)=true:=(by simp[e]);have b:decide (q.1≠k)=true:=(by simp[e']);rw[if_pos a,if_pos b];exact .cons ⟨h1,h2⟩ ih
theorem KV.length{kvs:List<|κ×V}{vs:List<|κ×Value}(r:KV kvs vs):kvs.length=vs.length:=yL r
theorem GR(kvs:List<|κ×V)(k:κ):(ow kvs k).length<=kvs.length:=List.length_filter_le _ _
end
theorem ku(r:RelV (kV k) u):(aF P w).is k u=true:=by cases k with|inl i=>(obtain⟨t,e⟩:=(show ∃t,u=Value.int i t from r);subst e;exact wX P w i t)|inr x=>obtain⟨t,e⟩:=(show ∃t,u=Value.str x t from r);subst e;exact iU P w x t
theorem uf:∀{ks:List Key}{us:List Value},Vals (ks.map kV) us->ItemsAre (aF P w) ks us|[],_,r=>(by rw[yT]at r;cases r;exact .nil)|k::ks,_,r=>by rw[zx]at r;cases r with|cons h t=>exact .cons (ku h)<|uf t
abbrev KT(H:Hp):List (List Key×V)->List (List Key×Addr×Value)->Prop:=Paired λp q=>p.1=q.1/\H q.2.1=some (.tup<|p.1.map kV)/\RelV p.2 q.2.2
theorem KT.val{H:Hp}{kvs:List<|List Key×V}{xs:List<|List Key×Addr×Value}(r:KT H kvs xs)(k:List Key):fL (fO kvs k) ((atKey xs k).map (·.2)):=by induction r with|nil=>exact True.intro|@cons p q ps qs h t ih=>obtain⟨h1,_,h2⟩:=h;by_cases e:p.1=k;have e':q.1=k:=h1.symm.trans e;have b:atKey (q::qs) k=some q.2:=(by simp[atKey,yb,e']);rw[qA e,b];exact h2;have e':¬q.1=k:=λz=>e<|h1.trans z;have b:atKey (q::qs) k=atKey qs k:=(by simp[atKey,yb,e']);rw[qB e,b];exact ih
section
variable{P:Program}{w:World}{H:Hp}{h:Heap}{a:Addr}
theorem MM(ok:kM P w H h)(e:Rd H a u):bt P w H h a u:=e.ok ok
theorem oy(ok:kM P w H h)(e:Rd H a<|.dK kvs):kvs.length<=sizeLine/\(a==sysModules)=false/\∃vs,KV kvs vs/\h.DictOf (aF P w) a vs:=show bt P w H h a (.dK kvs) from MM ok e
theorem CV(ok:kM P w H h)(e:H a=some (.dK kvs)):kvs.length<=sizeLine/\(a==sysModules)=false/\∃vs,KV kvs vs/\h.DictOf (aF P w) a vs:=oy ok<|.inl e
theorem u4(ok:kM P w H h)(e:H a=some (.tup<|ks.map kV)):(tupleKind<|aF P w).is h ks a:=by obtain⟨_,az,r,o,h1,h2,_,n,h3⟩:=(show bt P w H h a (.tup<|ks.map kV) from ok a _ e);exact{o,az.toArray,n,h1,h2,h3,by simpa using uf r}
theorem ug(ok:kM P w H h)(e:Rd H a<|.dT kvs):kvs.length<=sizeLine/\(a==sysModules)=false/\∃xs,KT H kvs xs/\h.DictOfH (tupleKind<|aF P w) a xs:=by exact False.elim<|show bt P w H h a (.dT kvs) from MM ok e
end
def pz(H:Hp)(a:Addr)(y:V)(r:Option V):Prop:=(∃kvs k,Rd H a (.dK kvs)/\y=kV k/\r=fO kvs k)\/∃kvs k b,Rd H a (.dT kvs)/\y=.ref b/\H b=some (.tup<|k.map kV)/\r=fO kvs k
def GS(H:Hp)(a:Addr)(y v:V)(H':Hp):Prop:=(∃kvs k,H a=some (.dK kvs)/\y=kV k/\kvs.length<sizeLine/\H'=upd H a (.dK<|putK kvs k v))\/∃kvs k b,H a=some (.dT kvs)/\y=.ref b/\H b=some (.tup<|k.map kV)/\kvs.length<sizeLine/\H'=upd H a (.dT<|putK kvs k v)
theorem pz.k{H:Hp}{a:Addr}{kvs:List<|Key×V}{k:Key}(e:H a=some (.dK kvs)):pz H a (kV k) (fO kvs k):=.inl {kvs,k,.inl e,rfl,rfl}
theorem GS.k{H:Hp}{a:Addr}{kvs:List<|Key×V}{k:Key}{v:V}(e:H a=some (.dK kvs))(hl:kvs.length<sizeLine):GS H a (kV k) v (upd H a<|.dK<|putK kvs k v):=.inl ⟨kvs,k,e,rfl,hl,rfl⟩
section
variable{X:Cx}{pins:List (Addr×Obj)}{σ:St}{H:Hp}{s:Shared}{a:Addr}{y v:V}{u r:Value}{o:Option V}{A:Around}{E:Value->Shared->Prop}
theorem Inv.big(I:Inv X pins σ H s):sysModules<s.heap.objs.size:=by have h:mainGlobals<s.heap.objs.size:=(I.mod.glob.keeps I.bk).lt;exact Nat.lt_trans (by decide) h
theorem Ex(hu:A.units+1<cLine)(I:Inv X pins σ H s)(g:pz H a y<|some v)(ry:RelV y u)(h:∀w' s',Inv X pins σ H s'->RelV v w'->Q w' s'): wpAny (model X.prog X.w) A (getItem (.ref a) u) Q E s:=by rcases g with⟨kvs,k,e,ey,l⟩|⟨kvs,k,b,e,ey,eb,l⟩;subst ey;obtain⟨z,hd,vs,rel,dd⟩:=oy I.aJ e;obtain⟨w',hw,m7⟩:=fL.some_of (v:=v) (o:=valueAt vs k) (by rw[l];exact rel.val k);exact wpAny_getItem_of (ku ry) dd.mapOf hw<|h w' _ (I.tok _) m7;subst ey;cases (show u=Value.ref b from ry);obtain⟨z,hd,xs,rel,dd⟩:=ug I.aJ e;obtain⟨w',hw,m7⟩:=fL.some_of (v:=v) (o:=(atKey xs k).map (·.2)) (by rw[l];exact rel.val k);obtain⟨p,hp,eV⟩:=Option.map_eq_some_iff.mp hw;refine wpAny_getItem_heap (tupleKind_room_in1 hu) (u4 I.aJ eb) dd hp ?_;rw[eV];exact h w' _ (I.tok _) m7
theorem Xp(hu:A.units+1<cLine)(I:Inv X pins σ H s)(g:pz H a y o)(ry:RelV y u)(h:∀s',Inv X pins σ H s'->Q (.bool o.isSome) s'): wpAny (model X.prog X.w) A (compareOp .In u<|.ref a) Q E s:=by rcases g with⟨kvs,k,e,ey,l⟩|⟨kvs,k,b,e,ey,eb,l⟩;subst ey;obtain⟨z,hd,vs,rel,dd⟩:=oy I.aJ e;refine wpAny_in_of (ku ry) hd dd.mapOf ?_;rw[<-(rel.val k).ng,<-l];exact h _<|I.tok _;subst ey;cases (show u=Value.ref b from ry);obtain⟨z,hd,xs,rel,dd⟩:=ug I.aJ e;refine wpAny_in_heap (tupleKind_room_in1 hu) (u4 I.aJ eb) hd dd ?_;have q:=(rel.val k).ng;rw[Option.isSome_map]at q;rw[<-q,<-l];exact h _<|I.tok _
theorem u5(I:Inv X pins σ H s)(mu:RJ<|H a)(hs:Heap.SameBut a s.heap h')(he:∃q,h'.get? a=some q)(new:bt X.prog X.w (upd H a ob) h' a ob): Inv X pins σ (upd H a ob) {s with heap:=h',toks:=t'}:=I.write (x:=a) (e:=a) mu (.inl rfl) (λb q hb z=>(hs.2 b hb).trans z) he new
theorem A8(z:kvs.length<=sizeLine)(hd:(a==sysModules)=false)(rel:KV kvs vs)(dd:h'.DictOf (aF P w) a vs): bt P w H' h' a (.dK kvs):=⟨z,hd,vs,rel,dd⟩
theorem Ey(hu:A.units+1<cLine)(I:Inv X pins σ H s)(g:GS H a y v H')(ry:RelV y u)(rv:RelV v r)(h:∀s',Inv X pins σ H' s'->Q () s'): wpAny (model X.prog X.w) A (setItem (.ref a) u r) Q E s:=by
 rcases g with⟨kvs,k,e,ey,l,eH⟩|⟨kvs,k,b,e,ey,eb,l,eH⟩;subst ey eH;obtain⟨z,hd,vs,rel,dd⟩:=CV I.aJ e;have hz:vs.length<=sizeLine:=by rw[<-rel.length];exact z
 have hl:(putK kvs k v).length<=sizeLine:=by have:=ox kvs k v;lia
 refine wpAny_setItem_pairs (hsz:=hz) (ku ry) dd λh' MN hs=>h _ ?_;have he:∃q,h'.get? a=some q:=by obtain⟨q,_,_,hq,_⟩:=MN;exact⟨q,hq⟩
 exact u5 I (by rw[e];exact True.intro) hs he<|A8 hl hd (rel.put k rv) MN;exact False.elim<|I.aJ _ _ e
end
section
variable{X:Cx}{pins:List (Addr×Obj)}{σ:St}{H:Hp}{s:Shared}{a:Addr}{kvs:List (Key×V)}{k:Key}{u:Value}{A:Around}{E:Value->Shared->Prop}
theorem Sv(I:Inv X pins σ H s)(e:H a=some (.dK kvs))(ry:RelV (kV k) u)(l:fO kvs k=some v)(hm:more=[]\/∃x,more=[x]) (h:∀w' s',Inv X pins σ (upd H a<|.dK<|ow kvs k) s'->RelV v w'->Q w' s'):wpAny (model X.prog X.w) A (call (.builtin "dict.pop")<|.ref a::u::more) Q E s:=by
 obtain⟨z,hd,vs,rel,dd⟩:=CV I.aJ e;obtain⟨w',hw,m7⟩:=fL.some_of (v:=v) (o:=valueAt vs k) (by rw[<-l];exact rel.val k);have hp:(keyPart u).isSome=true:=by cases k with|inl i=>(obtain⟨t,q⟩:=(show ∃t,u=Value.int i t from ry);subst q;rfl)|inr x=>obtain⟨t,q⟩:=(show ∃t,u=Value.str x t from ry);subst q;rfl
 have ha:argsOk "dict.pop" {.ref a::u::more,[]}:=by rcases hm with q|⟨x,q⟩;subst q;exact PySem.F.args_dict_pop_2 _ _;subst q;exact PySem.F.args_dict_pop_3 _ _ _
 refine call_meetsIn PySem.F.slot_dict_pop dd.typeIs PySem.F.entry_dict_pop ha (meets_dict_pop_there (aF X.prog X.w) a (ku ry) more hm hp) {vs,w',dd,by rw[<-rel.length];exact z,hw,λh' MN hs=>h w' _ ?_ m7};have he:∃q,h'.get? a=some q:=by obtain⟨q,_,_,hq,_⟩:=MN;exact⟨q,hq⟩
 exact u5 I (by rw[e];exact True.intro) hs he<|A8 (zH (GR kvs k) z) hd (rel.drop k) MN
theorem Sw(I:Inv X pins σ H s)(e:Rd H a<|.dK kvs)(h:∀t s',Inv X pins σ H s'->Q (.int kvs.length t) s'):wpAny (model X.prog X.w) A (call (.builtin "len") [.ref a]) Q E s:=by obtain⟨z,hd,vs,rel,dd⟩:=oy I.aJ e;refine call_len_dict hd dd (by rw[<-rel.length];rw[yg]at z;lia) ?_;rw[<-rel.length];exact h _ _<|I.tok _
end
theorem xc(I:Inv X pins σ H s)(g:pz H a y o):s.TypeIs (.ref a) "dict":=by rcases g with⟨kvs,k,e,_,_⟩|⟨kvs,k,b,e,_,_,_⟩;obtain⟨_,_,vs,_,dd⟩:=oy I.aJ e;exact dd.typeIs;obtain⟨_,_,xs,_,dd⟩:=ug I.aJ e;exact dd.typeIs
def Sy(td ty tv:TE):TS:=λD σ H=>tv σ H λv H1=>td σ H1 λx H2=>ty σ H2 λy H3=>∃a H4,x=.ref a/\GS H3 a y v H4/\D.nx σ H4
section
variable{X:Cx}{o i value:Expr}{pos pos':Pos}{td ty tv:TE}
theorem Ko(hu:X.A.units+1<cLine)(ho:PE X o td)(hi:PE X i ty)(hv:PE X value tv)(hs:swapsWith value (some<|.Subscript o i pos') pos.line X.env=pure false): PS X (.Assign [.Subscript o i pos'] value pos) (Sy td ty tv):=by intro pins s σ H D I h;refine wpAny_Assign_Subscript (bw (hv pins s σ H _ I h) λr s1 ⟨v,H1,I1,rv,q1⟩=>bw (ho pins s1 σ H1 _ I1 q1) λu s2 ⟨x,H2,I2,rx,q2⟩=>bw (hi pins s2 σ H2 _ I2 q2) λiv s3 ⟨y,H3,I3,ry,a,H4,ex,g,q3⟩=>?_) hs;subst ex;obtain rfl:u=Value.ref a:=rx;exact Ey hu I3 g ry rv λs4 I4=>⟨σ,H4,I4,q3⟩
end
theorem GU(h:Heap)(hb:sysModules<h.objs.size):bt P w H (h.push {cls:=.type "dict",data:=.dict #[]}) h.objs.size (.dK []):={zV _,beq_eq_false_iff_ne.mpr<|Ne.symm<|zA hb,[],.nil,Heap.DictOf.new h}
def OU:TE:=λ_ H Q=>∀p,H p=none->Q (.ref p) (upd H p<|.dK [])
section
variable{X:Cx}{pos:Pos}
theorem GV:PE X (.Dict [] [] pos) OU:=λpins s σ H Q I h=>wpAny_Dict_empty {.ref s.heap.objs.size,_,I.laid (a:=s.heap.objs.size) (o:=.dK []) (t':=s.toks) (λ_ _ q=>za _ q) (zr _)<|GU s.heap I.big,rfl,h _<|I.aJ.fresh<|zr _}
end
structure M1(X:Cx)(o:Expr)(m:Str)(apos:Pos)(e:Expr)(aL:Pos):Prop where
 base:attributeBase o m X.env (eval o X.env)=eval o X.env
 F8:((backTo aL<|starEach [e] X.env).all (λx=>!x.1)&&(backToKw aL<|keywordEach [] X.env).all (λx=>x.1.isSome)
  && decide (([e]:List Expr).length+([]:List Keyword).length+(if ([]:List Keyword).isEmpty then 0 else 1)<30))=true
 line:(apos.endLine==aL.line)=true
 trees:backTo aL (starEach [e] X.env)=[(false,eval e X.env)]
structure M2(X:Cx)(o:Expr)(m:Str)(apos:Pos)(e f:Expr)(aL:Pos):Prop where
 base:attributeBase o m X.env (eval o X.env)=eval o X.env
 F8:((backTo aL<|starEach [e,f] X.env).all (λx=>!x.1)&&(backToKw aL<|keywordEach [] X.env).all (λx=>x.1.isSome)
  && decide (([e,f]:List Expr).length+([]:List Keyword).length+(if ([]:List Keyword).isEmpty then 0 else 1)<30))=true
 line:(apos.endLine==aL.line)=true
 trees:backTo aL (starEach [e,f] X.env)=[(false,eval e X.env),(false,eval f X.env)]
def Q3(H:Hp)(a:Addr):Prop:=(∃kvs,Rd H a<|.dK kvs)\/∃kvs,Rd H a<|.dT kvs
theorem u6(I:Inv X pins σ H s)(d:Q3 H a): s.TypeIs (.ref a) "dict"/\(∀b,Value.ref a=.ref b->∃ob,s.heap.get? b=some ob/\ob.dict=none)/\(a==sysModules)=false:=by rcases d with⟨kvs,e⟩|⟨kvs,e⟩;obtain⟨_,hd,vs,_,dd⟩:=oy I.aJ e;refine{dd.typeIs,λb q=>?_,hd};cases q;obtain⟨ob,_,_,h1,h2,_⟩:=dd;exact⟨ob,h1,h2.2.1⟩;obtain⟨_,hd,xs,_,dd⟩:=ug I.aJ e;refine{dd.typeIs,λb q=>?_,hd};cases q;obtain⟨ob,_,_,h1,h2,_⟩:=dd;exact⟨ob,h1,h2.2.1⟩
section
variable{X:Cx}{pins:List (Addr×Obj)}{σ:St}{H:Hp}{s:Shared}{a:Addr}{y d:V}{u r:Value}{o:Option V}{A:Around}{E:Value->Shared->Prop}
theorem OV(hu:A.units+1<cLine)(I:Inv X pins σ H s)(g:pz H a y o)(ry:RelV y u)(h:∀w' s',Inv X pins σ H s'->RelV (o.getD .av) w'->Q w' s'): wpAny (model X.prog X.w) A (call (.builtin "dict.get") [.ref a,u]) Q E s:=by rcases g with⟨kvs,k,e,ey,l⟩|⟨kvs,k,b,e,ey,eb,l⟩;subst ey;obtain⟨z,hd,vs,rel,dd⟩:=oy I.aJ e;refine call_meetsIn yz dd.typeIs PySem.F.entry_dict_get (PySem.F.args_dict_get_2 _ _) (meets_dict_get (aF X.prog X.w) a (ku ry) hd) {_,dd.mapOf,h _ _ (I.tok _) ?_};rw[l];exact(rel.val k).getD rfl;subst ey;cases (show u=Value.ref b from ry);obtain⟨z,hd,xs,rel,dd⟩:=ug I.aJ e;refine call_meetsIn yz dd.typeIs PySem.F.entry_dict_get (PySem.F.args_dict_get_2 _ _) (meetsH_dict_get (tupleKind<|aF X.prog X.w) a b hd) {tupleKind_room_in1 hu,k,xs,u4 I.aJ eb,dd,h _ _ (I.tok _) ?_};rw[l];exact(rel.val k).getD rfl
theorem OW(hu:A.units+1<cLine)(I:Inv X pins σ H s)(g:pz H a y o)(ry:RelV y u)(rd:RelV d r)(h:∀w' s',Inv X pins σ H s'->RelV (o.getD d) w'->Q w' s'): wpAny (model X.prog X.w) A (call (.builtin "dict.get") [.ref a,u,r]) Q E s:=by rcases g with⟨kvs,k,e,ey,l⟩|⟨kvs,k,b,e,ey,eb,l⟩;subst ey;obtain⟨z,hd,vs,rel,dd⟩:=oy I.aJ e;refine call_meetsIn yz dd.typeIs PySem.F.entry_dict_get (PySem.F.args_dict_get_3 _ _ _) (meets_dict_get_default (aF X.prog X.w) a (ku ry) hd r) {_,dd.mapOf,h _ _ (I.tok _) ?_};rw[l];exact(rel.val k).getD rd;subst ey;cases (show u=Value.ref b from ry);obtain⟨z,hd,xs,rel,dd⟩:=ug I.aJ e;refine call_meetsIn yz dd.typeIs PySem.F.entry_dict_get (PySem.F.args_dict_get_3 _ _ _) (meetsH_dict_get_default (tupleKind<|aF X.prog X.w) a b hd r) {tupleKind_room_in1 hu,k,xs,u4 I.aJ eb,dd,h _ _ (I.tok _) ?_};rw[l];exact(rel.val k).getD rd
end
def OX(td ty:TE):TE:=λσ H Q=>td σ H λx H1=>∃a,x=.ref a/\Q3 H1 a/\ty σ H1 λy H2=>∃o,pz H2 a y o/\Q (o.getD .av) H2
def OY(td ty tx:TE):TE:=λσ H Q=>td σ H λx H1=>∃a,x=.ref a/\Q3 H1 a/\ty σ H1 λy H2=>tx σ H2 λz H3=>∃o,pz H3 a y o/\Q (o.getD z) H3
def OZ(td ty:TE):TE:=λσ H Q=>td σ H λx H1=>∃a,x=.ref a/\Q3 H1 a/\ty σ H1 λy H2=>∃kvs k v,H2 a=some (.dK kvs)/\y=kV k/\fO kvs k=some v/\Q v (upd H2 a<|.dK<|ow kvs k)
section
variable{X:Cx}{o e f:Expr}{apos aL:Pos}{td ty tx:TE}
theorem GW(hu:X.A.units+1<cLine)(ho:PE X o td)(he:PE X e ty)(m:M1 X o "get" apos e aL):PE X (.Call (.Attribute o "get" apos) [e] [] aL) (OX td ty):=by intro pins s σ H Q I h;refine wpAny_Call_method m.base m.F8 m.line PySem.F.plainAttrs_dict yz PySem.F.type_dict_get<|bw (ho pins s σ H _ I h) λu s1 ⟨x,H1,I1,rx,a,ex,d,q1⟩=>?_;subst ex;obtain rfl:u=Value.ref a:=rx;obtain⟨t1,t2,_⟩:=u6 I1 d;refine{t1,t2,?_};rw[m.trees];refine Calls.callWith_builtin rfl<|Calls.evalArgs_plain<|yE<|bw (he pins s1 σ H1 _ I1 q1) λiv s2 ⟨y,H2,I2,ry,ov,g,q2⟩=>Calls.spliced_nil ?_;exact OV hu I2 g ry λw' s3 I3 m7=>{_,H2,I3,m7,q2}
theorem GX(hu:X.A.units+1<cLine)(ho:PE X o td)(he:PE X e ty)(hf:PE X f tx)(m:M2 X o "get" apos e f aL):PE X (.Call (.Attribute o "get" apos) [e,f] [] aL) (OY td ty tx):=by intro pins s σ H Q I h;refine wpAny_Call_method m.base m.F8 m.line PySem.F.plainAttrs_dict yz PySem.F.type_dict_get<|bw (ho pins s σ H _ I h) λu s1 ⟨x,H1,I1,rx,a,ex,d,q1⟩=>?_;subst ex;obtain rfl:u=Value.ref a:=rx;obtain⟨t1,t2,_⟩:=u6 I1 d;refine{t1,t2,?_};rw[m.trees];refine Calls.callWith_builtin rfl<|Calls.evalArgs_plain<|yE<|bw (he pins s1 σ H1 _ I1 q1) λiv s2 ⟨y,H2,I2,ry,q2⟩=>yE<|bw (hf pins s2 σ H2 _ I2 q2) λfv s3 ⟨z,H3,I3,rz,ov,g,q3⟩=>Calls.spliced_nil ?_;exact OW hu I3 g ry rz λw' s4 I4 m7=>{_,H3,I4,m7,q3}
theorem GY(ho:PE X o td)(he:PE X e ty)(m:M1 X o "pop" apos e aL):PE X (.Call (.Attribute o "pop" apos) [e] [] aL) (OZ td ty):=by intro pins s σ H Q I h;refine wpAny_Call_method m.base m.F8 m.line PySem.F.plainAttrs_dict PySem.F.slot_dict_pop PySem.F.type_dict_pop<|bw (ho pins s σ H _ I h) λu s1 ⟨x,H1,I1,rx,a,ex,d,q1⟩=>?_;subst ex;obtain rfl:u=Value.ref a:=rx;obtain⟨t1,t2,_⟩:=u6 I1 d;refine{t1,t2,?_};rw[m.trees];refine Calls.callWith_builtin rfl<|Calls.evalArgs_plain<|yE<|bw (he pins s1 σ H1 _ I1 q1) λiv s2 ⟨y,H2,I2,ry,kvs,k,v,ea,ey,l,q2⟩=>Calls.spliced_nil ?_;subst ey;exact Sv I2 ea ry l (.inl rfl) λw' s3 I3 m7=>{v,_,I3,m7,q2}
end
end L2
namespace Att
open PySem PySem.W PySem.Calls PyProof.Rows
theorem pA{P:Params} : ∀(ns:List Int)(vs:List Value),WellAll P h vs (ns.map WData.int)->IntsAre vs ns:=by intro ns;induction ns with|nil=>(intro vs w;rw[yT]at w;cases w;exact .nil)|cons n ns ih=>intro vs w;rw[zx]at w;cases w with|cons a b=>cases a;exact .cons _ _<|ih _ b
theorem Ez{l:OpenLaw}{n:Nat}(hn:l.most=some n){P:Params}{h:Heap}{args:List WData}{vals:List Value} (Kq:l.row.toRowW.claim.pre args=true) (Xq:WellAll P h vals args): ∃a vs ns,vals=[Value.ref a]/\args=[WData.list<|ns.map WData.int]/\h.get? a=some {cls:=.type "list",data:=.seq vs.toArray}/\IntsAre vs ns/\ns.length<=n:=by
 have hsh:WShape.hasAll [] args [.list .int]=true:=(pre_splitW Kq).1;have hc:l.pre.holds [] {args:=args}=true:=(pre_splitW Kq).2;obtain⟨d,r,rfl,h1,h2⟩:=hasAllW_cons hsh;obtain rfl:=hasAllW_nil h2;obtain⟨xs,rfl,h3⟩:=hasW_list h1;obtain⟨ns,rfl⟩:=items_int h3;have hlen:ns.length<=n:=by unfold OpenLaw.pre at hc;have h4:(WTm.not<|.lt (.lit<|.int (n:Int))<|.len<|.arg 0).holds [] {args:=[.list<|ns.map .int]}=true:=(by have h4:=(holds_andW hc).1;rw[hn]at h4;exact h4);have h5:=condW_of h4<|w_not<|w_lt w_lit<|w_len_list<|w_arg rfl;rw[zb]at h5;refine Nat.le_of_not_lt λq=>?_;have q':(n:Int)<((ns.length:Nat):Int):=(by lia);first| (rw[zw q']at h5;exact absurd h5<|by decide)| (simp at h5;lia)
 cases Xq with|cons w1 w2=>cases w2;cases w1 with|list ho Xr=>exact{_,_,ns,rfl,rfl,ho,pA ns _ Xr,hlen}
theorem EA(l:OpenLaw)(args:List WData):l.row.toRowW.claim.post args (.bool true) args=true:=postW_of (r:=l.row.toRowW) (X:=(true==true)) (show WShape.has [] (.bool true) .bool=true by first|rfl|decide|simp[WShape.has,WShape.arms,WShape.armsAll]) (show(WTm.eq .res<|.lit<|.bool true).value [] {args:=args,res:=some<|.bool true,after:=args}=some (.bool<|true==true) from w_eq_bool (w_res rfl) w_lit) rfl
theorem xf{l:OpenLaw}{n:Nat}{q:Program}{loose:List Str}{XP:(Str->Option Value)->Heap->Prop}{YP:World->Heap->Prop}{d:DefRec} (hn:l.most=some n) (Xs:d.params.defaults=[]) (call:∀(w:World)(dm a_:Shared)(mg mb:Str->Option Value)(fa:Addr)(o:Obj)(pm cd doc:Value)(a:Addr)(vs:List Value)(ns:List Int),Ground q loose [] XP w dm mg mb a_.heap->YP w a_.heap->a_.heap.get? fa=some o->o.data=.func (docDef d.name d.params d.body d.scope pm cd doc)->a_.heap.CodeRec cd d.name->mg d.name=some (.ref fa)->a_.heap.get? a=some {cls:=.type "list",data:=.seq vs.toArray}->IntsAre vs ns->ns.length<=n->a_.gens=#[]->codeAny (model l.prog w) callerA (.call (.ref fa) {[.ref a],[]}) (λr s'=>r=.ok (.ret<|.bool true)/\OldK a_.heap s'.heap/\s'.os=a_.os/\AllBare s'.gens) a_): WalkO q loose XP YP l.row.toRowW d [] (λf vs=>PySem.call f vs):=by intro w dm a_ mg mb G Y fa o pm cd doc dV kV ho hd oo hD O0 hg args vals as Kq abB hrd Xq hlo;obtain rfl:dV=.none:=Dflts.none hD Xs;obtain rfl:kV=.none:=Dflts.noKw hD;obtain⟨a,vs,ns,rfl,rfl,O3,hints,hlen⟩:=Ez hn Kq Xq;refine enter_call<|yU (call w dm a_ mg mb fa o pm cd doc a vs ns G Y ho (fd_plain hd) oo O0 O3 hints hlen hg) λr s' hq=>?_;obtain⟨rfl,h2,h3,h4⟩:=hq;exact{.inl {.bool true,.bool true,[],rfl,λ_=>rfl,.bool true,EA l _,λ_=>{List.Pairwise.nil,λ_ hm=>(nomatch hm)}},h2,h3,h4}
end Att
namespace L2
open PySem PySem.Spec PyProof.Rows
theorem uh:∀{vs:List Value}{ns:List Int},IntsAre vs ns->Vals (ns.map V.int) vs|_,_,.nil=>.nil|_,_,.cons n t h=>.cons ⟨t,rfl⟩<|uh h
def inClass(s:Stmt)(j:Nat):Stmt:=match s with|.ClassDef _ _ _ body _ _ _ _ _ _ _=>body.getD j (.Pass {0,0,0,0})|_=>.Pass {0,0,0,0}
def bp(s:Stmt):Arguments:=match s with|.FunctionDef _ a _ _ _ _ _ _ _ _=>a|_=>{posonlyargs:=[],args:=[],vararg:=none,kwonlyargs:=[],kw_defaults:=[],kwarg:=none,defaults:=[]}
def ba(s:Stmt):List Stmt:=match s with|.FunctionDef _ _ b _ _ _ _ _ _ _=>b|_=>[]
def ae(s:Stmt):Scope:=match s with|.FunctionDef _ _ _ _ _ _ sc _ _ _=>sc|_=>{kind:=.function,names:=[],isGenerator:=false,isCoroutine:=false}
abbrev VO:A1:=λ_ _ _ _ _ _=>False
abbrev E0:XK:=λ_ _ _=>False
structure Fun(K:Frag)(x qual:Str)(st:Stmt)(f:Addr)(fd:FuncData):Prop where
 ex:∃(oc:Value)(od:Option Addr)(kV doc pm:Value)(an:Option Addr)(fN ct:Value)(OG:Array (Option Value)),
  fd=fnOf x qual (bp st) (ba st) (ae st) .none kV doc pm an fN ct/\K.lookup f=some {oc,od,.func fd,OG}/\codeIn K fN qual=true
 kp:keepIn K (.ref f)=true
theorem jL(h:n<=1000):n<sizeLine:=Nat.lt_of_le_of_lt h<|by decide
section
variable{X:Cx}
theorem EB:ee X (.builtin "len") (λxs H Q=>∃a kvs,xs=[V.ref a]/\H a=some (.dK kvs)/\Q (.int kvs.length) H):=by intro pins s σ H xs us Q I r h;obtain⟨a,kvs,rfl,ha,q⟩:=h;obtain⟨u,rfl,ru⟩:=vals1 r;cases ru;exact Sw I (.inl ha) λt s' I'=>{.int kvs.length,H,I',⟨t,rfl⟩,q}
end
theorem aZ{A B:Prop}(h:B):if false=true then A else B:=by rw[if_neg zd];exact h
theorem eC{A B:Prop}(h:A):if true=true then A else B:=by rw[if_pos rfl];exact h
section
variable{κ:Type}[DecidableEq κ]
theorem lQ:∀{l:List κ}{k:κ},l.Nodup->¬k∈l->(l++[k]).Nodup|[],k,_,_=>by simp|a::r,k,h,hk=>by obtain⟨h1,h2⟩:=yj.mp h;show(a::(r++[k])).Nodup;refine yj.mpr {λm=>?_,lQ h2 λm=>hk<|zj.mpr<|Or.inr m};rcases zP.mp m with q|q;exact h1 q;exact hk<|zj.mpr<|Or.inl (zI.mp q).symm
end
end L2
set_option maxHeartbeats 4000000
namespace L2
open PySem PySem.Spec PyProof.Rows
section
variable{X:Cx}
noncomputable def F9(i j:Str):Bool:=!decide (j.cps.toList<i.cps.toList)
noncomputable def nh(i j:Str):Bool:=decide<|i.cps.toList<j.cps.toList
def Xt(g:Str->Str->Bool):R2:=λx y H Q=>∃i j,x=.str i/\y=.str j/\Q (.bl<|g i j) H
theorem EC:gW X (compareOp .LtE) (Xt F9):=by intro pins s σ H x y v u Q I rx ry h;obtain⟨i,j,rfl,rfl,q⟩:=h;obtain⟨t,rfl⟩:=rx;obtain⟨t',rfl⟩:=ry;exact P.le_str<|aG I q rfl
theorem ED:gW X (compareOp .GtE) (Xt λi j=>F9 j i):=by intro pins s σ H x y v u Q I rx ry h;obtain⟨i,j,rfl,rfl,q⟩:=h;obtain⟨t,rfl⟩:=rx;obtain⟨t',rfl⟩:=ry;exact P.ge_str<|aG I q rfl
theorem EF:gW X (compareOp .Gt) (Xt λi j=>nh j i):=by intro pins s σ H x y v u Q I rx ry h;obtain⟨i,j,rfl,rfl,q⟩:=h;obtain⟨t,rfl⟩:=rx;obtain⟨t',rfl⟩:=ry;exact P.gt_str<|aG I q rfl
def MO(_ j:Int):Prop:=0<j/\j.natAbs.log2<9000
theorem GZ:gW X (binaryOp .FloorDiv) (rI MO λi j=>.int<|i/j):=VL λi j _ _ _ _ _ hc q=>by
 have hj:j≠0:=by have:=hc.1;omega
 exact floordiv_int hj (by rw[Int.fdiv_eq_ediv_of_nonneg _<|by have:=hc.1;omega];exact q)<|.inl<|PyProof.noPylong_of_log2 hc.2
end
noncomputable def Xu(x:Str):It:={λi _=>i<x.cps.size,λi H v H'=>H'=H/\∃c,x.cps[i]?=some c/\v=.str ⟨#[c]⟩,λi _=>x.cps.size<=i}
theorem xg{P:Program}{w:World}{K:Frag}{tg:Expr}{T:String}(hT:["enumerate","zip","dict_itemiterator","dict_reverseitemiterator","odict_iterator","itertools.zip_longest","itertools.pairwise"].contains T=false)(it:Addr)(x:Str)(t:Tok)
  (W:∀A':Around,A'.handled=none->Walks P w A' it [it] [it] x.cps.size (SignAt x) (λi h=>h.IsStrIter it T x t i))
  (Xv:∀(A:Around)(s:Shared)(E:Value->Shared->Prop)(i:Nat)(Q:Option Value->Shared->Prop),A.handled=none->s.heap.IsStrIter it T x t i->x.cps[i]?=none->(∀h',Heap.ExtBut it s.heap h'->Q none {s with heap:=h'})->wpAny (model P w) A (pyNext<|.ref it) Q E s)
  (Sz:∀(A:Around)(s:Shared)(E:Value->Shared->Prop)(i:Nat)(Q:Value->Shared->Prop),s.heap.IsStrIter it T x t i->Q (.ref it) s->wpAny (model P w) A (pyIter<|.ref it) Q E s):
  Turn P w K tg (Xu x) [it] it (λi h=>h.IsStrIter it T x t i) where
 mem:=by simp
 obj:=λi h st b hb=>by
  have e:b=it:=by simpa using hb
  subst e
  obtain⟨o,e,c,d⟩:=st
  exact{o,e,λv z=>by rw[d]at z;cases z}
 keep:=λi h h' st k=>by
  obtain⟨o,e,c,d⟩:=st
  exact{o,k it (by simp) o e,c,d}
 item:=by
  intro X hP hw hK hc i pins s σ H E I hf st hg
  subst hP hw hK
  obtain⟨f0,f1,f2,f3,f4,f5⟩:=hf it<|by simp
  refine(W X.A<|I.ok.hd hc).item i s _ _ hg st λv h' tk hv eK kk=>?_
  obtain⟨c,u,Kr,rfl⟩:=hv
  have I1:Inv X pins σ H {s with heap:=h',toks:=tk}:=I.turned (λb o hb e=>kk b o (by simpa using hb) e) f0 f1 f3 f4 f5
  obtain⟨o,e,c',d⟩:=id eK
  exact{_,rfl,t6 (s:={s with heap:=h',toks:=tk}) e c' d hT {.str ⟨#[c]⟩,H,I1,⟨u,rfl⟩,⟨rfl,c,Kr,rfl⟩,eK,λb hb=>(hf b hb).1}}
 done:=by
  intro X hP hw hK hc i pins s σ H E I hf st hg
  subst hP hw hK
  obtain⟨f0,f1,f2,f3,f4,f5⟩:=hf it<|by simp
  have hg:x.cps.size<=i:=hg
  exact Xv X.A s E i _ (I.ok.hd hc) st (by simp;exact hg) λh' eb=>{rfl,I.turned (t':=s.toks) (λb o hb e=>eb b o hb e) f0 f1 f3 f4 f5}
 self:=λA' i s Q E st h=>Sz A' s E i Q st h
section
variable{X:Cx}{tg:Expr}
def Xw(tl:TE):TI:=λσ H R=>tl σ H λx H1=>∃z,x=.str z/\R (Xu z) H1
theorem O4(hl:PE X l tl):PI X tg l (Xw tl):=by
 intro pins s σ H R I h;refine bw (hl pins s σ H _ I h) λv s1 ⟨x,H1,I1,r1,q1⟩=>?_;obtain⟨z,e,q⟩:=q1;subst e;obtain⟨t,rfl⟩:=r1;have fin:∀(T:String)(_:Turn X.prog X.w X.K tg (Xu z) [s1.heap.objs.size] s1.heap.objs.size (λi h=>h.IsStrIter s1.heap.objs.size T z t i)),W0 X pins σ tg R (.ref s1.heap.objs.size) {s1 with heap:=s1.heap.push {cls:=.type T,data:=.fields #[.str z t,.int 0 0]}}:=λT tn=>by refine{s1.heap.objs.size,[s1.heap.objs.size],_,_,H1,rfl,I1.kept (t':=s1.toks) λb o e=>za _ e,tn,{_,zk _ rfl,rfl,rfl},λb hb=>?_,q};have e:b=s1.heap.objs.size:=(by simpa using hb);subst e;exact I1.pj (zr _)<|I1.aJ.fresh<|zr _
 cases ha:z.cps.all (·<128);exact wpAny_pyIter_wide ha<|fin _<|xg (by decide) _ z t (λA' hA=>Walks.strWide hA _ z t) (λA s E i Q hh st hx hQ=>wpAny_pyNext_wide_end hh st hx hQ) λA s E i Q st hq=>wpAny_pyIter_striter_wide st hq;exact wpAny_pyIter_ascii ha<|fin _<|xg (by decide) _ z t (λA' hA=>Walks.strAscii hA _ z t) (λA s E i Q hh st hx hQ=>wpAny_pyNext_ascii_end hh st hx hQ) λA s E i Q st hq=>wpAny_pyIter_striter_ascii st hq
end
noncomputable def clOf(cells:List<|Str×Addr)(names:List<|Str×NameKind):List (Str×Addr):=names.foldl (λcs p=>if p.2==.free then match cells.lookup p.1 with|some a=>(p.1,a)::cs|none=>cs else cs) []
theorem qC(cells:List<|Str×Addr):∀(names:List (Str×NameKind))(cs:List (Str×Addr)),(∀x c,cs.lookup x=some c->cells.lookup x=some c)->∀x c,(names.foldl (λcs p=>if p.2==.free then match cells.lookup p.1 with|some a=>(p.1,a)::cs|none=>cs else cs) cs).lookup x=some c->cells.lookup x=some c|[],cs,h=>h| (n,k)::r,cs,h=>by rw[yJ];refine qC cells r _ λx c e=>?_;dsimp only at e;split at e;split at e;rename_i a ha;rw[yf]at e;split at e;rename_i hx;have:=LawfulBEq.eq_of_beq hx;cases e;rw[this];exact ha;exact h x c e;exact h x c e;exact h x c e
theorem uk(cells:List<|Str×Addr):∀(names:List (Str×NameKind))(cs:List (Str×Addr))(x:Str)(c:Addr),(∀y c,cs.lookup y=some c->cells.lookup y=some c)->cs.lookup x=some c->(names.foldl (λcs p=>if p.2==.free then match cells.lookup p.1 with|some a=>(p.1,a)::cs|none=>cs else cs) cs).lookup x=some c
 |[],cs,x,c,_,h=>h
 | (n,k)::r,cs,x,c,hs,h=>by
  rw[yJ];have VP:∀y c,(if (k==NameKind.free)=true then match cells.lookup n with|some a=>(n,a)::cs|none=>cs else cs).lookup y=some c->cells.lookup y=some c:=by intro y c e;split at e;split at e;rename_i a ha;rw[yf]at e;split at e;rename_i hx;have:=LawfulBEq.eq_of_beq hx;cases e;rw[this];exact ha;exact hs y c e;exact hs y c e;exact hs y c e
  refine uk cells r _ x c VP ?_;dsimp only;split;split;rename_i a ha;rw[yf];split;rename_i hx;have:=LawfulBEq.eq_of_beq hx;rw[this]at h;have:=hs _ _ h;rw[ha]at this;exact this;exact h;exact h;exact h
theorem i4(cells:List<|Str×Addr):∀(names:List (Str×NameKind))(cs:List (Str×Addr))(x:Str)(c:Addr),(∀y c,cs.lookup y=some c->cells.lookup y=some c)->(x,NameKind.free)∈names->cells.lookup x=some c->(names.foldl (λcs p=>if p.2==.free then match cells.lookup p.1 with|some a=>(p.1,a)::cs|none=>cs else cs) cs).lookup x=some c
 |[],cs,x,c,_,h,_=>nomatch h
 | (n,k)::r,cs,x,c,hs,h,hc=>by
  rw[yJ];have VP:∀y c,(if (k==NameKind.free)=true then match cells.lookup n with|some a=>(n,a)::cs|none=>cs else cs).lookup y=some c->cells.lookup y=some c:=by intro y c e;split at e;split at e;rename_i a ha;rw[yf]at e;split at e;rename_i hx;have:=LawfulBEq.eq_of_beq hx;cases e;rw[this];exact ha;exact hs y c e;exact hs y c e;exact hs y c e
  rcases zj.mp h with e|h;cases e;refine uk cells r _ _ c VP ?_;dsimp only;rw[if_pos<|show(NameKind.free==NameKind.free)=true by decide,hc];simp[yf];exact i4 cells r _ x c VP h hc
theorem gm{scope:Scope}{env:Env}(h:∀x∈scope.names,x.2=.free->∃c,env.cells.lookup x.1=some c):closureFor scope env=pure (clOf env.cells scope.names):=by
 have go:∀(names:List (Str×NameKind))(cs:List (Str×Addr)),(∀x∈names,x.2=.free->∃c,env.cells.lookup x.1=some c)->(forIn names cs λx r=>match x with|(name,kind)=>if (kind==NameKind.free)=true then do let a <-cellOf env name;pure (ForInStep.yield<|(name,a)::r) else pure (ForInStep.yield r):Sem (List<|Str×Addr))=pure (names.foldl (λcs p=>if p.2==.free then match env.cells.lookup p.1 with|some a=>(p.1,a)::cs|none=>cs else cs) cs):=by intro names;induction names with|nil=>intro cs _;rfl|cons p r ih=>intro cs hp;obtain⟨n,k⟩:=p;rw[List.forIn_cons,yJ];by_cases hk:k=.free;subst hk;obtain⟨c,hc⟩:=hp _ zm rfl;have hc:env.cells.lookup n=some c:=hc;have e1:cellOf env n=pure c:=(by unfold cellOf;rw[hc]);have ef:(NameKind.free==NameKind.free)=true:=(by decide);dsimp only;rw[if_pos ef,if_pos ef,e1,hc];exact ih _ λx hx=>hp x<|zf _ hx;have G0:(k==NameKind.free)=false:=(by simpa using hk);dsimp only;rw[G0,if_neg zd,if_neg zd];exact ih _ λx hx=>hp x<|zf _ hx
 have e:=go scope.names [] h;have e2:closureFor scope env=(forIn scope.names [] (λx r=>match x with|(name,kind)=>if (kind==NameKind.free)=true then do let a <-cellOf env name;pure (ForInStep.yield<|(name,a)::r) else pure (ForInStep.yield r)):Sem (List<|Str×Addr)) >>=λcs=>pure cs:=rfl;rw[e2,e];rfl
theorem i5{env:Env}{names:List<|Str×NameKind}{x:Str} : (names.map λ(n,k)=>if (k==NameKind.free&&env.scope.kind==.function&&env.kindOf n==some .cell) then (n,NameKind.cell) else (n,k)).lookup x=(names.lookup x).map λk=>if (k==NameKind.free&&env.scope.kind==.function&&env.kindOf x==some .cell) then NameKind.cell else k:=by induction names with|nil=>rfl|cons p r ih=>obtain⟨n,k⟩:=p;rw[zx,yf];by_cases hc:(k==NameKind.free&&env.scope.kind==.function&&env.kindOf n==some .cell)=true;dsimp only;rw[if_pos hc,yf];(cases hx:x==n with|true=>have:=LawfulBEq.eq_of_beq hx;subst this;dsimp only[Option.map];rw[if_pos hc]|false=>exact ih);dsimp only;rw[if_neg hc,yf];cases hx:x==n with|true=>have:=LawfulBEq.eq_of_beq hx;subst this;dsimp only[Option.map];rw[if_neg hc]|false=>exact ih
noncomputable def iz(X:Cx)(N:List Str)(scope:Scope)(C:Addr)(s:Shared)(H:Hp)(ex:List Addr)(pn:List<|Addr×Obj):Cx:={X with N:=N,dm:=s,uX:=H,env:=compEnvC scope (clOf X.env.cells scope.names) C X.env,outer:=X.stack,ex:=ex,fn:=λ_=>false,pn:=pn,xe:=λ_ _=>False}
noncomputable def pick(σ:St)(src:List<|Option Nat):St:=src.map λo=>match o with|some j=>(σ[j]?).join|none=>none
structure bI(X:Cx)(N:List Str)(src:List (Option Nat))(scope:Scope):Prop where
 kind:scope.kind=.function
 gp:∀y∈scope.names,y.2≠.cell
 loc:∀y∈scope.names,y.2=.local->scope.names.lookup y.1=some .local
 AF:∀y∈scope.names,y.2=.free->X.env.kindOf y.1=some .cell\/X.env.kindOf y.1=some .free
 len:src.length=N.length
 src:∀(i j:Nat)(x:Str),src[i]?=some (some j)->N[i]?=some x->X.N[j]?=some x/\scope.names.lookup x=some .free/\JV X.env.scope x
def Ext(σ aB:St):Prop:=aB.length=σ.length/\∀(j:Nat) v,σ[j]?=some (some v)->aB[j]?=some (some v)
def A9(g:TG)(src:List<|Option Nat):Prop:=∀x σ H Q,g x (pick σ src) H Q->g x (pick σ src) H λaB H'=>Ext (pick σ src) aB/\Q aB H'
def G1(wi:TI)(src:List<|Option Nat)(g:TG)(tc:TT)(te:TE):TE:=λσ H Q=>wi σ H λJ H1=>∃W:Nat->Nat->List V->Hp->Prop,(∃m,W 0 m [] H1)/\∀i m out H',W i m out H'->(J.stop i H'/\∀D,H' D=none->Q (.ref D) (upd H' D<|.lst out))\/(J.go i H'/\out.length<sizeLine/\∀x H2,J.RZ i H' x H2->g x (pick σ src) H2 λfM H3=>tc fM H3 λb H4=>if b=true then te fM H4 λv H5=>∃m',m'<m/\W (i+1) m' (out++[v]) H5 else ∃m',m'<m/\W (i+1) m' out H4)
section
variable{X:Cx}{N:List Str}{src:List (Option Nat)}{scope:Scope}{tg iter elt:Expr}{ifs:List Expr}{pos:Pos}{wi:TI}{g:TG}{tc:TT}{te:TE}
def Q4(X:Cx)(ifs:List Expr)(t:TT):Prop:=∀(pins:List (Addr×Obj))(s:Shared)(σ:St)(H:Hp)(Q:Bool->Hp->Prop),Inv X pins σ H s->t σ H Q->wpAny (model X.prog X.w) X.A (forIn ifs true λc r=>if r=true then do let ok <-isTrue c X.env (eval c X.env);pure (ForInStep.yield ok) else pure (ForInStep.yield r)) (TP X pins σ Q) X.xe s
def SE:TT:=λ_ H Q=>Q true H
theorem Ks:Q4 X [] SE:=λpins s σ H Q I h=>wpAny_tests_nil ⟨H,I,h⟩
theorem Kt{t:TT}(h:PT X c t):Q4 X [c] t:=λpins s σ H Q I hw=>wpAny_tests_one<|h pins s σ H Q I hw
theorem j5(Q5:∀x s',EE x s'->notedBy (model prog w) A env (λe s'=>R (.error e) s') x s')(I:Nat->Shared->Prop)
  (turn:∀n s,I n s->wpAny (model prog w) A (pyNext it) (λr a_=>match r with
   |none=>R (.ok .next) a_
   |some v=>wpAny (model prog w) A (letOwnedTupleGo target it v) (λ_ MP=>wpAny (model prog w) A (assign target env v) (λ_ bS =>
     wpAny (model prog w) A (forIn ifs true λc r=>if r=true then do let ok <-isTrue c env (eval c env);pure (ForInStep.yield ok) else pure (ForInStep.yield r)) (λok AN =>
      if ok=true then wpAny (model prog w) A (eval elt env) (λx xh =>
       wpAny (model prog w) A (call (.builtin "list.append") [acc,x]) (λ_ SF=>∃m,m<n/\I m SF) EE xh) EE AN
      else ∃m,m<n/\I m AN) EE bS) EE MP) EE a_) EE s)
  (n:Nat) (h:I n s):
  codeAny (model prog w) A (.compLoop (.ListComp elt [{target,iter,ifs,0}] scope pos) 0 it acc env) R s:=by
 refine codeAny_loop rfl I (λn s hI=>?_) n h
 show wpAny _ A ((compTurn (.ListComp elt [{target,iter,ifs,0}] scope pos) 0 it acc env).onRaise λx=>do noteFrame x env;theTreesLotGoes x) _ _ s
 refine wpAny_noted ?_
 rw[compTurn_list]
 refine zc<|wpAny_standAt<|zc<|yI (turn n s hI) (λr a_ h₁=>?_) Q5
 cases r with
 |none=>exact zo h₁
 |some v =>
  refine zc<|yI h₁ (λ_ MP SG=>?_) Q5
  refine zc<|yI SG (λ_ bS Xx=>zc<|yI Xx (λok AN SH=>?_) Q5) Q5
  cases ok with
  |false=>exact zo ⟨rfl,SH⟩
  |true =>
   exact zc<|zc<|yI SH (λx xh Xy=>zc<|yI Xy (λ_ SF Xz=>zo<|zo ⟨rfl,Xz⟩) Q5) Q5
def CompEnd(X:Cx)(pins:List<|Addr×Obj)(σ:St)(Q:VK)(D C:Addr)(s':Shared):Prop:=∃H' m,Inv X pins σ H' s'/\Q (.ref D) H'/\s'.heap.Ns C m/\H' C=none/\C≠X.env.locals/\X.dm.heap.objs.size<=C/\(∀x c,X.env.cells.lookup x=some c->c≠C)/\(∀p∈X.pn++pins,p.1≠C)
theorem um{pins:List<|Addr×Obj}{bS:Shared}{σ:St}{iN:Hp}{Q:VK}{it:Addr}{fp:List Addr}{tn:Nat->Heap->Prop}{J:It}{E:Value->Shared->Prop}(S:bI X N src scope)(hc:X.calm=true) (hg:∀C s H ex pn,PG (iz X N scope C s H ex pn) tg g) (hx:A9 g src) (hi:∀C s H ex pn,Q4 (iz X N scope C s H ex pn) ifs tc) (he:∀C s H ex pn,PE (iz X N scope C s H ex pn) elt te) (I:Inv X pins σ iN bS) (T:Turn X.prog X.w X.K tg J fp it tn) (st:tn 0 bS.heap) (ff:∀b∈fp,sQ X pins iN b) (W:Nat->Nat->List V->Hp->Prop) (w0:∃m,W 0 m [] iN) (turn:∀i m out H',W i m out H'->(J.stop i H'/\∀D,H' D=none->Q (.ref D) (upd H' D<|.lst out))\/(J.go i H'/\out.length<sizeLine/\∀x H2,J.RZ i H' x H2->g x (pick σ src) H2 λfM H3=>tc fM H3 λb H4=>if b=true then te fM H4 λv H5=>∃m',m'<m/\W (i+1) m' (out++[v]) H5 else ∃m',m'<m/\W (i+1) m' out H4)) {RR:Value->Addr->Result->Shared->Prop} (hRR:∀D C s',CompEnd X pins σ Q D C s'->RR (.ref D) C (.ok .next) s'): wpAny (model X.prog X.w) X.A (newList []) (λacc AN=>wpAny (model X.prog X.w) X.A (newFunctionEnv scope X.env.globals (clOf X.env.cells scope.names) [] X.env.qual none .none<|some X.env) (λSI xh=>codeAny (model X.prog X.w) X.A (.compStart (.ListComp elt [{tg,iter,ifs,0}] scope pos) 0 (.ref it) acc {SI with scope:=relabel scope X.env}) (RR acc SI.locals) xh) E AN) E bS:=by
 refine yi<|wpAny_newFunctionEnv S.gp (by intro y hy;simp at hy) (λh₁ u7 qD=>?_) S.kind;dsimp only at u7 qD⊢;generalize XB:bS.heap.push {cls:=.type "list",dict:=none,data:=.seq ([]:List Value).toArray}=G2 at u7 qD⊢;have hC:G2.objs.size=bS.heap.objs.size+1:=by rw[<-XB,yc]
 have Q6:bS.heap.objs.size≠G2.objs.size:=by rw[hC];exact zA<|Nat.lt_succ_self _
 have Ku:bS.heap.objs.size<=G2.objs.size:=by rw[hC];exact yS _
 have old:∀b o,bS.heap.get? b=some o->h₁.get? b=some o:=λb o e=>qD.extBut b o (zA<|zq (zt e) Ku)<|za _<|XB ▸ za _ e;have qE:h₁.get? bS.heap.objs.size=some {cls:=.type "list",dict:=none,data:=.seq ([]:List Value).toArray}:=qD.extBut _ _ Q6<|za _<|XB ▸ zk _ rfl;generalize hCC:G2.objs.size=C at hC Q6 Ku u7 qD⊢;have lR:bS.heap.objs.size<=C:=Ku;generalize hD:bS.heap.objs.size=D at hC Q6 Ku qE⊢;have iA:∀x c,(clOf X.env.cells scope.names).lookup x=some c->X.env.cells.lookup x=some c:=qC X.env.cells scope.names [] (by intro x c h;simp at h);have G4:∀x c,X.env.cells.lookup x=some c->c<bS.heap.objs.size:=λx c e=>by obtain⟨v,q⟩:=I.cell x c e;exact q.lt
 have O5:∀b∈fp,b<bS.heap.objs.size:=λb hb=>by obtain⟨o,e,_⟩:=T.obj _ _ st b hb;exact zt e
 have ok:(iz X N scope C bS iN fp<|X.pn++pins).Ok:=by refine{I.ok.mod,S.kind,I.ok.glob,I.ok.blt,lR,λx y c h1 h2=>I.ok.inj x y c (iA _ _ h1)<|iA _ _ h2,λx hk=>?_,λx c h=>(nomatch h),I.ok.hd,I.ok.frames,.inl rfl,λb hb=>{?_,λx c h=>?_},I.bs,zH I.ok.JW I.sz,λb o e hb=>?_,λb hb hf=>?_,I.stack,I.pU};have hk:(relabel scope X.env).names.lookup x=some .cell\/(relabel scope X.env).names.lookup x=some .free:=hk;unfold relabel at hk;dsimp only at hk;rw[i5]at hk;(cases hl:scope.names.lookup x with|none=>(rw[hl]at hk;rcases hk with z|z<;>cases z)|some k=>rw[hl]at hk;have hm:=yk hl;have SJ:k=.free:=(by by_cases SJ:k=.free;exact SJ;exfalso;have e1:(k==NameKind.free)=false:=(by simpa using SJ);simp only[Option.map,e1,zW,Bool.false_eq_true,if_false]at hk;rcases hk with z|z;exact S.gp _ hm<|zT z;exact SJ<|zT z);subst SJ;obtain⟨c,Kr⟩:=I.ok.has x<|S.AF _ hm rfl;exact{c,i4 X.env.cells scope.names [] x c (by intro x c h;simp at h) hm Kr});exact zA<|zq (O5 b hb) lR;exact(ff b hb).2.2.2.2.1 x c<|iA _ _ h;have q:b∈X.ex\/X.dm.heap.objs.size<=b:=(ff b hb).2.2.2.1;rcases q with q|q;exact I.ok.NY b o e q;exact absurd (zq (zt e)<|zH I.ok.JW q)<|yB _;rcases zj.mp (I.mZ b hf) with z|z;exact(ff b hb).2.1 z;exact(ff b hb).2.2.1 z
 have SK:∀p∈X.pn++pins,p.1∉mX X.stack:=λp hp z=>by obtain⟨_,_,ne,nf,_⟩:=I.pin p hp;rcases zj.mp (I.mZ _ z) with q|q;exact ne q;exact nf q
 have G5:∀p∈X.pn++pins,p.1<bS.heap.objs.size:=λp hp=>zt (I.pin p hp).1;have SM:∀b∈mX X.stack,b<bS.heap.objs.size:=λb hb=>by rcases zj.mp (I.mZ b hb) with z|z;rw[z];exact I.lt;obtain⟨_,o,ho,_⟩:=I.ok.ph.mem z;exact zq (zt ho) I.sz
 have XD:∀(i:Nat)(x:Str)(v:V),N[i]?=some x->(pick σ src)[i]?=some (some v)->∃u c,RelV v u/\(clOf X.env.cells scope.names).lookup x=some c/\bS.heap.IsCell c (some u)/\scope.names.lookup x=some .free:=λi x v e1 e2=>by unfold pick at e2;rw[zi]at e2;cases es:src[i]? with|none=>(rw[es]at e2;cases e2)|some o=>rw[es]at e2;cases o with|none=>(cases e2)|some j=>have e3:(σ[j]?).join=some v:=zT e2;have e4:σ[j]?=some (some v):=(by cases q:σ[j]? with|none=>(rw[q]at e3;cases e3)|some z=>rw[q]at e3;exact congrArg some e3);obtain⟨a1,a2,a3⟩:=S.src i j x es e1;obtain⟨m0,_,hl⟩:=I.loc;obtain⟨u,r,l⟩:=hl j x v a1 e4 a3;have hm:=yk a2;have hk:=S.AF _ hm rfl;rcases l with⟨k,_⟩|⟨_,c,Kr,z⟩;rcases hk with hk|hk<;>(rw[k]at hk;cases hk);exact{u,c,r,i4 X.env.cells scope.names [] x c (by intro x c h;simp at h) hm Kr,z,a2}
 have kinds:∀x,scope.names.lookup x=some .free->(compEnvC scope (clOf X.env.cells scope.names) C X.env).kindOf x=some .cell\/(compEnvC scope (clOf X.env.cells scope.names) C X.env).kindOf x=some .free:=λx hx=>by show(relabel scope X.env).names.lookup x=some .cell\/(relabel scope X.env).names.lookup x=some .free;unfold relabel;dsimp only;rw[i5,hx];dsimp only[Option.map];split;exact .inl rfl;exact .inr rfl
 have Ic:Inv (iz X N scope C bS iN fp<|X.pn++pins) [] (pick σ src) iN {bS with heap:=h₁,toks:=bS.toks+([]:List (Str×Value)).length}:=by refine{ok,rfl,I.bare,Un.kept old,{_,u7,λi x v e1 e2 e3=>?_},λx c e=>?_,I.aJ.fresh lR,λx c e=>I.fP x c<|iA x c e,λp hp=>?_,I.aJ.kept old,?_};obtain⟨u,c,r,e5,⟨o,ho,hd⟩,hf⟩:=XD i x v e1 e2;exact{u,r,.inr {kinds x hf,c,e5,{o,old _ _ ho,hd}}};obtain⟨v,o,ho,hd⟩:=I.cell x c<|iA x c e;exact{v,o,old _ _ ho,hd};have hp:p∈X.pn++pins:=(by simpa [iz]using hp);obtain⟨e,n,_,_,d⟩:=I.pin p hp;exact{old _ _ e,n,zA<|zq (G5 p hp) lR,SK p hp,d};show(pick σ src).length=N.length;unfold pick;rw[zb,S.len]
 have xk:bS.heap.objs.size<=D:=Nat.le_of_eq hD;have O6:D∉mX X.stack:=λz=>absurd (zq (SM D z) xk)<|yB _;have MQ:D∉fp:=λz=>absurd (zq (O5 D z) xk)<|yB _;have pj:∀{pl:List (Addr×Obj)}{H':Hp},(∀b∈fp,H' b=none)->(∀p∈pl,p.1∉fp)->∀b∈fp,sQ (iz X N scope C bS iN fp<|X.pn++pins) pl H' b:=λ{pl H'} hn cP b hb=>by obtain⟨f0,f1,f2,f3,f4,f5⟩:=ff b hb;refine{hn b hb,zA<|zq (O5 b hb) lR,λz=>?_,.inl hb,λx c e=>f4 x c<|iA x c e,λp hp=>?_};rcases zj.mp (I.mZ b z) with q|q;exact f1 q;exact f2 q;have hp:p∈(X.pn++pins)++pl:=hp;rcases zP.mp hp with hp|hp;exact f5 p hp;exact λz=>cP p hp<|z ▸ hb
 have back:∀{s':Shared}{H':Hp}{out:List V}{az:List Value}{nn:Nat}{aB:St},Inv (iz X N scope C bS iN fp<|X.pn++pins) [] aB H' s'->H' D=none->out.length<=sizeLine->Vals out az->s'.heap.get? D=some {cls:=.type "list",data:=.seq az.toArray nn}->(∀D,H' D=none->Q (.ref D) (upd H' D<|.lst out))->CompEnd X pins σ Q D C s':=λ{s' H' out az nn aB} I' hn hl hv ho q=>by obtain⟨m,hm,_⟩:=I'.loc;have un:Un (mX X.stack) fp iN H' bS.heap s'.heap:=I'.base;have neD:∀b o,bS.heap.get? b=some o->b≠D:=λb o e=>zA<|zq (zt e) xk;have fD:iN D=none:=I.aJ.fresh xk;refine{upd H' D<|.lst out,m,?_,q D hn,hm,by rw[ax<|Ne.symm Q6];exact I'.free,yr<|zq I.lt lR,zH I.sz lR,λx c e=>zA<|zq (G4 x c e) lR,λp hp=>zA<|zq (G5 p hp) lR};refine I.RQ (ch:=fp) I'.os {un.keep,un.slot,λb o e n hb=>?_,un.there,λb xs e=>?_,λb o u e=>?_,λb ps e=>?_} (λb o e=>?_) I'.bare λb hb=>?_;rw[ax<|neD b o e];exact un.free b o e n hb;rw[ax<|aD e fD];exact un.lK b xs e;rw[ax<|aD e fD];exact un.kN b o u e;rw[ax<|aD e fD];exact un.kO b ps e;by_cases hb:b=D;subst hb;rw[aE]at e;cases e;exact⟨hl,az,nn,hv,ho⟩;rw[ax hb]at e;refine(I'.aJ b o e).pf (λc v _ q=>q) (λc q=>?_) λc xs q=>?_;rw[ax<|aD q hn];exact q;rw[ax<|aD q hn];exact q;obtain⟨f0,f1,f2,f3,f4,f5⟩:=ff b hb;exact⟨f3,f1,f4,f5⟩
 obtain⟨m0,w0⟩:=w0;have loop:∀xh:Shared,xh={bS with heap:=h₁,toks:=bS.toks+([]:List (Str×Value)).length}->codeAny (model X.prog X.w) X.A (.compLoop (.ListComp elt [{tg,iter,ifs,0}] scope pos) 0 (.ref it) (.ref D)<|compEnvC scope (clOf X.env.cells scope.names) C X.env) (RR (.ref D) C) xh:=by rintro xh rfl;refine j5 (EE:=λ_ _=>False) (λ_ _ f=>f.elim) (λn s'=>∃i out az nn H',Inv (iz X N scope C bS iN fp<|X.pn++pins) [] (pick σ src) H' s'/\H' D=none/\out.length<=sizeLine/\Vals out az/\s'.heap.get? D=some {cls:=.type "list",data:=.seq az.toArray nn}/\tn i s'.heap/\(∀b∈fp,H' b=none)/\W i n out H') ?_ m0 {0,[],[],0,iN,Ic,I.aJ.fresh xk,zV _,.nil,qE,T.keep _ _ _ st λb hb o e=>old b o e,λb hb=>(ff b hb).1,w0};rintro n s3 ⟨i,out,az,nn,H3,I3,hD3,XE,VQ,VR,MF,R4,w3⟩;have O7:∀(az:List Value) (nn:Nat) (v:Option Value),({cls:=.type "list",data:=.seq az.toArray nn} : Obj).data≠.cell v:=λ_ _ _ z=>nomatch z;have I3p:Inv (iz X N scope C bS iN fp<|X.pn++pins) [(D,{cls:=.type "list",data:=.seq az.toArray nn})] (pick σ src) H3 s3:=I3.lL λp hp=>(by have e:p=(D,{cls:=.type "list",data:=.seq az.toArray nn}):=(by simpa using hp);subst e;exact{VR,hD3,Q6,O6,O7 az nn});have XF:∀p∈[((D,{cls:=.type "list",data:=.seq az.toArray nn}):Addr×Obj)],p.1∉fp:=λp hp=>(by have e:p=(D,{cls:=.type "list",data:=.seq az.toArray nn}):=(by simpa using hp);subst e;exact MQ);rcases turn i n out H3 w3 with⟨stop,qn⟩|⟨go,eL,step⟩;refine bw (T.done (iz X N scope C bS iN fp<|X.pn++pins) rfl rfl rfl hc i _ s3 _ H3 _ I3p (pj R4 XF) MF stop) λr s4 ⟨hr,I4⟩=>?_;subst hr;have p4:=(I4.pin (D,{cls:=.type "list",data:=.seq az.toArray nn})<|zD _<|by simp).1;exact hRR D C s4<|back (I4.lL (pins':=[]) λp hp=>nomatch hp) hD3 XE VQ p4 qn;refine bw (T.item (iz X N scope C bS iN fp<|X.pn++pins) rfl rfl rfl hc i _ s3 _ H3 _ I3p (pj R4 XF) MF go) λr s4 ⟨u,hr,h4⟩=>?_;subst hr;refine bw h4 λ_ s5 ⟨x,H5,I5,r5,y5,JF,fr5⟩=>?_;have W4:=I5.pinned (pj fr5 XF)<|T.obj _ _ JF;refine bw (hg _ _ _ _ _ _ s5 _ H5 x u _ W4 r5<|hx x σ H5 _<|step x H5 y5) λ_ s6 ⟨R5,H6,I6,e6,q6⟩=>?_;have fin:∀{s7:Shared}{H7:Hp},Inv (iz X N scope C bS iN fp<|X.pn++pins) ([(D,{cls:=.type "list",data:=.seq az.toArray nn})]++qu fp s5.heap) R5 H7 s7->Inv (iz X N scope C bS iN fp<|X.pn++pins) [] (pick σ src) H7 s7/\H7 D=none/\s7.heap.get? D=some {cls:=.type "list",data:=.seq az.toArray nn}/\tn (i+1) s7.heap/\∀b∈fp,H7 b=none:=λ{s7 H7} I7=>(by have pD:=I7.pin (D,{cls:=.type "list",data:=.seq az.toArray nn})<|zD _ (by simp);refine{(I7.lL (pins':=[]) λp hp=>nomatch hp).weak e6.1.symm e6.2,pD.2.1,pD.1,T.keep _ _ _ JF λb hb o e=>(I7.pin (b,o)<|zD _<|zD _<|g9 hb e).1,λb hb=>?_};obtain⟨o,e,d⟩:=T.obj _ _ JF b hb;exact(I7.pin (b,o)<|zD _<|zD _<|g9 hb e).2.1);refine bw (hi _ _ _ _ _ _ s6 R5 H6 _ I6 q6) λb s7 ⟨H7,I7,q7⟩=>?_;cases b with|false=>(rw[if_neg zd]at q7⊢;obtain⟨m',hm,w7⟩:=q7;obtain⟨J7,d7,o7,t7,f7⟩:=fin I7;exact{m',hm,i+1,out,az,nn,H7,J7,d7,XE,VQ,o7,t7,f7,w7})|true=>rw[if_pos rfl]at q7⊢;refine bw (he _ _ _ _ _ _ s7 R5 H7 _ I7 q7) λv s8 ⟨y,H8,I8,r8,m',hm,w8⟩=>?_;obtain⟨J8,d8,o8,t8,f8⟩:=fin I8;have hsz:az.toArray.size<=sizeLine:=(by rw[zp,<-VQ.length];exact XE);refine wpAny_list_append_plain (items:=az.toArray) (hsz:=hsz) ⟨nn,o8⟩ λh9 ⟨n9,e9⟩ sb=>?_;have J9:Inv (iz X N scope C bS iN fp<|X.pn++pins) [] (pick σ src) H8 {s8 with heap:=h9}:=J8.turned (t':=s8.toks) (it:=D) (λb o hb e=>(sb.2 b hb).trans e) d8 Q6 (.inr xk) (λx c e=>zA<|zq (G4 x c<|iA x c e) xk) λp hp=>(by have hp:p∈X.pn++pins:=(by simpa [iz]using hp);exact zA<|zq (G5 p hp) xk);refine{m',hm,i+1,out++[y],az++[v],n9,H8,J9,d8,?_,VQ.append<|.cons r8 .nil,?_,T.keep _ _ _ t8 λb hb o e=>(sb.2 b λz=>MQ<|z ▸ hb).trans e,f8,w8};rw[zC];exact eL;rw[e9];simp
 exact codeAny_compStart_list (loop _ rfl)<|T.self _ _ _ _ _ (T.keep _ _ _ st λb hb o e=>old b o e)<|loop _ rfl
theorem Kv(S:bI X N src scope)(hc:X.calm=true)(hit:PI X tg iter wi) (hg:∀C s H ex pn,PG (iz X N scope C s H ex pn) tg g) (hx:A9 g src) (hi:∀C s H ex pn,Q4 (iz X N scope C s H ex pn) ifs tc) (he:∀C s H ex pn,PE (iz X N scope C s H ex pn) elt te) (hs:autoParam (∀x,foldedSetIterable iter X.env x=pure x) qQ0):PE X (.ListComp elt [{tg,iter,ifs,0}] scope pos) (G1 wi src g tc te):=by intro pins s σ H Q I h;rw[eval_ListComp];have xl:closureFor scope X.env=pure (clOf X.env.cells scope.names):=gm λy hy hf=>I.ok.has y.1<|S.AF y hy hf;refine wpAny_comprehension_free (use:=none) rfl hs xl S.kind S.loc<|bw (hit pins s σ H _ I h) λv s1 h1=>bw h1 λVI s2 h2=>?_;obtain⟨it,fp,tn,J,H2,e,I2,T,ME,f2,W,w0,turn⟩:=h2;subst e;refine um (RR:=λacc C=>compPost (model X.prog X.w) X.A X.xe none (EP X pins σ Q) acc C) S hc hg hx hi he I2 T ME f2 W w0 turn λD C s' ⟨H',m,I',q,hm,hn,h1,h2,h3,h4⟩=>?_;exact{m,hm,λh' sb=>{.ref D,H',I'.turned (t':=s'.toks) (it:=C) (λb o hb e=>(sb.2 b hb).trans e) hn h1 (.inr h2) h3 h4,rfl,q}}
theorem A_{i:Nat}{x:Str}{pos' Kw:Pos}(hN:X.N.Nodup)(XG:X.N[i]?=some x)(xm:X.env.scope.names.lookup x=some .local) (S:bI X N src scope) (hc:X.calm=true) (hit:PI X tg iter wi) (hg:∀C s H ex pn,PG (iz X N scope C s H ex pn) tg g) (hx:A9 g src) (hi:∀C s H ex pn,Q4 (iz X N scope C s H ex pn) ifs tc) (he:∀C s H ex pn,PE (iz X N scope C s H ex pn) elt te) (XH:autoParam (swapsWith (.ListComp elt [{tg,iter,ifs,0}] scope pos) (some<|.Name x pos') Kw.line X.env=pure true) qQJ) (hs:autoParam (∀x,foldedSetIterable iter X.env x=pure x) qQ0):PS X (.Assign [.Name x pos'] (.ListComp elt [{tg,iter,ifs,0}] scope pos) Kw) (Od (G1 wi src g tc te)<|iy i):=by
 intro pins s σ H D I h;rw[exec_Assign_Name_used _ _ _ _ XH];refine zc<|wpAny_standAt<|zc ?_;have xl:closureFor scope X.env=pure (clOf X.env.cells scope.names):=gm λy hy hf=>I.ok.has y.1<|S.AF y hy hf;show wpAny _ X.A (do let _ <-comprehension (.ListComp elt [⟨tg,iter,ifs,0⟩] scope pos) scope X.env _ (newList []) false (eval iter X.env) (some (assign (.Name x pos') X.env))) _ _ s;refine zc<|yI (wpAny_comprehension_free (use:=some<|assign (.Name x pos') X.env) (Q:=λ_ s'=>∃aB H',Inv X pins aB H' s'/\D.nx aB H') rfl hs xl S.kind S.loc<|bw (hit pins s σ H _ I h) λv s1 h1=>bw h1 λVI s2 h2=>?_) (λ_ s' hq=>zo<|zo hq) λ_ _ e=>e;obtain⟨it,fp,tn,J,H2,e,I2,T,ME,f2,W,w0,turn⟩:=h2;subst e;refine um (Q:=λv H1=>D.nx (σ.set i<|some v) H1) (RR:=λacc C=>compPost (model X.prog X.w) X.A X.xe (some<|assign (.Name x pos') X.env) (λ_ s'=>∃aB H',Inv X pins aB H' s'/\D.nx aB H') acc C) S hc hg hx hi he I2 T ME f2 W w0 turn λD' C s' ⟨H',m,I',q,hm,hn,h1,h2,h3,h4⟩=>?_;show wpAny _ X.A (assign (.Name x pos') X.env<|.ref D') _ _ _;refine wpAny_assign_Name<|t5 I' hN XG (.inl xm) (v:=.ref D') rfl (λA2 I'' ⟨a,sb,ha⟩=>?_)<|.inr xm;have hCa:C≠a:=by rcases ha with ha|ha;rw[ha];exact h1;exact Ne.symm<|h3 _ _ ha
 refine{m,hm.sameBut sb hCa,λh'' JG=>{_,H',I''.turned (t':=A2.toks) (it:=C) (λb o hb e=>(JG.2 b hb).trans e) hn h1 (.inr h2) h3 h4,q}}
end
theorem nj{σ:St}{src:List<|Option Nat}{i:Nat}(h:src[i]?=some none):(pick σ src)[i]?=some none:=by unfold pick;rw[zi,h];rfl
theorem Ext.set(h:σ0[i]?=some none)(e:Ext σ0 σ):Ext σ0 (σ.set i<|some v):=by
 refine{by rw[List.length_set];exact e.1,λj w hj=>?_};have:i≠j:=by rintro rfl;rw[h]at hj;cases hj
 rw[List.getElem?_set_ne this];exact e.2 j w hj
theorem Ext.refl(σ:St):Ext σ σ:={rfl,λ_ _ h=>h}
theorem aQ{src:List<|Option Nat}{i:Nat}(h:src[i]?=some none):A9 (iy i) src:=λx σ H Q q=>{(Ext.refl _).set<|nj h,q}
theorem jM{K:Frag}{n:Nat}{src:List<|Option Nat}{i j:Nat}(h:src[i]?=some none)(h':src[j]?=some none):A9 (J4 K n<|qr (iy i)<|qr (iy j) J3) src:=λx σ H Q q=>by obtain⟨a,xs,e1,hs,hl,v,r,e2,v2,r2,e3,e4,q⟩:=q;exact{a,xs,e1,hs,hl,v,r,e2,v2,r2,e3,e4,((Ext.refl _).set<|nj h).set<|nj h',q}
theorem all_bools{xs:List V}{az:List Value}{bs:List Bool}(hv:Vals xs az)(hb:xs=bs.map V.bl):∀(i:Nat)(v:Value),az.toArray[i]?=some v->v=Value.bool ((bs[i]?).getD false):=by
 subst hb;intro i v h;have h':az[i]?=some v:=by simpa using h
 have hl:=hv.length;rw[zb]at hl;have hi:i<az.length:=(ze.mp h').1;have hb:bs[i]?=some (bs[i]'(by lia)):=by simp
 obtain⟨u,hu,r⟩:=hv.get (i:=i) (x:=V.bl<|bs[i]'(by lia)) (by rw[zi,hb];rfl);rw[h']at hu;cases hu;rw[hb];exact r
theorem range_all{bs:List Bool} : (List.range bs.length).all (λi=>(bs[i]?).getD false)=bs.all id:=by rw[yp,ya,ya];constructor;intro h b hb;obtain⟨i,hi,rfl⟩:=List.mem_iff_getElem.mp hb;have:=h i<|zU.mpr hi;simpa [hi]using this;intro h i hi;have hi:=zU.mp hi;simpa [hi]using h _ (List.getElem_mem hi)
theorem range_any{bs:List Bool} : (List.range bs.length).any (λi=>(bs[i]?).getD false)=bs.any id:=by rw[yp,List.any_eq_true,List.any_eq_true];constructor;rintro⟨i,hi,h⟩;have hi:=zU.mp hi;exact{bs[i],List.getElem_mem hi,by simpa [hi]using h};rintro⟨b,hb,h⟩;obtain⟨i,hi,rfl⟩:=List.mem_iff_getElem.mp hb;exact{i,zU.mpr hi,by simpa [hi]using h}
section
variable{X:Cx}
theorem sT(hc:X.calm=true):ee X (.builtin "all") (λxs H Q=>∃(a:Addr)(bs:List Bool),xs=[.ref a]/\iW X.K H a (bs.map V.bl)/\Q (.bl<|bs.all id) H):=by
 intro pins s σ H xs us Q I r h;obtain⟨a,bs,rfl,hq,q⟩:=h;obtain⟨u,rfl,ru⟩:=vals1 r;cases ru;obtain⟨az,rv,p,hz⟩:=I.list hq;have hl:=rv.length;rw[zb]at hl;refine call_all_walk<|wpAny_pyIter_list p.isList ?_;refine{s.heap.objs.size,_,_,_,_,_,λi=>(bs[i]?).getD false,rfl,Walks.list (A:=X.A.in1) (I.ok.hd hc) s.heap.objs.size a (zA p.lt) az.toArray,{{_,zk _ rfl,rfl,rfl},p.isList.at λo e=>za _ e},?_,λh' tk hk=>?_};intro i v s' Q' E' hv hQ;rw[all_bools rv rfl i v hv];exact yx hQ;have e:az.toArray.size=bs.length:=by rw[zp,<-hl]
 rw[e,range_all];exact{.bl<|bs.all id,H,I.kept (h':=h') (t':=tk) λb o e=>hk b o (by simpa using zA (zt e))<|za _ e,rfl,q}
theorem sU(hc:X.calm=true):ee X (.builtin "any") (λxs H Q=>∃(a:Addr)(bs:List Bool),xs=[.ref a]/\iW X.K H a (bs.map V.bl)/\Q (.bl<|bs.any id) H):=by
 intro pins s σ H xs us Q I r h;obtain⟨a,bs,rfl,hq,q⟩:=h;obtain⟨u,rfl,ru⟩:=vals1 r;cases ru;obtain⟨az,rv,p,hz⟩:=I.list hq;have hl:=rv.length;rw[zb]at hl;refine call_any_walk<|wpAny_pyIter_list p.isList ?_;refine{s.heap.objs.size,_,_,_,_,_,λi=>(bs[i]?).getD false,rfl,Walks.list (A:=X.A.in1) (I.ok.hd hc) s.heap.objs.size a (zA p.lt) az.toArray,{{_,zk _ rfl,rfl,rfl},p.isList.at λo e=>za _ e},?_,λh' tk hk=>?_};intro i v s' Q' E' hv hQ;rw[all_bools rv rfl i v hv];exact yx hQ;have e:az.toArray.size=bs.length:=by rw[zp,<-hl]
 rw[e,range_any];exact{.bl<|bs.any id,H,I.kept (h':=h') (t':=tk) λb o e=>hk b o (by simpa using zA (zt e))<|za _ e,rfl,q}
end
noncomputable def ownOf:HO->Option Addr|.ins _ dx _=>some dx|.kL _ u=>ownOf u|_=>none
structure Fg(H H' G:Hp):Prop where
 sub:∀b o,G b=some o->H' b=some o
 dom:∀b o,H b=some o->∃o',G b=some o'
 own:∀a o dx,G a=some o->ownOf o=some dx->(∃o',H a=some o'/\ownOf o'=some dx)\/∃o',G dx=some o'
theorem aC:bootBuiltins "len"= some (.builtin "len"):=PySem.boot_len
theorem fb:bootBuiltins "all"= some (.builtin "all"):=boot_all
theorem G6:bootBuiltins "any"= some (.builtin "any"):=boot_any
theorem aq:bootBuiltins "isinstance"= some (.builtin "isinstance"):=boot_isinstance
theorem qF:bootBuiltins "int"= some (.type "int"):=PyProof.Rows.boot_int
theorem Kx:bootBuiltins "bool"= some (.type "bool"):=PyProof.Rows.boot_bool
theorem i6:bootBuiltins "str"= some (.type "str"):=PyProof.Rows.boot_str
theorem aW:bootBuiltins "tuple"= some (.type "tuple"):=PyProof.Rows.boot_tuple
theorem Ky:bootBuiltins "list"= some (.type "list"):=PyProof.Rows.boot_list
theorem CW:bootBuiltins "dict"= some (.type "dict"):=PyProof.Rows.boot_dict
theorem O8:bootBuiltins "set"= some (.type "set"):=PyProof.Rows.boot_set
set_option genInjectivity true in
set_option genSizeOfSpec true in
inductive Kd where
 |av|bl|int|str|lst|tup|c_
 deriving DecidableEq
noncomputable def Kd.name:Kd->String|.av=>"NoneType" |.bl=>"bool" |.int=>"int" |.str=>"str" |.lst=>"list" |.tup=>"tuple" |.c_=>"dict"
inductive qG (H:Hp):V->Kd->Prop where
 |av:qG H .av .av
 |bl (b:Bool):qG H (.bl b) .bl
 |int (i:Int):qG H (.int i) .int
 |str (x:Str):qG H (.str x) .str
 |lst {a:Addr}{xs:List V} (e:H a=some (.lst xs)):qG H (.ref a) .lst
 |tup {a:Addr}{xs:List V} (e:H a=some (.tup xs)):qG H (.ref a) .tup
 |c_ {a:Addr}{kvs:List<|Key×V} (e:H a=some (.dK kvs)):qG H (.ref a) .c_
theorem qG.ty{K:Frag}{H:Hp}{x:V}{k:Kd}(h:qG H x k):m9 K H x (.type k.name):=by cases h with|av=>exact .av|bl b=>exact .bl b|int i=>exact .int i|str x=>exact .str x|lst e=>exact .lst e|tup e=>exact .tup e|c_ e=>exact .dK e
noncomputable def u9(T:String):Option (Kd->Bool):=if T ="int" then some λk=>match k with|.int=>true|.bl=>true|_=>false else if T ="bool" then some λk=>match k with|.bl=>true|_=>false else if T ="str" then some λk=>match k with|.str=>true|_=>false else if T ="tuple" then some λk=>match k with|.tup=>true|_=>false else if T ="list" then some λk=>match k with|.lst=>true|_=>false else if T ="dict" then some λk=>match k with|.c_=>true|_=>false else none
theorem G7{K:Frag}{T:String}{g:Kd->Bool}(h:u9 T=some g)(k:Kd):kitOne K (.type k.name) (.type T)=some (g k):=by unfold u9 at h;split at h;rename_i e;subst e;cases h;cases k<;>rfl;split at h;rename_i e;subst e;cases h;cases k<;>rfl;split at h;rename_i e;subst e;cases h;cases k<;>rfl;split at h;rename_i e;subst e;cases h;cases k<;>rfl;split at h;rename_i e;subst e;cases h;cases k<;>rfl;split at h;rename_i e;subst e;cases h;cases k<;>rfl;cases h
section
variable{X:Cx}
theorem G8:ee X (.builtin "isinstance") (λxs H Q=>∃x T k g,xs=[x,.ty T]/\u9 T=some g/\qG H x k/\Q (.bl<|g k) H):=by intro pins s σ H xs us Q I r h;obtain⟨x,T,k,g,rfl,hg,hk,q⟩:=h;obtain⟨v,w',rfl,rv,m7⟩:=vals2 r;cases m7;exact Et I rv hk.ty (G7 hg k) λtk=>{.bl<|g k,H,I.tok tk,rfl,q}
end
mutual
def Dt(K:Frag)(H:Hp):PyData->V->Prop|.none,v=>v=.av|.bool b,v=>v=.bl b|.int i,v=>v=.int i|.str z,v=>v=.str z|.list ds,v=>∃a xs,v=.ref a/\iW K H a xs/\DtAll K H ds xs|.tuple ds,v=>∃a xs,v=.ref a/\iw K H a xs/\DtAll K H ds xs|.dict _,_=>False
def DtAll(K:Frag)(H:Hp):List PyData->List V->Prop|[],xs=>xs=[]|d::ds,xs=>∃y ys,xs=y::ys/\Dt K H d y/\DtAll K H ds ys
end
section
variable{X:Cx}{pins:List (Addr×Obj)}{σ:St}{H:Hp}{s:Shared}
mutual
theorem Inv.reads(I:Inv X pins σ H s):∀(d:PyData){x:V}{u:Value},Dt X.K H d x->RelV x u->∃as,Reads s.heap u d as
 |.none,x,u,h,r=>by
  have h:x=.av:=by simpa only[Dt]using h
  subst h;cases r;exact{_,.none}
 |.bool b,x,u,h,r=>by
  have h:x=.bl b:=by simpa only[Dt]using h
  subst h;cases r;exact{_,.bool b}
 |.int i,x,u,h,r=>by
  have h:x=.int i:=by simpa only[Dt]using h
  subst h;obtain⟨t,rfl⟩:=r;exact{_,.int i t}
 |.str z,x,u,h,r=>by
  have h:x=.str z:=by simpa only[Dt]using h
  subst h;obtain⟨t,rfl⟩:=r;exact{_,.str z t}
 |.list ds,x,u,h,r=>by
  have h:∃a xs,x=.ref a/\iW X.K H a xs/\DtAll X.K H ds xs:=by simpa only[Dt]using h
  obtain⟨a,xs,rfl,hq,hd⟩:=h;cases r;obtain⟨az,rv,p,_⟩:=I.list hq;obtain⟨as,ra⟩:=Inv.readsAll I ds hd rv;obtain⟨o,e,c,n,d⟩:=p.isList;exact{_,.list e c d<|by simpa using ra}
 |.tuple ds,x,u,h,r=>by
  have h:∃a xs,x=.ref a/\iw X.K H a xs/\DtAll X.K H ds xs:=by simpa only[Dt]using h
  obtain⟨a,xs,rfl,hq,hd⟩:=h;cases r;obtain⟨az,rv,p,_⟩:=I.tuple hq;obtain⟨as,ra⟩:=Inv.readsAll I ds hd rv;obtain⟨o,e,c,n,d⟩:=p;exact{_,.tuple e c d<|by simpa using ra}
 |.dict _,x,u,h,r=>by
  have h:False:=by simpa only[Dt]using h
  exact h.elim
theorem Inv.readsAll(I:Inv X pins σ H s):∀(ds:List PyData){xs:List V}{us:List Value},DtAll X.K H ds xs->Vals xs us->∃as,ReadsAll s.heap us ds as
 |[],xs,us,h,r=>by
  have h:xs=[]:=by simpa only[DtAll]using h
  subst h;cases r;exact{_,.nil}
 |d::ds,xs,us,h,r=>by
  have h:∃y ys,xs=y::ys/\Dt X.K H d y/\DtAll X.K H ds ys:=by simpa only[DtAll]using h
  obtain⟨y,ys,rfl,h1,h2⟩:=h;cases r with|cons r1 r2=>obtain⟨as,ra⟩:=Inv.reads I d h1 r1;obtain⟨bs,rb⟩:=Inv.readsAll I ds h2 r2;exact{_,.cons ra rb}
end
end
def SN(K:Frag)(neg:Bool):R2:=λx y H Q=>∃d e,Dt K H d x/\Dt K H e y/\d.canLay0=true/\e.canLay0=true/\(d.depth<=64\/e.depth<=64)/\Q (.bl<|if neg then !PyData.eqv d e else PyData.eqv d e) H
section
variable{X:Cx}
theorem G9(hu:X.A.units+64<cLine):gW X (compareOp .Eq) (SN X.K false):=by intro pins s σ H x y v u Q I rx ry h;obtain⟨d,e,hd,he,cd,ce,dp,q⟩:=h;obtain⟨as,ra⟩:=I.reads d hd rx;obtain⟨bs,rb⟩:=I.reads e he ry;exact SeqAt.compareEq_reads ra rb cd ce (by rcases dp with dp|dp<;>lia)<|aG I q rfl
theorem G_(hu:X.A.units+64<cLine):gW X (compareOp .NotEq) (SN X.K true):=by intro pins s σ H x y v u Q I rx ry h;obtain⟨d,e,hd,he,cd,ce,dp,q⟩:=h;obtain⟨as,ra⟩:=I.reads d hd rx;obtain⟨bs,rb⟩:=I.reads e he ry;exact SeqAt.compareNe_reads ra rb cd ce (by rcases dp with dp|dp<;>lia)<|aG I q rfl
end
theorem jN(a b:Nat):F9 ⟨#[a]⟩ ⟨#[b]⟩=decide (a<=b):=by
 unfold F9;have e:([b]<[a])↔b<a:=by rw[List.cons_lt_cons_iff];constructor;rintro (h|⟨_,h⟩);exact h;exact absurd h<|List.not_lt_nil _;exact .inl
 rw[yp];show(!decide ([b]<[a]))=true↔_;rw[Bool.not_eq_true',yq,e,decide_eq_true_iff];lia
def chkC(sc:Scope)(N0 N:List Str)(src:List<|Option Nat)(scope:Scope):Bool :=
 decide (scope.kind=.function)&&(scope.names.all (λy=>decide (y.2≠.cell)&&(decide (y.2≠.local)||decide (scope.names.lookup y.1=some .local))&&(decide (y.2≠.free)||(decide (sc.names.lookup y.1=some .cell)||decide (sc.names.lookup y.1=some .free)))) &&
  (decide (src.length=N.length)&&(List.range src.length).all λi=>match src[i]?,N[i]? with
   |some (some j),some x=>decide (N0[j]?=some x)&&(decide (scope.names.lookup x=some .free)&&(decide (sc.names.lookup x=some .cell)||decide (sc.names.lookup x=some .free)))
   |_,_=>true))
theorem iT(sc:Scope)(N0:List Str)(hs:X.env.scope=sc)(hN:X.N=N0)(h:chkC sc N0 N src scope=true):bI X N src scope:=by unfold chkC at h;simp only[zL,zR,ya,Bool.or_eq_true]at h;obtain⟨h1,h2,h3,h4⟩:=h;refine{h1,λy hy=>(h2 y hy).1.1,λy hy e=>?_,λy hy e=>?_,h3,λi j x e1 e2=>?_};rcases (h2 y hy).1.2 with z|z;exact absurd e z;exact z;rcases (h2 y hy).2 with z|z;exact absurd e z;show X.env.scope.names.lookup y.1=some .cell\/X.env.scope.names.lookup y.1=some .free;rw[hs];exact z;have hi:i<src.length:=(ze.mp e1).1;have q:=h4 i<|zU.mpr hi;rw[e1,e2]at q;simp only[zL,zR,Bool.or_eq_true]at q;refine{by rw[hN];exact q.1,q.2.1,?_};unfold JV;rw[hs];exact .inr q.2.2
theorem p5(h0:0<=i)(h1:i<l.length):∃v,jK l i=some v/\l[i.toNat]?=some v:=by
 obtain⟨j,rfl⟩:=Int.eq_ofNat_of_zero_le h0;have hj:j<l.length:=by lia
 exact{l[j],bU<|by simp[hj],by simp[hj]}
theorem bT{c:Bool}{A B:Prop}(h:c=true->A)(h':c=false->B):if c=true then A else B:=by cases c with|true=>exact h rfl|false=>exact h' rfl
theorem nt(h:(!b)=true):b=false:=by cases b<;>simp_all
theorem nf(h:(!b)=false):b=true:=by cases b<;>simp_all
noncomputable def Ba:Kd->Bool|.int=>true|.bl=>true|_=>false
noncomputable def u_:Kd->Bool|.bl=>true|_=>false
noncomputable def Bb:Kd->Bool|.str=>true|_=>false
noncomputable def qH:Kd->Bool|.tup=>true|_=>false
noncomputable def Kz:Kd->Bool|.lst=>true|_=>false
theorem KA:u9 "int"= some Ba:=if_pos rfl
theorem Ha:u9 "bool"= some u_:=(if_neg<|by decide).trans<|if_pos rfl
theorem cQ:u9 "str"= some Bb:=(if_neg<|by decide).trans<|(if_neg<|by decide).trans<|if_pos rfl
theorem aV:u9 "tuple"= some qH:=(if_neg<|by decide).trans<|(if_neg<|by decide).trans<|(if_neg<|by decide).trans<|if_pos rfl
theorem len_pos{z:Str}(h:1<=z.cps.size):∃c r,z.cps.toList=c::r:=by cases e:z.cps.toList with|nil=>have:z.cps.toList.length=0:=(by rw[e];rfl);rw[zX]at this;lia|cons c r=>exact⟨c,r,rfl⟩
theorem at0(e:l=c::r):jK l 0=some c:=by
 have:l[0]?=some c:=by rw[e];rfl
 exact bU (j:=0) this
def isPlain:Expr->Bool|.Starred _ _=>false|_=>true
theorem Bc(h:isPlain e=true):starEach (e::es) env=(false,eval e env)::starEach es env:=by cases e<;>first|rfl|exact absurd h zd
theorem XI{t:TA}(ha:PE X e te)(hr:PA X es t)(hp:autoParam (isPlain e=true) qQJ):PA X (e::es) (MK te t):=Kg ha hr<|Bc hp
end L2
namespace HT
open PySem PyProof.Rows
open PySem.SeqAt
open PySem.AutoSeq1 (wpAny_loadPart')
open PySem.MeetsSeq PySem.MeetsSeq2 PySem.MeetsSeq3
end HT
namespace L2
open PySem PySem.Spec PyProof.Rows
def Hb(c:Value)(e:Addr)(h:Heap):Prop:=∃o vs,h.get? e=some o/\o.data=.fields vs/\vs[2]?=some c
section
variable{M:Model}{A:Around}{E:Value->Shared->Prop}{s:Shared}{base:Heap}{env:Env}{outer:List Env}{L e:Addr}{a0 c fl:Value}
theorem SO(wN:A.frames=some (env::outer))(hl:s.heap.FunFrames base<|env::outer)(hf:env.frame=some L) (he:s.heap.get? e=some oe) (F_:base.StaysIn s.heap) (AG:base.get? e=none) (hd:oe.data=.fields vs) (h0:vs[0]?=some a0) (h2:vs[2]?=some c) (h:∀h',Heap.NotedW base (env::outer) e oe.cls a0 (rawInt L) s.heap h'->Hb c e h'->Q () {s with heap:=h'}): wpAny M A (do let x <-frameOf env;let y <-entryPlaceOf L nx;let z <-EntryCells.newEntry head x .none (rawInt L) .none y;setField (.ref e) 1 z) Q E s:=by
 have hsz:1<vs.size:=by have:=(Array.getElem?_eq_some_iff.mp h2).1;lia
 have nfr:e∉(env::outer).filterMap (·.frame):=λm=>by obtain⟨_,o,q,n⟩:=hl.mem m;rw[he]at q;cases q;exact n vs hd
 refine zc<|wpAny_frameOf_fun wN hl hf λg sg=>?_;refine zc<|wpAny_entryPlaceOf λpl cP=>?_;unfold EntryCells.newEntry newFields;refine zc<|yi ?_<|cP.sizeOk5 _ _ _ _ _;have g1:g.get? e=some oe:=(sg.2.1 e nfr).trans he;have kg:base.StaysIn g:=λb o q=>(sg.2.1 b λm=>by rw[(hl.mem m).1]at q;cases q).trans<|F_ b o q;have t3:((([head,.ref L,.none,rawInt L,.none]++(if pl.isEmpty then List.replicate 6 Value.none else pl)).toArray:Array Value))[3]?=some (rawInt L):=by rcases cP with rfl|⟨_,_,_,_,_,_,_,rfl⟩<;>simp
 generalize VS:(([head,.ref L,.none,rawInt L,.none]++(if pl.isEmpty then List.replicate 6 Value.none else pl)).toArray:Array Value)=ts at t3;have g2:=za (h:=g) {cls:=.type "traceback",dict:=none,data:=.fields ts} g1;refine yR g2 hd hsz<|h _ ?_ ?_;have ne:g.objs.size≠e:=yr<|zt g1;have d3:=yA hd (·.setIfInBounds 1 (Value.ref g.objs.size));have e3:=yy (Obj.mapFields (·.setIfInBounds 1 (Value.ref g.objs.size))) g2<|Obj.isFreed_of_fields d3;have T3:=(yu (g.push {cls:=.type "traceback",dict:=none,data:=.fields ts}) (Obj.mapFields (·.setIfInBounds 1 (Value.ref g.objs.size)))<|Ne.symm ne).trans<|zk g rfl;have keep:∀b o,b≠e->g.get? b=some o->((g.push {cls:=.type "traceback",dict:=none,data:=.fields ts}).update e (Obj.mapFields (·.setIfInBounds 1 (Value.ref g.objs.size)))).get? b=some o:=λb o n q=>by rw[yu _ _<|Ne.symm n];exact za _ q
 have xn:∀b o,s.heap.get? b=some o->(∀vs,o.data≠.fields vs)->b≠e:=λb o q n z=>by rw[z,he]at q;cases q;exact n vs hd
 refine{λb o q=>keep b o (λz=>by rw[z,AG]at q;cases q)<|kg b o q,hl.of_keeps λb o q n=>?_,?_,λb o q n=>?_};obtain⟨sl,z⟩:=sg.2.2 b o q;exact{_,keep b _ (xn b o q n) z,rfl};exact{_,_,g.objs.size,_,_,e3,{Obj.cls_mapFields _ _,by rw[Array.getElem?_setIfInBounds_ne<|by decide];exact h0},d3,by simp[hsz],kg.fresh,ne,T3,rfl,t3};obtain⟨sl,z⟩:=sg.2.2 b o q;exact{sl,keep b _ (xn b o q n) z};have d3:=yA hd (·.setIfInBounds 1 (Value.ref g.objs.size));exact{_,_,yy (Obj.mapFields (·.setIfInBounds 1 (Value.ref g.objs.size))) g2<|Obj.isFreed_of_fields d3,d3,by rw[Array.getElem?_setIfInBounds_ne<|by decide];exact h2}
theorem setC(F_:base.StaysIn s.heap)(AG:base.get? e=none)(hl:s.heap.FunFrames base l)(ht:s.heap.TracedAtW base e cls a0 fl)(hc:Hb c e s.heap) (h:∀h',Heap.FlyingW base l e cls a0 h'->s.heap.UpToSlots h'->Hb c e h'->Q () {s with heap:=h'}):wpAny M A (setFlight (.ref e) none) Q E s:=by
 obtain⟨o,vs,T,oT,ts,q,hk,hd,q1,nT,ne,qT,dT,q3⟩:=ht;obtain⟨o',XJ,q',qq,q2⟩:=hc;rw[q]at q';cases q';rw[hd]at qq;cases qq;have hs3:3<ts.size:=(Array.getElem?_eq_some_iff.mp q3).1;have KC:∀b,b≠T->(s.heap.update T (Obj.mapFields (·.setIfInBounds 3 ((none:Option Addr).elim Value.none λf=>rawInt f)))).get? b=s.heap.get? b:=λb n=>yu _ _<|Ne.symm n;have xn:∀b o,s.heap.get? b=some o->(∀vs,o.data≠.fields vs)->b≠T:=λb o z n w=>by rw[w,qT]at z;cases z;exact n ts dT
 have qe:=(KC e<|Ne.symm ne).trans q;unfold setFlight;refine zc<|zY q hd q1 ?_;rw[if_pos<|show(Value.ref T != Value.none)=true by simp];refine yR qT dT hs3<|h _ {λb o z=>(KC b λw=>by rw[w,nT]at z;cases z).trans<|F_ b o z,AG,hl.of_keeps λb o z n=>{o,(KC b<|xn b o z n).trans z,rfl},?_} (λb o z n=>{o.slots,(KC b<|xn b o z n).trans z}) ⟨o,vs,qe,hd,q2⟩;exact{o,vs,T,_,_,qe,hk,hd,q1,nT,ne,yy _ qT<|Obj.isFreed_of_fields<|yA dT _,yA dT _,by simp[hs3]}
theorem SQ(wN:A.frames=some (env::outer))(hf:env.frame=some L)(F_:base.StaysIn s.heap)(AG:base.get? e=none)(hl:s.heap.FunFrames base<|env::outer)(ht:s.heap.TracedAtW base e cls a0 fl)(hc:Hb c e s.heap) (h:∀h',Heap.HeldW base (env::outer) e cls a0 L h'->s.heap.UpToSlots h'->Hb c e h'->Q () {s with heap:=h'}):wpAny M A (noteFrame (.ref e) env) Q E s:=by
 by_cases SR:fl=rawInt L;subst SR;exact wpAny_noteFrame_againW hf ht<|h s.heap ⟨F_,AG,hl,ht⟩ (.refl _) hc;obtain⟨o,vs,T,oT,ts,q,⟨hk,h0⟩,hd,q1,nT,ne,qT,dT,q3⟩:=ht;obtain⟨o',XJ,q',qq,q2⟩:=hc;rw[q]at q';cases q';rw[hd]at qq;cases qq;subst hk;have KC:∀b,b≠T->(s.heap.update T (Obj.mapFields (·.setIfInBounds 3 Value.none))).get? b=s.heap.get? b:=λb n=>yu _ _<|Ne.symm n;have xn:∀b o,s.heap.get? b=some o->(∀vs,o.data≠.fields vs)->b≠T:=λb o z n w=>by rw[w,qT]at z;cases z;exact n ts dT
 unfold noteFrame;simp only[hf];refine zc<|zY q hd q1 ?_;rw[if_pos<|show(Value.ref T != Value.none)=true by simp];refine zc<|zY qT dT q3 ?_;rw[if_neg<|show ¬((fl==rawInt L)=true) by simpa using SR];refine zc<|yR qT dT (Array.getElem?_eq_some_iff.mp q3).1 ?_;refine SO wN (hl.of_keeps λb o z n=>{o,(KC b<|xn b o z n).trans z,rfl}) hf ((KC e<|Ne.symm ne).trans q) (λb o z=>(KC b λw=>by rw[w,nT]at z;cases z).trans<|F_ b o z) AG hd h0 q2 λh' x y=>?_;obtain⟨x1,x2,x3,x4⟩:=x;exact h h' ⟨x1,AG,x2,x3⟩ (λb o z n=>x4 b o ((KC b<|xn b o z n).trans z) n) y
theorem O9(wN:A.frames=some (env::outer))(hf:env.frame=some L)(F_:base.StaysIn s.heap)(AG:base.get? e=none)(hl:s.heap.FunFrames base<|env::outer) (he:s.heap.get? e=some oe) (hd:oe.data=.fields vs) (h0:vs[0]?=some a0) (h1:vs[1]?=some .none) (h2:vs[2]?=some c) (h:∀h',Heap.HeldW base (env::outer) e oe.cls a0 L h'->s.heap.UpToSlots h'->Hb c e h'->Q () {s with heap:=h'}):wpAny M A (noteFrame (.ref e) env) Q E s:=by unfold noteFrame;simp only[hf];refine zc<|zY he hd h1 ?_;rw[if_neg<|by decide];refine SO wN hl hf he F_ AG hd h0 h2 λh' x y=>?_;obtain⟨x1,x2,x3,x4⟩:=x;exact h h' ⟨x1,AG,x2,x3⟩ x4 y
theorem O_(wN:A.frames=some (env::outer))(hf:env.frame=some L)(F_:base.StaysIn s.heap)(AG:base.get? e=none)(hl:s.heap.FunFrames base<|env::outer)(ht:s.heap.TracedAtW base e cls a0 fl)(hc:Hb c e s.heap) (h:∀h',Heap.FlyingW base outer e cls a0 h'->s.heap.UpToSlots h'->Hb c e h'->Q () {s with heap:=h'}):wpAny M A (leaving env<|.ref e) Q E s:=by unfold leaving;refine zc<|SQ wN hf F_ AG hl ht hc λh' x u y=>?_;obtain⟨x1,x2,x3,x4⟩:=x;refine setC x1 x2 x3 x4 y λh2 z u2 y2=>?_;obtain⟨z1,z2,⟨_,_,z3⟩,z4⟩:=z;exact h h2 ⟨z1,z2,z3,z4⟩ (u.trans u2) y2
theorem KG(wN:A.frames=some (env::outer))(hf:env.frame=some L)(F_:base.StaysIn s.heap)(AG:base.get? e=none)(hl:s.heap.FunFrames base<|env::outer) (he:s.heap.get? e=some oe) (hd:oe.data=.fields vs) (h0:vs[0]?=some a0) (h1:vs[1]?=some .none) (h2:vs[2]?=some c) (h:∀h',Heap.FlyingW base outer e oe.cls a0 h'->s.heap.UpToSlots h'->Hb c e h'->Q () {s with heap:=h'}):wpAny M A (leaving env<|.ref e) Q E s:=by unfold leaving;refine zc<|O9 wN hf F_ AG hl he hd h0 h1 h2 λh' x u y=>?_;obtain⟨x1,x2,x3,x4⟩:=x;refine setC x1 x2 x3 x4 y λh2 z u2 y2=>?_;obtain⟨z1,z2,⟨_,_,z3⟩,z4⟩:=z;exact h h2 ⟨z1,z2,z3,z4⟩ (u.trans u2) y2
end
theorem bt.get(x:bt P w H h a o):∃u,h.get? a=some u:=by cases o with|lst xs=>(obtain⟨_,_,_,_,e⟩:=x;exact{_,e})|tup xs=>(obtain⟨_,_,_,ob,e,_⟩:=x;exact{_,e})|dK kvs=>(obtain⟨_,_,_,_,o,_,_,e,_⟩:=x;exact{_,e})|dT kvs=>exact False.elim x|set S n=>(obtain⟨o,_,_,_,e,_⟩:=x;exact{_,e})|ins C dx fs=>(obtain⟨_,_,_,e,_⟩:=x;exact{_,e})|own y=>(obtain⟨_,e⟩:=x;exact{_,e})|xd fs=>(obtain⟨_,⟨_,_,_,e,_⟩,_⟩:=x;exact{_,e})|VC lo hi=>(obtain⟨_,_,_,e⟩:=x;exact{_,e})|kL ob u=>(obtain⟨e,_⟩:=x;exact{_,e})|pT ps=>exact{_,show h.get? a=some _ from x}|met f y=>exact{_,show h.get? a=some _ from x}|ext φ=>obtain⟨_,e,_⟩:=x;exact e
structure XM(P:Program)(w:World)(mg:Str->Option Value)(outer:List Env)(H H':Hp)(h0:Heap)(a:Addr)(cls a0:Value)(B h:Heap):Prop where
 fl:Heap.FlyingW B outer a cls a0 h
 aJ:kM P w H' B
 keep:∀b o,h0.get? b=some o->H b=none->b∉mX outer->B.get? b=some o
 there:∀b o,h0.get? b=some o->b∉mX outer->∃o',B.get? b=some o'
 slot:∀b o,h0.get? b=some o->b∈mX outer->∃sl,h.get? b=some {o with slots:=sl}
 free:∀b o,h0.get? b=some o->H b=none->H' b=none
 lK:∀b xs,H b=some (.tup xs)->H' b=some (.tup xs)
 kN:∀b o u,H b=some (.kL o u)->H' b=some (.kL o u)
 kO:∀b ps,H b=some (.pT ps)->∃more,H' b=some (.pT<|ps++more)
 cx:Hb .none a h\/mg "NoMark"= some cls
def fc(P:Program)(w:World)(mg:Str->Option Value):A1:=λouter H s E e s'=>∃a cls a0 B H',e=.ref a/\s'.os=s.os/\AllBare s'.gens/\XM P w mg outer H H' s.heap a cls a0 B s'.heap/\E cls none H'
structure cX(X:Cx)(E:XK):Prop where
 ex:X.ex=[]
 st:X.stack=X.env::X.outer
 fr:X.env.frame=some X.env.locals
 xe:∀e s',wpAny (model X.prog X.w) X.A (leaving X.env e) (λ_ A2=>fc X.prog X.w X.mg X.outer X.uX X.dm E e A2) (λe' A2=>fc X.prog X.w X.mg X.outer X.uX X.dm E e' A2) s'->X.xe e s'
theorem uo{P:Program}{w:World}{K:Frag}{mg:Str->Option Value}{base:Heap}{N:List Str}{qual:Str}{scope:Scope}{f:Addr}{cd:Value}{A:Around}{outer:List Env}{s:Shared}{H:Hp}{E:XK} : cX (j0 (fc P w mg) P w K mg base N qual scope f cd A outer s H E) E:={rfl,rfl,rfl,λ_ _ h=>h}
section
variable{X:Cx}{pins:List (Addr×Obj)}{σ:St}{H H':Hp}{s:Shared}{E E':XK}
theorem cX.mem(L:cX X E):b∈mX X.stack↔b=X.env.locals\/b∈X.fs:=by unfold Cx.fs mX;rw[L.st,List.filterMap_cons,L.fr];exact zj
theorem cX.Eg(L:cX X E)(I:Inv X pins σ H s)(e:X.dm.heap.get? b=some o)(h:b∉X.fs):b∉mX X.stack:=λz=>by rcases L.mem.mp z with z|z;have:=zt e;have h2:=I.ok.above;rw[z]at this;exact absurd (zq this h2)<|yB _;exact h z
theorem cX.fly(L:cX X E)(I:Inv X pins σ H s)(F:XM X.prog X.w X.mg X.stack H H' s.heap a cls a0 B h)(f2:Heap.FlyingW B X.outer a cls a0 h2)(u2:h.UpToSlots h2)(c2:Hb .none a h2\/X.mg "NoMark"= some cls):
  XM X.prog X.w X.mg X.outer X.uX H' X.dm.heap a cls a0 B h2 where
 cx:=c2
 fl:=f2
 aJ:=F.aJ
 keep:=λb o e n hf=>F.keep b o (I.base.keep b o e n hf<|by rw[L.ex];simp) (I.base.free b o e n<|by rw[L.ex];simp)<|L.Eg I e hf
 there:=λb o e hf=>by
  obtain⟨o',q⟩:=I.base.there b o e<|by rw[L.ex];simp
  exact F.there b o' q<|L.Eg I e hf
 slot:=λb o e hf=>by
  obtain⟨sl,q⟩:=I.base.slot b o e (I.ok.NZ b hf) hf<|by rw[L.ex];simp
  obtain⟨sl1,q1⟩:=F.slot b _ q<|L.mem.mpr<|.inr hf
  obtain⟨_,o2,q2,hd⟩:=F.fl.2.2.1.mem<|L.mem.mpr<|.inr hf
  obtain⟨SS,q3⟩:=u2 b o2 q2 hd
  rw[q1]at q2;cases q2
  exact⟨SS,q3⟩
 free:=λb o e n=>by
  obtain⟨o',q⟩:=I.base.there b o e<|by rw[L.ex];simp
  exact F.free b o' q<|I.base.free b o e n<|by rw[L.ex];simp
 lK:=λb xs e=>F.lK b xs<|I.base.lK b xs e
 kN:=λb o u e=>F.kN b o u<|I.base.kN b o u e
 kO:=λb ps e=>by
  obtain⟨m1,q1⟩:=I.base.kO b ps e
  obtain⟨m2,q2⟩:=F.kO b _ q1
  exact{m1++m2,by rw[q2,Array.append_assoc]}
theorem SU(L:cX X E)(hE:∀c d H',E' c d H'->E c d H'):Passes (fc X.prog X.w X.mg) X E':=λpins σ H s e s' I h=>by
 obtain⟨a,cls,a0,B,H',rfl,os,bare,F,q⟩:=h;refine L.xe _ _ ?_;have wN:X.A.frames=some (X.env::X.outer):=by rw[I.ok.frames,L.st]
 have fl:Heap.FlyingW B (X.env::X.outer) a cls a0 s'.heap:=by rw[<-L.st];exact F.fl
 rcases F.cx with hc|hc;obtain⟨f1,f2,f3,f4⟩:=fl;exact O_ wN L.fr f1 f2 f3 f4.at hc λh2 f2 u2 c2=>{a,cls,a0,B,H',rfl,os.trans I.os,bare,L.fly I F f2 u2<|.inl c2,hE _ _ _ q};exact wpAny_leaves_onW wN L.fr fl λh2 f2 u2=>{a,cls,a0,B,H',rfl,os.trans I.os,bare,L.fly I F f2 u2<|.inr hc,hE _ _ _ q}
theorem Pa(I:Inv X pins σ H s):kM X.prog X.w H (hideAll s.heap<|mX X.stack):=λa o e=>(I.aJ a o e).pf (λb u hb q=>hideAll_get _ q λz=>by have n:=I.pU b z;rcases hb with rfl|hb;rw[e]at n;cases n;rw[hb]at n;cases n) (λ_ q=>q) λ_ _ q=>q
theorem Bd(L:cX X E)(I:Inv X pins σ H s)(hk:∀b o,s.heap.get? b=some o->h'.get? b=some o)(hn:s.heap.get? a=none)(he:h'.get? a=some oe)(hd:oe.data=.fields vs) (h0:vs[0]?=some a0) (h1:vs[1]?=some .none) (h2:vs[2]?=some c) (hc:c=.none\/X.mg "NoMark"= some oe.cls) (hE:E oe.cls none H):X.xe (.ref a) {s with heap:=h'}:=by
 refine L.xe _ _ ?_;have wN:X.A.frames=some (X.env::X.outer):=by rw[I.ok.frames,L.st]
 have Q7:∀env∈X.stack,∀b,env.frame=some b->b∈mX X.stack:=λenv he b hb=>List.mem_filterMap.mpr ⟨env,he,hb⟩;have ff:s.heap.FunFrames (hideAll s.heap<|mX X.stack) (X.env::X.outer):=by rw[<-L.st];exact PySem.W.funFrames_hide I.stack Q7
 have hb:(hideAll s.heap<|mX X.stack).get? a=none:=by cases z:(hideAll s.heap<|mX X.stack).get? a with|none=>rfl|some o=>have:=of_hideAll _ z;rw[hn]at this;cases this
 refine KG (base:=hideAll s.heap<|mX X.stack) wN L.fr (λb o q=>hk b o<|of_hideAll _ q) hb (ff.of_keeps λb o q _=>{o,hk b o q,rfl}) he hd h0 h1 h2 λh2 x1 x4 c2=>?_;refine{a,oe.cls,a0,_,H,rfl,I.os,I.bare,{x1,Pa I,λb o e n hf=>?_,λb o e hf=>?_,λb o e hf=>?_,λb o e n=>I.base.free b o e n<|by rw[L.ex];simp,I.base.lK,I.base.kN,I.base.kO,?_},hE};exact hideAll_get _ (I.base.keep b o e n hf<|by rw[L.ex];simp)<|L.Eg I e hf;obtain⟨o',q⟩:=I.base.there b o e (by rw[L.ex];simp);exact{o',hideAll_get _ q<|L.Eg I e hf};obtain⟨sl,q⟩:=I.base.slot b o e (I.ok.NZ b hf) hf (by rw[L.ex];simp);obtain⟨_,o2,q2,hd⟩:=I.ph.mem hf;obtain⟨SS,q3⟩:=x4 b o2 (hk _ _ q2) hd;rw[q]at q2;cases q2;exact⟨SS,q3⟩;rcases hc with rfl|hc;exact .inl c2;exact .inr hc
theorem oz(L:cX X E)(I:Inv X pins σ H s)(hx:Heap.MadeExcOf s.heap h' a cls args)(hE:E cls none H):X.xe (.ref a) {s with heap:=h'}:=by obtain⟨t,he,_,_⟩:=hx.there;exact Bd L I (λb o q=>hx.keeps b o q) hx.new he rfl rfl rfl rfl (.inl rfl) hE
end
abbrev nq:List Value:=[.type "ValueError",.type "Exception",.type "BaseException",.type "object"]
structure XC(K:Frag)(C:Addr):Prop where
 q:excIn K C nq "ValueError.__new__"= true
def XN(h:Heap)(C:Addr)(bm:List Value):Prop:=∃N nm q bs hdct sn sub ab col dd k0 k1 k2 k3 k5 mN,h.get? C=some (excClassObj nm q C N bs bm hdct sn sub ab col dd k0 k1 k2 k3 k5 "ValueError.__new__")/\h.Ns N mN/\mN "__init__"= none/\OwnTail h nq bm
theorem XC.at{K:Frag}{C:Addr}{h:Heap}(x:XC K C)(X:K.In h):∃bm,XN h C bm:=by have q:=x.q;unfold excIn at q;split at q;rename_i dd cd sl ho;split at q;rename_i C' bm' k0 k1 k2 k3 n k5 hm hs;simp only[zL,beq_iff_eq,Bool.not_eq_true']at q;obtain⟨⟨⟨⟨⟨q1,q2⟩,SV⟩,ht⟩,aJ⟩,VT⟩:=q;subst q1;subst q2;obtain⟨nm,bs,mro,ns,qn,hd,sn,sub,ab,col,del⟩:=cd;dsimp only at hm SV aJ VT;subst hm;subst SV;obtain⟨sl⟩:=sl;dsimp only at hs;subst hs;exact{bm',ns,nm,qn,bs,hd,sn,sub,ab,col,dd,k0,k1,k2,k3,k5,_,X _ _ ho,.of_isNs<|PySem.W.isNs_of_in X aJ,PySem.W.nsMap_none_of_in X aJ VT,PySem.W.tail_of_in X ht};cases q;cases q
def XO(a:Addr)(cls:Value):HO:=.ext λh=>∃o vs,h.get? a=some o/\o.cls=cls/\o.data=.fields vs
abbrev TX:=(St->XK)->TS
noncomputable def Ends.less(D:Ends)(i:Nat):Ends:={nx:=λσ H=>D.nx (σ.set i none) H,rt:=D.rt,bk:=λσ H=>D.bk (σ.set i none) H,ct:=λσ H=>D.ct (σ.set i none) H}
structure XA(K:Frag)(C:Addr):Prop where
 ga:findIn K (.ref C) "__getattribute__"= some (some<|.builtin "BaseException.__getattribute__")
 gh:findIn K (.ref C) "__getattr__"= some none
 cl:findIn K (.ref C) "__class__"= some (some<|.builtin "object.__class__")
section
variable{X:Cx}
theorem MR(L:cX X E):Passes (fc X.prog X.w X.mg) X E:=SU L λ_ _ _ h=>h
end
noncomputable def iB(l:List Str):List Str:=l.foldl (λc x=>if x∈c then c else c++[x]) []
theorem xo(l:List Str)(x:Str):iB (l++[x])=if x∈iB l then iB l else iB l++[x]:=by unfold iB;rw[List.foldl_append];rfl
theorem KH:∀(l:List Str),(iB l).length<=l.length:=λl=>by
 have all:∀(r c:List Str),(r.foldl (λc x=>if x∈c then c else c++[x]) c).length<=c.length+r.length:=by intro r;induction r with|nil=>intro c;simp|cons x r ih=>intro c;rw[yJ];refine zH (ih _) ?_;split<;>simp<;>try lia
 simpa [iB]using all l []
section
variable{prog:Program}{w:World}{A:Around}{R:Result->Shared->Prop}{I:Addr}{fp wr:List Addr}{G:Array GenState->Array GenState->Prop}{n:Nat}{P:Nat->Value->Prop}{St:Nat->Shared->Prop}
theorem Hc(W:WalksS prog w A.in1 I fp wr G n P St)(S:Addr)(hSf:S∉fp)(xs:List Str)(hx:xs.length=n)(Pb:∀i v,P i v->∃x t,xs[i]?=some x/\v=.str x t)(hb:n+1<scanBound): ∀(k i:Nat)(s:Shared),i+k=n->St i s->s.heap.SetOf (strKind prog w) S (λy=>decide<|y∈iB (xs.take i)) (iB<|xs.take i).length->(∀s',Moved (S::wr) G s s'->s'.heap.SetOf (strKind prog w) S (λy=>decide<|y∈iB xs) (iB xs).length->R (.ok<|.ret .none) s')->codeAny (model prog w) A (.builtin "set.update.loop" {[.ref S,.ref I],[]}) R s:=by have nw:S∉wr:=λh=>hSf<|W.sub _ h;have up:∀b∈wr,b∈S::wr:=λb hb=>zf _ hb;have mv:∀{i:Nat}{s s':Shared},Moved wr G s s'->s.heap.SetOf (strKind prog w) S (λy=>decide<|y∈iB (xs.take i)) (iB<|xs.take i).length->s'.heap.SetOf (strKind prog w) S (λy=>decide<|y∈iB (xs.take i)) (iB<|xs.take i).length:=λhm ⟨o,es,ep,tb,ho,rest⟩=>{o,es,ep,tb,hm.heap S _ nw ho,rest};intro k;induction k with|zero=>intro i s hk w4 hS hR;have e:i=n:=(by lia);subst e;refine yP F.entry_set_update_loop ?_;rw[Around.under_plainId F.plain_set_update_loop _];show wpAny _ A.in1 (pyNext (.ref I) >>=_) _ _ s;refine zc<|W.done s _ _ w4 λs' hm=>?_;show wpAny _ A.in1 (ret Value.none) _ _ s';have q:=mv hm hS;rw[<-hx,yG]at q;exact zo (hR s' (hm.mono up) q)|succ k ih=>intro i s hk w4 hS hR;have lt:i<n:=(by lia);refine yP F.entry_set_update_loop ?_;rw[Around.under_plainId F.plain_set_update_loop _];show wpAny _ A.in1 (pyNext (.ref I) >>=_) _ _ s;refine zc<|W.item i s _ _ lt w4 λv s' hP Pc hm=>?_;obtain⟨x,t,ex,rfl⟩:=Pb i v hP;have q:=mv hm hS;show wpAny _ A.in1 (holding [Value.str x t] (setAdd S<|.str x t) >>=_) _ _ s';refine zc<|yH ?_;unfold setAdd;refine yH ?_;refine zc<|(strKind prog w).pyHash (k:=x) (strKind_is _ _ _ _) ?_;have room:(iB<|xs.take i).length+1<scanBound:=(by have:=KH<|xs.take i;rw[ym]at this;lia);refine wpAny_setAddHashed_of (knd:=strKind prog w) (s:={s' with toks:=s'.toks+1}) (strKind_is _ _ _ _) rfl q room λh' KJ q2=>?_;have tk:xs.take (i+1)=xs.take i++[x]:=(by rw[List.take_succ,ex];rfl);have qi:h'.SetOf (strKind prog w) S (λy=>decide<|y∈iB (xs.take<|i+1)) (iB<|xs.take<|i+1).length:=(by refine SetOf_congr q2 (λy=>?_) ?_;rw[tk,xo];by_cases h:x∈iB (xs.take i);rw[if_pos h];by_cases hy:y=x;subst hy;simp[h];simp[hy];rw[if_neg h];simp;rw[tk,xo];by_cases h:x∈iB (xs.take i);rw[if_pos h,if_pos<|by simpa using h];rw[if_neg h,if_neg<|by simpa using h];simp);refine zo {plainId_quiet F.plain_set_update_loop _,ih (i+1) _ (by lia) (W.frame _ s' _ _ Pc (yS _) λb hb o e=>?_) qi λA2 Pd XS=>?_};rw[KJ.2 b (λh:b=S=>hSf<|by rw[<-h];exact hb)];exact e;refine hR A2 (Moved.trans W.gtrans ((hm.mono up).then_heap (yS _) λb o hb e=>?_) Pd) XS;rw[KJ.2 b (λh:b=S=>hb<|by rw[h];exact zm)];exact e
theorem xp(hh:A.handled=none)(hl:s.heap.IsList l items)(hx:xs.length=items.size) (hi:∀(i:Nat)(v:Value),items[i]?=some v->∃x t,xs[i]?=some x/\v=.str x t) (hb:items.size+1<scanBound) (h:∀(h':Heap)(tk:Nat),h'.SetOf (strKind prog w) s.heap.objs.size (λy=>decide<|y∈iB xs) (iB xs).length->(∀b o,b<s.heap.objs.size->s.heap.get? b=some o->h'.get? b=some o)->Q (.ref s.heap.objs.size) {s with heap:=h',toks:=tk}): wpAny (model prog w) A (call (.type "set") [.ref l]) Q E s:=by
 obtain⟨c,tl,m0⟩:=F.called_set.mro;have m1:=F.called_set.made;have m2:=F.called_set.sub;refine wpAny_call<|codeAny_of_tree ?_;show wpAny _ _ (callAny (.type "set") _) _ _ _;refine zo {Code.quiet_builtin _<|by trivial,yP F.entry_type_call ?_};rw[Around.under_plain (weight_type_call_type "set" [.ref l] []) rfl];have m3:=F.called_set.notType;have m4:=F.called_set.canCreate;have m5:=F.typeCall_set_1<|.ref l;repeat (any_goals (first|assumption|wp_step))
 refine yU (code_set_new_1 (.ref l) (E:=E) (Q₁:=λob s1=>∃led:Bool,ob=.ref s.heap.objs.size/\s1={s with heap:=s.heap.push {cls:=.type "set",dict:=none,data:=.set #[] 0 (.fresh 0 0 led)}}) λled=>⟨led,rfl,rfl⟩) λr s1 hr=>?_
 cases r with
 |error e=>exact hr
 |ok fl =>
  cases fl with
  |ret ob =>
   obtain⟨led,rfl,rfl⟩:=hr;generalize hO:({cls:=.type "set",dict:=none,data:=.set #[] 0 (.fresh 0 0 led)} : Obj)=O;have gS:(s.heap.push O).get? s.heap.objs.size=some O:=zk _ (by rw[<-hO];rfl);have tS:Shared.TypeIs {s with heap:=s.heap.push O} (.ref s.heap.objs.size) "set":={_,gS,by rw[<-hO]};have i1:=F.called_set.init.lookup;have i2:=F.called_set.init.bind<|.ref s.heap.objs.size;(repeat (any_goals (first|assumption|wp_step)));refine yU (codeAny_call_builtin (R:=wants (λr s2=>r=.none/\∃h' tk,s2={s with heap:=h',toks:=tk}/\h'.SetOf (strKind prog w) s.heap.objs.size (λy=>decide<|y∈iB xs) (iB xs).length/\(∀b o,b<s.heap.objs.size->s.heap.get? b=some o->h'.get? b=some o)) E) F.called_set.init.plain F.entry_set_init<|check_set_init_1 tS ?_) λr2 s2 XT=>?_
   ·obtain⟨ol,gl,cl,nl,dl⟩:=hl;obtain⟨abI,SX,aaf,Pe⟩:=ol;simp only at cl dl;subst cl;subst dl;have SY:(s.heap.push O).get? l=some {cls:=.type "list",dict:=SX,data:=.seq items nl,slots:=Pe}:=za _ gl;have j1:=F.sub_list_set;have j2:=F.sub_list_frozenset;have j3:(Value.type "list"== Value.type "dict")=false:=(by decide);have il:(s.heap.push O).IsList l items:={_,SY,rfl,nl,rfl};subst hO;unfold Builtin.«set.__init__» noKeywords Builtin.Frozenset.updateFrom;generalize hPI:pyIter=PI;wp_walk;subst hPI;refine wpAny_pyIter_list il ?_;refine zc<|wpAny_runValue ?_;have ll:l<s.heap.objs.size:=zt gl;have h3:A.in1.in1.in1.handled=none:=(by simp[hh]);have ne:l≠(s.heap.push {cls:=.type "set",dict:=none,data:=.set #[] 0 (.fresh 0 0 led)}).objs.size:=(by rw[yc];exact zA<|Nat.lt_succ_of_lt ll);have nf:s.heap.objs.size∉[(s.heap.push {cls:=.type "set",dict:=none,data:=.set #[] 0 (.fresh 0 0 led)}).objs.size,l]:=(by rw[yc];simp only[zj,zI,zM,or_false,not_or];exact{zA<|Nat.lt_succ_self _,yr ll});refine Hc ((Walks.list h3 _ l ne items).toS) s.heap.objs.size nf xs hx hi hb (items.size-0) 0 _ (by lia) {{_,zk _ rfl,rfl,rfl},(il.push _)} ?hS0 ?hR
    case hS0 =>
     have gg:=za {cls:=.type "list_iterator",data:=.fields #[.ref l,.int 0 0]} gS
     exact SetOf_congr ((setObjOf_fresh (knd:=strKind prog w) led).setOf gg<|by unfold scanBound;lia) (λ_=>rfl) rfl
    case hR =>
     intro s' hm q
     obtain⟨h',g',d',Q8,Si⟩:=s'
     have eg:g'=s.gens:=hm.gens;have ed:d'=s.drawn:=hm.drawn;have eo:Si=s.os:=hm.os
     subst eg;subst ed;subst eo
     show wpAny _ _ _ _ _ _;refine zo ?_;show wpAny _ _ (ret Value.none) _ _ _
     refine zo {rfl,h',Q8,rfl,q,λb o hb e=>?_}
     have b2:b≠(s.heap.push {cls:=.type "set",dict:=none,data:=.set #[] 0 (.fresh 0 0 led)}).objs.size:=by rw[yc];exact zA<|Nat.lt_succ_of_lt hb
     refine hm.heap b o ?_<|za _<|za _ e
     simp only[zj,zI,zM,or_false,not_or];exact{zA hb,b2}
   {cases r2 with|error e=>exact XT|ok f2=>cases f2 with|ret r=>(obtain⟨rfl,h',tk,rfl,q,k'⟩:=XT;(repeat (any_goals (first|assumption|wp_step)));exact h _ _ q k')|_=>exact XT.elim}
  |_=>exact hr.elim
end
noncomputable def Pf(P:Program)(w:World)(a:Addr)(xs:List Str):HO:=.ext λh=>h.SetOf (strKind P w) a (λy=>decide<|y∈iB xs) (iB xs).length
theorem KL(q:h.SetOf (strKind P w) a (λy=>decide<|y∈iB xs) (iB xs).length):bt P w H h a (Pf P w a xs):=by obtain⟨o,es,ep,t,ho,rest⟩:=id q;exact{q,⟨o,ho⟩,by rintro h1 h2 ⟨o,es,ep,t,ho,rest⟩ k;exact{o,es,ep,t,k _ ho,rest}}
theorem xq:∀{xs:List Str}{az:List Value},Vals (xs.map V.str) az->∀(i:Nat)(v:Value),az[i]?=some v->∃x t,xs[i]?=some x/\v=.str x t|[],_,.nil,i,v,e=>by simp at e|x::xs,_,.cons r rs,0,v,e=>(by obtain⟨t,q⟩:=r;simp at e;exact{x,t,rfl,by rw[<-e];exact q})|x::xs,_,.cons r rs,i+1,v,e=>by obtain⟨y,t,e1,e2⟩:=xq rs i v (by simpa using e);exact{y,t,by simpa using e1,e2}
section
variable{X:Cx}
theorem EH{P:Program}{w:World}{K:Frag}(hP:X.prog=P)(hw:X.w=w)(hK:X.K=K)(hc:X.calm=true): ee X (.type "set") (λvs H Q=>∃p xs,vs=[.ref p]/\iW K H p (xs.map V.str)/\xs.length<4000/\∀l,H l=none->Q (.ref l) (upd H l<|Pf P w l xs)):=by
 subst hP;subst hw;subst hK;intro pins s σ H vs us Q I r h;obtain⟨p,xs,rfl,hq,hz,q⟩:=h;obtain⟨u,rfl,rx⟩:=vals1 r;cases rx;obtain⟨az,r',pl,_⟩:=I.list hq;have hlen:xs.length=az.toArray.size:=by have:=r'.length;simpa using this
 refine xp (I.ok.hd hc) pl.isList hlen (λi v e=>xq r' i v<|by simpa using e) (by rw[<-hlen];unfold scanBound;lia) λh' tk qs kp=>?_;refine{.ref s.heap.objs.size,_,I.laid (t':=tk) (λb o e=>kp b o (zt e) e) (zr _)<|KL qs,rfl,q _<|I.aJ.fresh<|zr _}
theorem EI(hP:X.prog=P)(hw:X.w=w):ee X (.builtin "len") (λvs H Q=>∃a xs,vs=[.ref a]/\H a=some (Pf P w a xs)/\Q (.int (iB xs).length) H):=by subst hP;subst hw;intro pins s σ H vs us Q I r h;obtain⟨a,xs,rfl,ha,q⟩:=h;obtain⟨u,rfl,rx⟩:=vals1 r;cases rx;obtain⟨⟨o,es,ep,t,ho,hex,hd,S_,Pg,hb,hf,hn⟩,_⟩:=I.aJ a _ ha;refine call_len_set ho hex hd hf (by unfold scanBound at hb;lia) ?_;exact{.int (iB xs).length,H,I.tok _,{_,by rw[hn]},q}
end
theorem uq(l:List Str):(iB l).length=l.length↔l.Nodup:=by
 have all:∀(r c:List Str),c.Nodup->((r.foldl (λc x=>if x∈c then c else c++[x]) c).length=c.length+r.length↔(c++r).Nodup):=by intro r;induction r with|nil=>intro c hc;simpa using hc|cons x r ih=>intro c hc;rw[yJ];by_cases h:x∈c;{rw[if_pos h];have le:(r.foldl (λc x=>if x∈c then c else c++[x]) c).length<=c.length+r.length:=(by have all2:∀(r c:List Str),(r.foldl (λc x=>if x∈c then c else c++[x]) c).length<=c.length+r.length:=(by intro r;induction r with|nil=>intro c;simp|cons x r ih=>intro c;rw[yJ];refine zH (ih _) ?_;split<;>simp<;>try lia);exact all2 r c);refine{λe=>by simp at e;lia,λe=>?_};exact absurd rfl<|(List.nodup_append.mp e).2.2 x h x<|by simp};rw[if_neg h];have JX:(c++[x]).Nodup:=lQ hc h;have:=ih (c++[x]) JX;simp only[zC,zQ,List.length_nil,List.append_assoc,List.singleton_append]at this⊢;rw[<-this];constructor<;>intro e<;>lia
 simpa [iB]using all l [] List.nodup_nil
theorem iC:entryFor table "dict.update.loop"= some Builtin.«dict.update.loop»:=entryFor_of_tree<|by kernel_rfl
theorem dh:plainId "dict.update.loop"= true:=by trivial
theorem sV:typeLookup (.type "tuple") "keys"= pure none:=by rw[typeLookup_type,builtinLookup_eq_fast];kernel_rfl
section
variable{prog:Program}{w:World}{A:Around}{E:Value->Shared->Prop}{s:Shared}
theorem sW(hx:s.heap.get? a=some o)(hc:o.cls=.type "tuple")(Tc:o.data=.seq xs k)(hd:o.dict=none)(hA:A.handled=none) (h:∀h' tk,(∀b ob,s.heap.get? b=some ob->h'.get? b=some ob)->Q none {s with heap:=h',toks:=tk}):wpAny (model prog w) A (getAttr? (.ref a) "keys") Q E s:=by
 obtain⟨c,c_,dat,sl⟩:=o;simp only at hc Tc hd;subst hc Tc hd;obtain⟨hp,g,d,tk,os⟩:=s;have hT:∀Q8,(⟨hp,g,d,Q8,os⟩:Shared).TypeIs (.ref a) "tuple":=λ_=>{_,hx,rfl};have f1:=sub_AttributeError;have f3:=F.slot_tuple_getattribute.lookup;have f4:=F.slot_tuple_getattribute.bind<|.ref a;have f5:=am_tuple_getattr_none;unfold getAttr? getAttrBy? getAttrBy;repeat (any_goals (first|assumption|exact hT _|((with_reducible show wpAny _ _ (call (Value.builtin "tuple.__getattribute__") _ _) _ _ _);refine call_meets F.slot_tuple_getattribute (hT _) am_entry_tuple_getattribute (F.args_tuple_getattribute_2 _ _) (meets_getattribute_miss_tuple a xs k sl "keys" _ sV (by trivial)<|by size_fits) {hx,hA,λh' Q8 e Eh=>?_})|wp_step))
 obtain⟨t',u',he⟩:=Eh.there;show wpAny _ _ (getattributeRaised _ _ _ _ _ _ _) _ _ _;unfold getattributeRaised;repeat (any_goals (first|assumption|wp_step))
 exact h _ _ Eh.keeps
end
section
variable{prog:Program}{w:World}{A:Around}{R:Result->Shared->Prop}{I:Addr}{fp wr:List Addr}{G:Array GenState->Array GenState->Prop}{n:Nat}{P:Nat->Value->Prop}{St:Nat->Shared->Prop}
theorem EJ(W:WalksS prog w A.in1 I fp wr G n P St)(D:Addr)(hDf:D∉fp)(kvs:List<|Key×Value)(hx:kvs.length=n)(base:Heap) (Pb:∀i v,P i v->∃(b:Addr) (k:Key) (key val:Value) (o:Obj) (m:Nat),kvs[i]?=some (k,val)/\v=.ref b/\(aF prog w).is k key=true/\base.get? b=some o/\o.cls=.type "tuple"/\o.data=.seq #[key,val] m/\b≠D/\b∉wr) (hb:n<=sizeLine): ∀(k i:Nat) (s:Shared) (c:Int) (t:Tok),i+k=n->St i s->s.heap.DictOf (aF prog w) D (merged []<|kvs.take i)->(∀b o,base.get? b=some o->b≠D->b∉wr->s.heap.get? b=some o)->(∀s',Moved (D::wr) G s s'->s'.heap.DictOf (aF prog w) D (merged [] kvs)->R (.ok<|.ret .none) s')->codeAny (model prog w) A (.builtin "dict.update.loop" {[.ref D,.ref I,.int c t,.none],[]}) R s:=by have nw:D∉wr:=λh=>hDf<|W.sub _ h;have up:∀b∈wr,b∈D::wr:=λb hb=>zf _ hb;intro k;induction k with|zero=>(intro i s c t hk w4 hS hB hR;have e:i=n:=(by lia);subst e;refine yP iC ?_;rw[Around.under_plainId dh _];show wpAny _ A.in1 (pyNext (.ref I) >>=_) _ _ s;refine zc<|W.done s _ _ w4 λs' hm=>?_;show wpAny _ A.in1 (Builtin.Dict.addKeywords D [] >>=_) _ _ s';have q:s'.heap.DictOf (aF prog w) D (merged []<|kvs.take i):=(by obtain⟨o,es,ep,ho,rest⟩:=hS;exact{o,es,ep,hm.heap D _ nw ho,rest});rw[<-hx,yG]at q;exact zc<|zo<|zo<|hR s' (hm.mono up) q)|succ k ih=>intro i s c t hk w4 hS hB hR;have lt:i<n:=(by lia);refine yP iC ?_;rw[Around.under_plainId dh _];show wpAny _ A.in1 (pyNext (.ref I) >>=_) _ _ s;refine zc<|W.item i s _ _ lt w4 λv s' hP Pc hm=>?_;obtain⟨b,ky,key,val,o,m,ek,rfl,OA,ho,hc,hd,hbD,hbw⟩:=Pb i v hP;have q:s'.heap.DictOf (aF prog w) D (merged []<|kvs.take i):=(by obtain⟨o,es,ep,ho,rest⟩:=hS;exact{o,es,ep,hm.heap D _ nw ho,rest});have Td:s'.heap.get? b=some o:=hm.heap b o hbw<|hB b o ho hbD hbw;have room:(merged []<|kvs.take i).length<=sizeLine:=(by have:=merged_length_le ([]:List (Key×Value))<|kvs.take i;rw[ym]at this;simp at this;lia);have tk:merged [] (kvs.take<|i+1)=stored (merged []<|kvs.take i) ky val:=merged_take_succ [] kvs i (ky,val) ek;refine zc<|yH<|zc<|wpAny_tryCatch ?_;unfold Builtin.Dict.pairItems;refine zc<|wpAny_typeOf (T:="tuple") ⟨o,Td,hc⟩ ?_;show wpAny _ A.in1 (seqItems? (.ref b) >>=_) _ _ s';refine zc<|wpAny_seqItems Td hd<|zo ?_;show wpAny _ A.in1 (holding [key,val]<|dictSet D key val) _ _ s';refine yH<|wpAny_dictSet_pairs OA q (λh' q2 KJ=>?_) room;rw[<-tk]at q2;refine zo {plainId_quiet dh _,ih (i+1) _ _ _ (by lia) (W.frame _ s' _ _ Pc (yS _) λb hb o e=>?_) q2 (λb o e h1 h2=>?_) λA2 Pd XS=>?_};rw[KJ.2 b (λh:b=D=>hDf<|by rw[<-h];exact hb)];exact e;rw[KJ.2 b h1];exact hm.heap b o h2<|hB b o e h1 h2;refine hR A2 (Moved.trans W.gtrans ((hm.mono up).then_heap (yS _) λb o hb e=>?_) Pd) XS;rw[KJ.2 b (λh:b=D=>hb<|by rw[h];exact zm)];exact e
theorem sX(hh:A.handled=none)(gl:s.heap.get? l=some ol)(cl:ol.cls=.type "tuple")(dl:ol.data=.seq items m)(nl:ol.dict=none)(hx:kvs.length=items.size) (hi:∀(i:Nat) (v:Value),items[i]?=some v->∃(b:Addr) (k:Key) (key val:Value) (o:Obj) (m:Nat),kvs[i]?=some (k,val)/\v=.ref b/\(aF prog w).is k key=true/\s.heap.get? b=some o/\o.cls=.type "tuple"/\o.data=.seq #[key,val] m) (hb:items.size<=sizeLine) (h:∀(h':Heap) (tk:Nat),h'.DictOf (aF prog w) s.heap.objs.size (merged [] kvs)->(∀b o,s.heap.get? b=some o->h'.get? b=some o)->Q (.ref s.heap.objs.size) {s with heap:=h',toks:=tk}): wpAny (model prog w) A (call (.type "dict") [.ref l]) Q E s:=by
 refine callType_codes (Q₁:=λobj a_=>obj=.ref s.heap.objs.size/\a_={s with heap:=s.heap.push {cls:=.type "dict",data:=.dict #[]}}) F.kt_called_dict (F.kt_typeCall_dict_1 _) F.entry_dict_init (kt_code_dict_new _ ⟨rfl,rfl⟩) ?_;rintro obj a_ ⟨rfl,rfl⟩;have Ph:(s.heap.push {cls:=.type "dict",data:=.dict #[]}).DictOf (aF prog w) s.heap.objs.size []:=Heap.DictOf.new s.heap;have SY:(s.heap.push {cls:=.type "dict",data:=.dict #[]}).get? l=some ol:=za _ gl;refine{Ph.typeIs,F.args_dict_init_2 _ _,?_};unfold Builtin.«dict.__init__»;refine zc ?_;unfold Builtin.Dict.selfAndRest;refine zc<|wpAny_notOrdered_dict Ph.typeIs ?_;show wpAny _ _ (pure (s.heap.objs.size,[Value.ref l])) _ _ _;refine zo ?_;show wpAny _ _ (Builtin.Dict.updateFrom "dict.__init__" s.heap.objs.size (.ref l) [] .none) _ _ _;unfold Builtin.Dict.updateFrom;refine zc<|wpAny_typeOf (T:="tuple") ⟨ol,SY,cl⟩ ?_;rw[if_pos<|by decide];have h3:A.in1.in1.handled=none:=by simp[hh]
 refine zc<|sW SY cl dl nl h3 λh1 tk1 VU=>?_;have g1:h1.get? l=some ol:=VU _ _ SY;have d1:h1.DictOf (aF prog w) s.heap.objs.size []:=by obtain⟨o,es,ep,ho,rest⟩:=Ph;exact{o,es,ep,VU _ _ ho,rest}
 have lD:s.heap.objs.size<h1.objs.size:=by obtain⟨o,es,ep,ho,rest⟩:=d1;exact zt ho
 have ll:l<s.heap.objs.size:=zt gl;show wpAny _ _ (rule _ >>=_) _ _ _;refine zc<|yW ?_;have it1:h1.IsTuple l items:=⟨ol,g1,cl,m,dl⟩;refine zc<|wpAny_pyIter_tuple (s:=⟨h1,s.gens,s.drawn,tk1,s.os⟩) it1 ?_;have ne:l≠h1.objs.size:=zA<|Nat.lt_trans ll lD;have nf:s.heap.objs.size∉[h1.objs.size,l]:=by simp only[zj,zI,zM,or_false,not_or];exact{zA lD,yr ll}
 refine zo {plainId_quiet dh _,?_};refine EJ ((Walks.tuple h3 _ l ne items).toS) s.heap.objs.size nf kvs hx s.heap (λi v e=>?_) hb (items.size-0) 0 _ _ _ (by lia) {{_,zk _ rfl,rfl,rfl},it1.push _} ?hS0 ?hB ?hR;obtain⟨b,k,key,val,o,m',e1,e2,e3,e4,e5,e6⟩:=hi i v e;have lb:=zt e4;exact{b,k,key,val,o,m',e1,e2,e3,e4,e5,e6,zA lb,by simp;exact zA<|Nat.lt_trans lb lD};case hS0=>exact d1.push _
 case hB=>exact λb o e EK XU=>za _<|VU _ _<|za _ e
 case hR =>
  intro s' hm q
  obtain⟨h',g',d',Q8,Si⟩:=s'
  have eg:g'=s.gens:=hm.gens;have ed:d'=s.drawn:=hm.drawn;have eo:Si=s.os:=hm.os
  subst eg;subst ed;subst eo
  refine{rfl,h h' Q8 q λb o e=>?_}
  have lb:=zt e
  refine hm.heap b o ?_<|za _<|VU _ _<|za _ e
  simp only[zj,zI,zM,or_false,not_or];exact{zA lb,zA<|Nat.lt_trans lb lD}
end
noncomputable def CY(l:List<|Str×V):List (Key×V):=l.foldl (λc p=>putK c (.inr p.1) p.2) []
def Prs(H:Hp)(ps:List V)(kvs:List<|Str×V):Prop:=kvs.length=ps.length/\∀(i:Nat)(x:V)(p:Str×V),ps[i]?=some x->kvs[i]?=some p->∃b,x=.ref b/\H b=some (.tup [.str p.1,p.2])
section
variable{X:Cx}
theorem Be(hc:X.calm=true):ee X (.type "dict") (λvs H Q=>∃p ps kvs,vs=[.ref p]/\H p=some (.tup ps)/\Prs H ps kvs/\∀l,H l=none->Q (.ref l) (upd H l<|.dK<|CY kvs)):=by
 intro pins s σ H vs us Q I r h;obtain⟨p,ps,kvs,rfl,hp,⟨hl,hq⟩,q⟩:=h;obtain⟨u,rfl,rx⟩:=vals1 r;cases rx;obtain⟨hz,az,rv,ol,gl,cl,nl,m,dl⟩:=(show bt X.prog X.w H s.heap p (.tup ps) from I.aJ p _ hp);have hlen:=rv.length;have each:∀(i:Nat)(x:V)(pr:Str×V),ps[i]?=some x->kvs[i]?=some pr->∃(b:Addr)(key val:Value)(o:Obj)(m:Nat),az[i]?=some (.ref b)/\(aF X.prog X.w).is (.inr pr.1) key=true/\RelV pr.2 val/\s.heap.get? b=some o/\o.cls=.type "tuple"/\o.data=.seq #[key,val] m:=by intro i x pr e1 e2;obtain⟨b,rfl,hb⟩:=hq i x pr e1 e2;obtain⟨u,e3,ru⟩:=rv.get e1;cases ru;obtain⟨_,it2,r2,o,go,co,no,m2,do2⟩:=(show bt X.prog X.w H s.heap b (.tup [.str pr.1,pr.2]) from I.aJ b _ hb);obtain⟨k',v',rfl,⟨tk,rfl⟩,rv'⟩:=r2.two;exact{b,_,v',o,m2,e3,iU _ _ _ _,rv',go,co,by simpa using do2}
 have kv:∃vals:List (Key×Value),KV (kvs.map λp=>((.inr p.1:Key),p.2)) vals/\∀(i:Nat)(x:V),ps[i]?=some x->∃(b:Addr)(k:Key)(key val:Value)(o:Obj)(m:Nat),vals[i]?=some (k,val)/\az[i]?=some (.ref b)/\(aF X.prog X.w).is k key=true/\s.heap.get? b=some o/\o.cls=.type "tuple"/\o.data=.seq #[key,val] m:=by clear hp q rv dl hz;induction kvs generalizing ps az with|nil=>refine{[],.nil,λi x e=>?_};have:ps=[]:=List.eq_nil_of_length_eq_zero (by simpa using hl.symm);subst this;simp at e|cons pr r ih=>cases ps with|nil=>simp at hl|cons y ys=>cases az with|nil=>simp at hlen|cons w0 ws=>obtain⟨b,key,val,o,m,e1,e2,e3,e4,e5,e6⟩:=each 0 y pr rfl rfl;obtain⟨vals,k1,k2⟩:=ih ys (by simpa using hl) (λi x p a b=>hq (i+1) x p (by simpa using a)<|by simpa using b) ws (by simpa using hlen) (λi x p a b=>by simpa using each (i+1) x p (by simpa using a) (by simpa using b));refine{(.inr pr.1,val)::vals,.cons ⟨rfl,e3⟩ k1,λi x e=>?_};cases i with|zero=>exact{b,.inr pr.1,key,val,o,m,rfl,e1,e2,e4,e5,e6}|succ i=>simpa using k2 i x (by simpa using e)
 obtain⟨vals,kv1,kv2⟩:=kv;have lv:vals.length=az.length:=by have:=kv1.length;rw[zb]at this;lia
 refine sX (kvs:=vals) (I.ok.hd hc) gl cl dl nl (by simpa using lv) (λi v e=>?_) (by simp;lia) λh' tk qs kp=>?_;have e':az[i]?=some v:=by simpa using e
 have hi:i<az.length:=(ze.mp e').1;obtain⟨b,k,key,val,o,m',e1,e2,e3,e4,e5,e6⟩:=kv2 i (ps[i]'(by lia))<|zg _;rw[e']at e2;exact{b,k,key,val,o,m',e1,zT e2,e3,e4,e5,e6};have rel:KV (CY kvs) (merged [] vals):=by have all:∀(l:List (Str×V))(vl:List (Key×Value))(c:List (Key×V))(cv:List (Key×Value)),KV (l.map λp=>((.inr p.1:Key),p.2)) vl->KV c cv->KV (l.foldl (λc p=>putK c (.inr p.1) p.2) c) (merged cv vl):=(by intro l;induction l with|nil=>(intro vl c cv h1 h2;cases h1;exact h2)|cons p r ih=>intro vl c cv h1 h2;cases h1 with|@cons _ q _ qs r1 r2=>obtain⟨k,v⟩:=q;obtain⟨rfl,rv⟩:=r1;exact ih qs _ _ r2<|h2.put _ rv);exact all kvs vals [] [] kv1 .nil
 have big:=I.big;refine{.ref s.heap.objs.size,_,I.laid (t':=tk) (λb o e=>kp b o e) (zr _) (o:=.dK<|CY kvs) {?_,?_,_,rel,qs},rfl,q _<|I.aJ.fresh<|zr _};have e1:=rel.length;have e2:=merged_length_le ([]:List (Key×Value)) vals;simp at e2;lia;simp;exact yr big
theorem XW(h:n<=1000):n<=sizeLine:=yK<|jL h
end
abbrev lS(h:Heap)(T:Addr)(arr:Array Value):Prop:=h.get? T=some {cls:=.type "tuple",data:=.seq arr}
theorem vd(hs:Heap.ExtBut b h h')(n:a≠b)(x:h.IsTupleIter a l i):h'.IsTupleIter a l i:=x.extBut hs n
theorem MS{h h':Heap}{a l:Addr}{i:Nat}(k:∀o,h.get? a=some o->h'.get? a=some o)(x:h.IsTupleIter a l i):h'.IsTupleIter a l i:=by obtain⟨o,e,r⟩:=x;exact{o,k o e,r}
section
variable{prog:Program}{w:World}{A:Around}{E:Value->Shared->Prop}{s:Shared}
theorem XX(h:n<=3):n<=sizeLine:=XW<|zH h<|by decide
theorem EL(hT:lS s.heap T arr)(hz:arr.size<=3)(h:∀h',lS h' T (arr.setIfInBounds k x)->Heap.SameBut T s.heap h'->Q () {s with heap:=h'}):wpAny (model prog w) A (updateSeq T (·.setIfInBounds k x)) Q E s:=by refine wpAny_updateSeq hT rfl (h _ ?_<|yC ..) (hz:=XX hz) (_hz':=by have:=XX hz;simp;lia);show Heap.get? _ _=_;rw[yy _ hT rfl];simp[Obj.mapSeq]
theorem Bf(hit:s.heap.IsTupleIter it l i)(hl:s.heap.IsTuple l items)(hx:items[i]?=some x)(hQ:∀h',h'.IsTupleIter it l (i+1)->Heap.SameBut it s.heap h'->Q x {s with heap:=h'}): wpAny (model prog w) A (Builtin.SmallTypes.nextOf<|.ref it) Q E s:=by obtain⟨o,ho,hc,hd⟩:=id hit;obtain⟨ol,Pj,_,nl,KN⟩:=hl;unfold Builtin.SmallTypes.nextOf;refine zc<|wpAny_callSpecial?_slot (name:=Str.ofString "__next__") hit.typeIs F.slot_tuple_iterator_next<|yF F.slot_tuple_iterator_next hit.typeIs F.entry_tuple_iterator_next ?_<|F.args_tuple_iterator_next_1 _;show wpAny _ _ (field (.ref it) 0 >>=_) _ _ s;refine zc<|zY ho hd (x:=.ref l) rfl ?_;show wpAny _ _ (if (Value.ref l==Value.none)=true then _ else _) _ _ s;rw[if_neg<|show ¬((Value.ref l==Value.none)=true) from zd];show wpAny _ _ (field (.ref it) 1 >>=_) _ _ s;refine zc<|zY ho hd (x:=.int i 0) rfl ?_;show wpAny _ _ (seqItems? (.ref l) >>=_) _ _ s;refine zc<|wpAny_seqItems Pj KN ?_;simp only[Int.toNat_natCast,hx];refine zc<|yR ho hd (by simp)<|zo {x,rfl,zo<|hQ _ {_,yy _ ho<|Obj.isFreed_of_fields<|yA hd _,(Obj.cls_mapFields ..).trans hc,by rw[yA hd];simp[rawInt]}<|yC ..}
theorem qI(hh:A.handled=none)(hit:s.heap.IsTupleIter it l i)(hl:s.heap.IsTuple l items)(hx:items[i]?=none) (hE:∀h' e,Heap.ExtBut it s.heap h'->(∃o,h'.get? e=some o/\o.cls=.type "StopIteration")->E (.ref e) {s with heap:=h'}):wpAny (model prog w) A (Builtin.SmallTypes.nextOf<|.ref it) Q E s:=by
 obtain⟨o,ho,hc,hd⟩:=id hit;obtain⟨ol,Pj,_,nl,KN⟩:=hl;unfold Builtin.SmallTypes.nextOf;refine zc<|wpAny_callSpecial?_slot (name:=Str.ofString "__next__") hit.typeIs F.slot_tuple_iterator_next<|yF F.slot_tuple_iterator_next hit.typeIs F.entry_tuple_iterator_next ?_<|F.args_tuple_iterator_next_1 _;show wpAny _ _ (field (.ref it) 0 >>=_) _ _ s;refine zc<|zY ho hd (x:=.ref l) rfl ?_;show wpAny _ _ (if (Value.ref l==Value.none)=true then _ else _) _ _ s;rw[if_neg<|show ¬((Value.ref l==Value.none)=true) from zd];show wpAny _ _ (field (.ref it) 1 >>=_) _ _ s;refine zc<|zY ho hd (x:=.int i 0) rfl ?_;show wpAny _ _ (seqItems? (.ref l) >>=_) _ _ s;refine zc<|wpAny_seqItems Pj KN ?_;simp only[Int.toNat_natCast,hx];refine zc<|yW<|zc<|yR ho hd (by simp) ?_;show wpAny _ _ (newExc (.type "StopIteration") [] >>=_) _ _ _;refine zc ?_;simp only[newExc,newTuple];refine zc<|yi ?_ (by size_fits);refine zc (m:=firstArgMember _ _)<|yX (a:=Value.none) (by first|rfl|(simp only[firstArgMember];rfl)) ?_;refine yi ?_ (by size_fits);simp only[raiseNew];refine zc<|wpAny_handled ?_;first|rw[show A.in1.handled=none from hh]|rw[hh]
 refine zc<|zo<|wpAny_throw<|hE _ _ (((yC ..).extBut.push _).push _) {_,zk _ rfl,rfl}
end
def ZS2(n l0 l1:Nat)(i:Nat)(h:Heap):Prop:=IsZip h (n+4) (n+2) (n+3) .none/\lS h (n+2) #[.ref n,.ref<|n+1]/\(∃arr:Array Value,arr.size=2/\lS h (n+3) arr)/\h.IsTupleIter n l0 i/\h.IsTupleIter (n+1) l1 i
section
variable{X:Cx}{pins:List (Addr×Obj)}{σ:St}{H:Hp}{s:Shared}{h':Heap}
theorem Inv.KO(I:Inv X pins σ H s)(wr:List Addr)(hw:∀b∈wr,sQ X pins H b)(k:∀b o,b∉wr->s.heap.get? b=some o->h'.get? b=some o):Inv X pins σ H {s with heap:=h',toks:=t'}:=by refine I.step (g':=s.gens) (d':=s.drawn) (ch:=wr) (λb hb=>by obtain⟨_,a,_,c,d,e⟩:=hw b hb;exact⟨c,a,d,e⟩) (λb o _ _ hc e _=>k b o hc e) (λb o _ _ hc e _=>{o.slots,k b o hc e}) (λ_ _ _ _ n=>n) (λb o hc e=>{o,k b o hc e}) (λ_ _ e=>e) (λ_ _ _ e=>e) (λb ps e=>{#[],by rw[e];simp}) (λm hm=>?_) (λb u e=>?_) I.bare;obtain⟨o,es,ep,ho,r⟩:=hm;exact{o,es,ep,k _ o (λz=>(hw _ z).2.1 rfl) ho,r};refine(I.aJ b u e).pf (λc v hc q=>k c v (λz=>?_) q) (λ_ q=>q) λ_ _ q=>q;have n:=(hw c z).1;rcases hc with rfl|hc;rw[n]at e;cases e;rw[n]at hc;cases hc
theorem Inv.KP(I:Inv X pins σ H s)(wr:List Addr)(hw:∀b∈wr,sQ X pins H b)(k:∀b o,b∉wr->s.heap.get? b=some o->h'.get? b=some o)(hT:s.heap.get? T=none)(new:bt X.prog X.w (upd H T o) h' T o): Inv X pins σ (upd H T o) {s with heap:=h',toks:=t'}:=by
 have fr:H T=none:=by cases q:H T with|none=>rfl|some u=>obtain⟨z,e⟩:=(I.aJ T u q).get;rw[hT]at e;cases e
 have ne:∀b u,H b=some u->b≠T:=λb u e z=>by rw[z,fr]at e;cases e
 refine I.step (g':=s.gens) (d':=s.drawn) (ch:=wr) (λb hb=>by obtain⟨_,a,_,c,d,e⟩:=hw b hb;exact⟨c,a,d,e⟩) (λb o _ _ hc e _=>k b o hc e) (λb o _ _ hc e _=>{o.slots,k b o hc e}) (λb ob _ e n=>?_) (λb o hc e=>{o,k b o hc e}) (λb xs e=>by rw[ax<|ne b _ e];exact e) (λb ob u e=>by rw[ax<|ne b _ e];exact e) (λb ps e=>{#[],by rw[ax<|ne b _ e,e];simp}) (λm hm=>?_) (λb u e=>?_) I.bare;have:b≠T:=λz=>by rw[z,hT]at e;cases e
 rw[ax this];exact n;obtain⟨o,es,ep,ho,r⟩:=hm;exact{o,es,ep,k _ o (λz=>(hw _ z).2.1 rfl) ho,r};by_cases hb:b=T;subst hb;rw[aE]at e;cases e;exact new;rw[ax hb]at e;refine(I.aJ b u e).pf (λc v hc q=>k c v (λz=>?_) q) (λc q=>by rw[ax<|ne c _ q];exact q) λc xs q=>by rw[ax<|ne c _ q];exact q
 have n:=(hw c z).1;rcases hc with rfl|hc;rw[n]at e;cases e;rw[n]at hc;cases hc
end
noncomputable abbrev KQ(h:Heap)(l0:Addr):Heap:=(h).push {cls:=.type "tuple_iterator",data:=.fields #[.ref l0,.int 0 0]}
noncomputable abbrev KR(h:Heap)(l0 l1:Addr):Heap:=(KQ h l0).push {cls:=.type "tuple_iterator",data:=.fields #[.ref l1,.int 0 0]}
noncomputable abbrev KY(h:Heap)(l0 l1:Addr):Heap:=(KR h l0 l1).push {cls:=.type "tuple",data:=.seq #[.ref h.objs.size,.ref (KQ h l0).objs.size]}
noncomputable abbrev KZ(h:Heap)(l0 l1:Addr):Heap:=(KY h l0 l1).push {cls:=.type "tuple",data:=.seq #[.none,.none]}
noncomputable abbrev Bj(h:Heap)(l0 l1:Addr):Heap:=(KZ h l0 l1).push {cls:=.type "zip",data:=.fields #[.none,.bool false,.bool false,.ref (KR h l0 l1).objs.size,.ref (KY h l0 l1).objs.size]}
theorem Bk(l0 l1:Addr)(Bh Bi:Array Value):Meets (Builtin.«zip.__new__» {[.type "zip",.ref l0,.ref l1],[]}) (λ_ R s=>s.heap.IsTuple l0 Bh/\s.heap.IsTuple l1 Bi/\R (.ok<|.ret<|.ref (KZ s.heap l0 l1).objs.size) {s with heap:=Bj s.heap l0 l1}):=.of_wp λprog w A R s h=>by obtain⟨hp,g,d,tk,os⟩:=s;obtain⟨t0,t1,h⟩:=h;have XY:=sub_zip;have L0:Heap.IsTuple (Shared.heap ⟨hp,g,d,tk,os⟩) l0 Bh:=t0;have L1:Heap.IsTuple (Shared.heap {hp.push {cls:=.type "tuple_iterator",data:=.fields #[.ref l0,.int 0 0]},g,d,tk,os}) l1 Bi:=Heap.IsTuple.push (t1) _;wp_walk using wpAny_pyIter_tuple L0,wpAny_pyIter_tuple L1;exact{_,rfl,h}
theorem Bl(t0:s.heap.IsTuple l0 Bh)(t1:s.heap.IsTuple l1 Bi) (h:∀h',ZS2 s.heap.objs.size l0 l1 0 h'->(∀c o,s.heap.get? c=some o->h'.get? c=some o)->Q (.ref<|s.heap.objs.size+4) {s with heap:=h'}):wpAny (model prog w) A (call (.type "zip") [.ref l0,.ref l1]) Q E s:=by
 refine callType_new F.called_zip (by decide) (F.typeCall_zip_2 _ _) (F.newCall_zip_2 _ _) (λobj=>F.args_object_init_3 obj _ _) F.entry_zip_new (Bk l0 l1 Bh Bi) {t0,t1,?_};have z1:(KQ s.heap l0).objs.size=s.heap.objs.size+1:=yc ..;have z2:(KR s.heap l0 l1).objs.size=s.heap.objs.size+2:=by rw[yc,z1]
 have z3:(KY s.heap l0 l1).objs.size=s.heap.objs.size+3:=by rw[yc,z2]
 have z4:(KZ s.heap l0 l1).objs.size=s.heap.objs.size+4:=by rw[yc,z3]
 have z5:(Bj s.heap l0 l1).objs.size=s.heap.objs.size+5:=by rw[yc,z4]
 have g0:(Bj s.heap l0 l1).get? (s.heap).objs.size=some _:=za _<|za _<|za _<|za _<|zk _ rfl;have g1:(Bj s.heap l0 l1).get? (KQ s.heap l0).objs.size=some _:=za _<|za _<|za _<|zk _ rfl;have g2:(Bj s.heap l0 l1).get? (KR s.heap l0 l1).objs.size=some _:=za _<|za _<|zk _ rfl;have g3:(Bj s.heap l0 l1).get? (KY s.heap l0 l1).objs.size=some _:=za _<|zk _ rfl;have g4:(Bj s.heap l0 l1).get? (KZ s.heap l0 l1).objs.size=some _:=zk _ rfl;show _/\_;rw[z2,z3,z4]at g4;rw[z3]at g3;rw[z1,z2]at g2;rw[z1]at g1;rw[z4];exact{{_,g4,rfl},h _ {g4,g2,!⟨g3⟩,{_,g0,rfl,rfl},{_,g1,rfl,rfl}} λc o x=>za _<|za _<|za _<|za _<|za _ x}
def K0(K:Frag):V->List V->Hp->VK->Prop:=λx vs H Q=>∃(a:Addr)(xs:List V)(y z:V)(j:Nat),x=.ref a/\vs=[y]/\iW K H a xs/\gz y=true/\xs.all gz=true/\xs[j]?=some z/\eqV z y=true/\(∀m u,m<j->xs[m]?=some u->eqV u y=false)/\Q (.int j) H
theorem EM:Q2 X "list.index" (K0 X.K):=by
 intro pins s σ H x vs v us Q I rx rv h;obtain⟨a,xs,y,z,j,rfl,rfl,hq,fy,fx,hj,hit,Ki,q⟩:=h;cases rx;obtain⟨u,rfl,ru⟩:=rv.one;obtain⟨az,r,p,hz⟩:=I.list hq;obtain⟨⟨cls,dd,data,sl⟩,ho,hc,n,hd⟩:=p.isList;simp only at hc hd;subst hc hd;have hl:=r.length;have eL:j<xs.length:=(ze.mp hj).1;have fl:∀(m:Nat)(w:V),xs[m]?=some w->gz w=true:=λm w e=>ya.mp fx w<|zE e;have at':∀(m:Nat)(hm:m<az.toArray.size)(w:V),xs[m]?=some w->GK y az.toArray[m]=eqV w y:=λm hm w e=>by obtain⟨u',e',XZ⟩:=r.get e;have:az.toArray[m]=u':=(by have:=ze.mp e';simpa using this.2);rw[this];exact A4 XZ<|fl m w e
 have hs:sizeLine=16777216:=yg;refine call_meets PySem.F.slot_list_index {_,ho,rfl} PySem.F.entry_list_index (PySem.F.args_list_index_2 _ _) (SeqAt.list_indexAt a az.toArray n dd sl u (GK y) j (by simp;lia) (by lia) ?_ ?_) {ho,λw hw=>lO ru fy r fx w<|by simpa using hw,{.int j,H,I.tok _,{_,rfl},q}};rw[at' j _ z hj];exact hit;intro m hm hmj;have hmx:m<xs.length:=by lia
 rw[at' m hm _<|zg hmx];exact Ki m _ hmj<|zg hmx
def Te:R2:=λx y H Q=>∃z n,x=.str z/\y=.int n/\MulOk z n/\Q (.str<|PySem.Txt.mul z n) H
theorem Bn:gW X (binaryOp .Mult) Te:=by intro pins s σ H x y v u Q I rx ry h;obtain⟨z,n,rfl,rfl,hm,q⟩:=h;obtain⟨t,rfl⟩:=rx;obtain⟨t',rfl⟩:=ry;exact SB.mul hm λt'' k=>{.str _,H,I.tok k,{_,rfl},q}
def JH(w:World)(K:Frag)(a:Addr)(kvs:List<|Str×V):Prop:=(a==sysModules)=false/\∃(o:Obj)(es:Array DictEntry)(ep:Nat),K.lookup a=some o/\o.ExactDict/\o.data=.dict es ep/\Paired (λ(e:DictEntry)(kv:Str×V)=>e.hash=hashStr w kv.1/\(∃t,e.key=.str kv.1 t)/\RelV kv.2 e.val) es.toList kvs/\(kvs.map Prod.fst).Nodup
theorem qJ(z:Str):∀kvs:List (Str×V),fO (kvs.map λp=>((.inr p.1:Key),p.2)) (.inr z)=kvs.lookup z
 |[]=>rfl
 | (x,v)::r=>by
  rw[zx,yf];by_cases e:z=x;subst e;rw[qA rfl];simp;have e1:(z==x)=false:=by simpa using e
  rw[qB λq=>e (yO q).symm,e1];exact qJ z r
section
variable{X:Cx}{pins:List (Addr×Obj)}{σ:St}{H:Hp}{s:Shared}{a:Addr}{kvs:List (Str×V)}
theorem Bo(I:Inv X pins σ H s)(d:JH X.w X.K a kvs):(a==sysModules)=false/\∃vs,KV (kvs.map λp=>((.inr p.1:Key),p.2)) vs/\s.heap.DictOf (aF X.prog X.w) a vs:=by
 obtain⟨ns,o,es,ep,hk,hx,hd,hp,hn⟩:=d;have all:∀(es:List DictEntry)(kvs:List (Str×V)),Paired (λ(e:DictEntry)(kv:Str×V)=>e.hash=hashStr X.w kv.1/\(∃t,e.key=.str kv.1 t)/\RelV kv.2 e.val) es kvs->∃vs:List (Key×Value),KV (kvs.map λp=>((.inr p.1:Key),p.2)) vs/\Pairs (aF X.prog X.w) es vs/\vs.map (·.1)=kvs.map (λp=>(.inr p.1:Key))/\∀e∈es,∃k,(aF X.prog X.w).is k e.key=true/\e.hash=(aF X.prog X.w).hash k:=by intro es kvs hp;induction hp with|nil=>exact{[],.nil,.nil,rfl,by simp}|@cons e kv VF kvs' h t ih=>obtain⟨vs,k1,k2,k3,k4⟩:=ih;obtain⟨h1,⟨tk,h2⟩,h3⟩:=h;have hi:(aF X.prog X.w).is (.inr kv.1) e.key=true:=(by rw[h2];exact iU _ _ _ _);refine{(.inr kv.1,e.val)::vs,.cons ⟨rfl,h3⟩ k1,.cons hi rfl k2,by rw[zx,zx,k3],λe' he=>?_};rcases zj.mp he with rfl|he;exact{.inr kv.1,hi,h1};exact k4 e' he
 obtain⟨vs,k1,k2,k3,k4⟩:=all _ _ hp;refine{ns,vs,k1,o,es,ep,I.mY a o hk,hx,hd,λe he=>k4 e<|by simpa using he,k2,?_};rw[k3];have:(kvs.map λp=>(.inr p.1:Key))=(kvs.map Prod.fst).map Sum.inr:=by rw[zy];rfl
 rw[this];exact List.Pairwise.map _ (λx y h q=>h<|yO q) hn
theorem Hd{w:World}{K:Frag}(hw:X.w=w)(hK:X.K=K):gW X (compareOp .In) (λx y H Q=>∃z a kvs,x=.str z/\y=.ref a/\JH w K a kvs/\Q (.bl (kvs.lookup z).isSome) H):=by subst hw hK;intro pins s σ H x y v u Q I rx ry h;obtain⟨z,a,kvs,rfl,rfl,d,q⟩:=h;cases ry;obtain⟨ns,vs,rel,dd⟩:=Bo I d;refine wpAny_in_of (ku (k:=.inr z) rx) ns dd.mapOf ?_;rw[<-(rel.val<|.inr z).ng,qJ];exact{.bl _,H,I.tok _,rfl,q}
def Tf(w:World)(K:Frag):V->List V->Hp->VK->Prop:=λx vs H Q=>∃a z kvs,x=.ref a/\vs=[.str z]/\JH w K a kvs/\Q ((kvs.lookup z).getD .av) H
theorem K1{w:World}{K:Frag}(hw:X.w=w)(hK:X.K=K):Q2 X "dict.get" (Tf w K):=by subst hw hK;intro pins s σ H x vs v us Q I rx rv h;obtain⟨a,z,kvs,rfl,rfl,d,q⟩:=h;cases rx;obtain⟨u,rfl,ru⟩:=rv.one;obtain⟨ns,vs,rel,dd⟩:=Bo I d;refine call_meetsIn yz dd.typeIs PySem.F.entry_dict_get (PySem.F.args_dict_get_2 _ _) (meets_dict_get (aF X.prog X.w) a (ku (k:=.inr z) ru) ns) {_,dd.mapOf,_,H,I.tok _,?_,q};rw[<-qJ];exact(rel.val<|.inr z).getD rfl
theorem He{w:World}{K:Frag}{o e:Expr}{apos aL:Pos}{td ty:TE}(hw:X.w=w)(hK:X.K=K)(ho:PE X o td)(he:PE X e ty)(m:M1 X o "get" apos e aL):PE X (.Call (.Attribute o "get" apos) [e] [] aL) (λσ H Q=>td σ H λx H1=>∃a kvs,x=.ref a/\JH w K a kvs/\ty σ H1 λy H2=>∃z,y=.str z/\Q ((kvs.lookup z).getD .av) H2):=by subst hw hK;intro pins s σ H Q I h;refine wpAny_Call_method m.base m.F8 m.line PySem.F.plainAttrs_dict yz PySem.F.type_dict_get<|bw (ho pins s σ H _ I h) λu s1 ⟨x,H1,I1,rx,a,kvs,ex,d,q1⟩=>?_;subst ex;obtain rfl:u=Value.ref a:=rx;obtain⟨ns,vs,rel,dd⟩:=Bo I1 d;obtain⟨ob,_,_,h1,h2,_⟩:=id dd;refine{dd.typeIs,λb q=>by cases q;exact⟨ob,h1,h2.2.1⟩,?_};rw[m.trees];refine Calls.callWith_builtin rfl<|Calls.evalArgs_plain<|yE<|bw (he pins s1 σ H1 _ I1 q1) λiv s2 ⟨y,H2,I2,ry,z,ey,q2⟩=>Calls.spliced_nil ?_;subst ey;exact K1 rfl rfl pins s2 σ H2 (.ref a) [.str z] _ [iv] Q I2 rfl (.cons ry .nil) ⟨a,z,kvs,rfl,rfl,d,q2⟩
end
theorem Hf:bootBuiltins "min"= some (.builtin "min"):=by trivial
def ZS3(n l0 l1 l2:Nat)(i:Nat)(h:Heap):Prop:=IsZip h (n+5) (n+3) (n+4) .none/\lS h (n+3) #[.ref n,.ref<|n+1,.ref<|n+2]/\(∃arr:Array Value,arr.size=3/\lS h (n+4) arr)/\h.IsTupleIter n l0 i/\h.IsTupleIter (n+1) l1 i/\h.IsTupleIter (n+2) l2 i
noncomputable abbrev K2(h:Heap)(l0:Addr):Heap:=(h).push {cls:=.type "tuple_iterator",data:=.fields #[.ref l0,.int 0 0]}
noncomputable abbrev K3(h:Heap)(l0 l1:Addr):Heap:=(K2 h l0).push {cls:=.type "tuple_iterator",data:=.fields #[.ref l1,.int 0 0]}
noncomputable abbrev K4(h:Heap)(l0 l1 l2:Addr):Heap:=(K3 h l0 l1).push {cls:=.type "tuple_iterator",data:=.fields #[.ref l2,.int 0 0]}
noncomputable abbrev K5(h:Heap)(l0 l1 l2:Addr):Heap:=(K4 h l0 l1 l2).push {cls:=.type "tuple",data:=.seq #[.ref h.objs.size,.ref (K2 h l0).objs.size,.ref (K3 h l0 l1).objs.size]}
noncomputable abbrev K6(h:Heap)(l0 l1 l2:Addr):Heap:=(K5 h l0 l1 l2).push {cls:=.type "tuple",data:=.seq #[.none,.none,.none]}
noncomputable abbrev xr(h:Heap)(l0 l1 l2:Addr):Heap:=(K6 h l0 l1 l2).push {cls:=.type "zip",data:=.fields #[.none,.bool false,.bool false,.ref (K4 h l0 l1 l2).objs.size,.ref (K5 h l0 l1 l2).objs.size]}
theorem Bp(l0 l1 l2:Addr)(Bh Bi Q9:Array Value):Meets (Builtin.«zip.__new__» {[.type "zip",.ref l0,.ref l1,.ref l2],[]}) (λ_ R s=>s.heap.IsTuple l0 Bh/\s.heap.IsTuple l1 Bi/\s.heap.IsTuple l2 Q9/\R (.ok<|.ret<|.ref (K6 s.heap l0 l1 l2).objs.size) {s with heap:=xr s.heap l0 l1 l2}):=.of_wp λprog w A R s h=>by obtain⟨hp,g,d,tk,os⟩:=s;obtain⟨t0,t1,t2,h⟩:=h;have XY:=sub_zip;have L0:Heap.IsTuple (Shared.heap ⟨hp,g,d,tk,os⟩) l0 Bh:=t0;have L1:Heap.IsTuple (Shared.heap {hp.push {cls:=.type "tuple_iterator",data:=.fields #[.ref l0,.int 0 0]},g,d,tk,os}) l1 Bi:=Heap.IsTuple.push (t1) _;have L2:Heap.IsTuple (Shared.heap {(hp.push {cls:=.type "tuple_iterator",data:=.fields #[.ref l0,.int 0 0]}).push {cls:=.type "tuple_iterator",data:=.fields #[.ref l1,.int 0 0]},g,d,tk,os}) l2 Q9:=Heap.IsTuple.push (Heap.IsTuple.push (t2) _) _;wp_walk using wpAny_pyIter_tuple L0,wpAny_pyIter_tuple L1,wpAny_pyIter_tuple L2;exact{_,rfl,h}
theorem Bq(a0 a1 a2:Value):checkTypeCall "zip" {[a0,a1,a2],[]}=pure ():=by kernel_rfl
theorem Br(a0 a1 a2:Value):checkBuiltinCall "zip.__new__" {[.type "zip",a0,a1,a2],[]}=pure ():=by kernel_rfl
theorem Pk(x a0 a1 a2:Value):argsOk "object.__init__" {[x,a0,a1,a2],[]}:=by unfold argsOk;rw[signature?_of (id:="object.__init__") (n:=['_','_','t','i','n','i','_','_']) (o:=['t','c','e','j','b','o']) (by kernel_rfl) F.owner_object];kernel_rfl
theorem Bs(t0:s.heap.IsTuple l0 Bh)(t1:s.heap.IsTuple l1 Bi)(t2:s.heap.IsTuple l2 Q9) (h:∀h',ZS3 s.heap.objs.size l0 l1 l2 0 h'->(∀c o,s.heap.get? c=some o->h'.get? c=some o)->Q (.ref<|s.heap.objs.size+5) {s with heap:=h'}):wpAny (model prog w) A (call (.type "zip") [.ref l0,.ref l1,.ref l2]) Q E s:=by
 refine callType_new F.called_zip (by decide) (Bq _ _ _) (Br _ _ _) (λobj=>Pk obj _ _ _) F.entry_zip_new (Bp l0 l1 l2 Bh Bi Q9) {t0,t1,t2,?_};have z1:(K2 s.heap l0).objs.size=s.heap.objs.size+1:=yc ..;have z2:(K3 s.heap l0 l1).objs.size=s.heap.objs.size+2:=by rw[yc,z1]
 have z3:(K4 s.heap l0 l1 l2).objs.size=s.heap.objs.size+3:=by rw[yc,z2]
 have z4:(K5 s.heap l0 l1 l2).objs.size=s.heap.objs.size+4:=by rw[yc,z3]
 have z5:(K6 s.heap l0 l1 l2).objs.size=s.heap.objs.size+5:=by rw[yc,z4]
 have z6:(xr s.heap l0 l1 l2).objs.size=s.heap.objs.size+6:=by rw[yc,z5]
 have g0:(xr s.heap l0 l1 l2).get? (s.heap).objs.size=some _:=za _<|za _<|za _<|za _<|za _<|zk _ rfl;have g1:(xr s.heap l0 l1 l2).get? (K2 s.heap l0).objs.size=some _:=za _<|za _<|za _<|za _<|zk _ rfl;have g2:(xr s.heap l0 l1 l2).get? (K3 s.heap l0 l1).objs.size=some _:=za _<|za _<|za _<|zk _ rfl;have g3:(xr s.heap l0 l1 l2).get? (K4 s.heap l0 l1 l2).objs.size=some _:=za _<|za _<|zk _ rfl;have g4:(xr s.heap l0 l1 l2).get? (K5 s.heap l0 l1 l2).objs.size=some _:=za _<|zk _ rfl;have g5:(xr s.heap l0 l1 l2).get? (K6 s.heap l0 l1 l2).objs.size=some _:=zk _ rfl;show _/\_;rw[z3,z4,z5]at g5;rw[z4]at g4;rw[z1,z2,z3]at g3;rw[z1]at g1;rw[z2]at g2;rw[z5];exact{{_,g5,rfl},h _ {g5,g3,!⟨g4⟩,{_,g0,rfl,rfl},{_,g1,rfl,rfl},{_,g2,rfl,rfl}} λc o x=>za _<|za _<|za _<|za _<|za _<|za _ x}
theorem Vals.three(h:Vals [x,y,z] us):∃u v w,us=[u,v,w]/\RelV x u/\RelV y v/\RelV z w:=by cases h with|cons r h=>cases h with|cons q h=>cases h with|cons p h=>cases h;exact{_,_,_,rfl,r,q,p}
section
variable{X:Cx}
def K7:V->List V->Hp->VK->Prop:=λx vs H Q=>∃z y,x=.str z/\vs=[.str y]/\Q (.bl<|PySem.Txt.startswith z y) H
theorem sY:Q2 X "str.startswith" K7:=by intro pins s σ H x vs v us Q I rx rv h;obtain⟨z,y,rfl,rfl,q⟩:=h;obtain⟨t,rfl⟩:=rx;obtain⟨u,rfl,ru⟩:=rv.one;obtain⟨t',rfl⟩:=ru;exact PySem.SC.startswith {.bl _,H,I,rfl,q}
def X0:V->Option Int->Option Int->Hp->VK->Prop:=λx lo hi H Q=>∃z,x=.str z/\z.length<=sizeLine/\Q (.str<|PySem.Txt.slice z lo hi) H
theorem Pl:Q1 X X0:=by intro pins s σ H x v vl vu lo hi sl Q I rx hs pl pu h;obtain⟨z,rfl,hz,q⟩:=h;obtain⟨t,rfl⟩:=rx;obtain⟨o,e1,e2,e3⟩:=hs;refine{"str",_,F.slot_str_getitem.lookup,typeIs_str _ _ _,?_};have fin:∀k,∀t':Tok,EP X pins σ Q (.str (PySem.Txt.slice z lo hi) t') {s with toks:=k}:=λk t'=>{.str _,H,I.tok k,{_,rfl},q};cases pl with|none=>(cases pu with|none=>exact wpAny_getItem_str_slice (l:=none) (u:=none) (st:=none) ⟨o,e1,e2,e3⟩ rfl (post_val_or_str {zH (Txt.slice_le z _ _) hz,λt' k=>fin k t'})|int j uj=>exact wpAny_getItem_str_slice (l:=none) (u:=some (j,uj)) (st:=none) ⟨o,e1,e2,e3⟩ rfl<|post_val_or_str {zH (Txt.slice_le z _ _) hz,λt' k=>fin k t'})|int i ui=>cases pu with|none=>exact wpAny_getItem_str_slice (l:=some (i,ui)) (u:=none) (st:=none) ⟨o,e1,e2,e3⟩ rfl (post_val_or_str {zH (Txt.slice_le z _ _) hz,λt' k=>fin k t'})|int j uj=>exact wpAny_getItem_str_slice (l:=some (i,ui)) (u:=some (j,uj)) (st:=none) ⟨o,e1,e2,e3⟩ rfl<|post_val_or_str {zH (Txt.slice_le z _ _) hz,λt' k=>fin k t'}
end
end L2
namespace L2
open PySem PySem.Spec PyProof.Rows PySem.SeqAt
end L2
namespace L2
open PySem PySem.Spec PyProof.Rows
theorem ve(l:Addr)(items:Array Value)(n:Nat)(b:Addr)(qL:Array Value)(n2:Nat)(sl:Array<|Option Value)(Q_:¬(!items.isEmpty&&Builtin.List.listTooLong (items.size+qL.size))=true)(hs1:items.size<=sizeLine)(uY:items.size+qL.size<=sizeLine+1): Meets (Builtin.«list.extend» {[.ref l,.ref b],[]}) (λ_ R s=>s.heap.get? l=some {cls:=.type "list",dict:=none,data:=.seq items n,slots:=#[]}/\s.heap.get? b=some {cls:=.type "tuple",dict:=none,data:=.seq qL n2,slots:=sl}/\R (.ok<|.ret Value.none) {s with heap:=s.heap.update l<|Obj.mapSeq λx=>x++qL,toks:=s.toks}):=.of_wp λprog w A R s h=>by
 obtain⟨hp,g,d,tk,os⟩:=s;obtain⟨hl,hb,h⟩:=h;have f1:=AutoSeq1.idx_int;have f2:=AutoSeq1.sub_tuple_tuple;have f3:=AutoSeq1.sub_list_list;have f4:=AutoSeq1.sub_tuple_list;have f5:=AutoSeq1.sub_list_tuple;have X1:(items++qL).size<=sizeLine+1:=by rw[Array.size_append];exact uY
 wp_walk using (wpAny_updateSeq hl rfl (hz:=hs1) (_hz':=X1)),AutoSeq1.wpAny_loadPart' hl,AutoSeq1.wpAny_loadPart' hb;exact{_,rfl,h}
section
variable{X:Cx}{K:Frag}
def Hg:V->List V->Hp->VK->Prop:=λx vs H Q=>∃l b xs zs,x=.ref l/\vs=[.ref b]/\H l=some (.lst xs)/\H b=some (.tup zs)/\xs.length+zs.length<=sizeLine/\Q .av (upd H l<|.lst<|xs++zs)
theorem Bu:Ss X "list.extend" Hg:=by
 intro pins s σ H x vs v us Q I rx rv h;obtain⟨l,b,xs,zs,rfl,rfl,hH,hB,hz,q⟩:=h;cases rx;obtain⟨u,rfl,ru⟩:=rv.one;cases ru;obtain⟨z,az,n,r,hl,e⟩:=I.xb hH;obtain⟨z2,sS,r2,⟨c2,d2,dt2,SS⟩,e2,ec,ed,n2,en⟩:=(show bt X.prog X.w H s.heap b (.tup zs) from I.aJ b _ hB);dsimp only at ec ed en;subst ec ed en;have FZ:=r2.length;have hsz:az.toArray.size+sS.toArray.size<=sizeLine:=by rw[zp,zp];lia
 have Th:¬(!az.toArray.isEmpty&&Builtin.List.listTooLong (az.toArray.size+sS.toArray.size))=true:=by rw[GO hsz,Bool.and_false];exact zd
 refine call_meets F.slot_list_extend {_,e,rfl} F.entry_list_extend (F.args_list_extend_2 _ _) (ve l az.toArray n b sS.toArray n2 SS Th (by rw[zp];lia)<|by lia) {e,e2,?_};refine{.av,_,I.GN (its':=az++sS) hH e (by simp) (r.append r2) ?_,rfl,q};rw[zC];lia
theorem xt(ns:List Int):∀n,preSum (λi=>(ns[i]?).getD 0) n=(ns.take n).sum|0=>rfl|n+1=>by show preSum _ n+_=_;rw[xt ns n,List.take_add_one,List.sum_append];cases h:ns[n]?<;>simp[h]
theorem Pm:bootBuiltins "sum"= some (.builtin "sum"):=PyProof.Rows.Boot.«sum»
theorem EN(hK:X.K=K)(hc:X.calm=true):ee X (.builtin "sum") (λxs H Q=>∃(a:Addr)(ns:List Int),xs=[.ref a]/\iW K H a (ns.map V.int)/\Q (.int ns.sum) H):=by
 subst hK;intro pins s σ H xs us Q I r h;obtain⟨a,ns,rfl,hq,q⟩:=h;obtain⟨u,rfl,ru⟩:=vals1 r;cases ru;obtain⟨az,rv,p,hz⟩:=I.list hq;have hl:=rv.length;rw[zb]at hl;refine call_sum_walkG<|wpAny_pyIter_list p.isList ?_;refine{s.heap.objs.size,_,_,_,_,_,λi=>(ns[i]?).getD 0,rfl,Walks.list (A:=X.A.in1) (I.ok.hd hc) s.heap.objs.size a (zA p.lt) az.toArray,{{_,zk _ rfl,rfl,rfl},p.isList.at λo e=>za _ e},?_,?_,λh' tk t' hk=>?_};intro b hb;simp only[zj,zM,or_false]at hb;rcases hb with rfl|rfl;simp[Heap.push];exact zq p.lt (by simp[Heap.push]);intro i v hv;have MI:az[i]?=some v:=by simpa using hv
 cases hn:ns[i]? with|none=>(have h1:=(List.getElem?_eq_none_iff.mp hn);rw[List.getElem?_eq_none<|by lia]at MI;cases MI)|some k=>obtain⟨u',hu',XZ⟩:=rv.get (i:=i) (x:=.int k) (by rw[zi,hn];rfl);rw[MI]at hu';cases hu';obtain⟨t0,rfl⟩:=XZ;exact{t0,by simp[hn]}
 have e:az.toArray.size=ns.length:=by rw[zp,<-hl]
 rw[e,xt,yG];exact{.int ns.sum,H,I.kept (h':=h') (t':=tk) λb o e=>hk b o (by simpa using zA (zt e))<|za _ e,{_,rfl},q}
theorem CZ(v:Value):∀(n:Nat)(acc:List Value),List.foldl (λx1 x2=>x1++x2) acc.toArray (List.replicate n #[v])=(acc++List.replicate n v).toArray|0,acc=>by simp|n+1,acc=>by rw[List.replicate_succ,yJ,show acc.toArray++#[v]=(acc++[v]).toArray by simp,CZ v n,List.append_assoc];rfl
theorem xu(r:RelV x v):∀n,Vals (List.replicate n x) (List.replicate n v)|0=>.nil|n+1=>.cons r<|xu r n
end
set_option genInjectivity true in
set_option genSizeOfSpec true in
inductive D where
 |av|bl (b:Bool)|int (i:Int)|str (x:Str)|tup (ds:List D)|jO (ds:List D)|kt (ds:List D)|ref (a:Addr)|ty (n:String)
def X2(K:Frag)(a:Addr)(xs:List V):Prop:=∃(o:Obj)(az:Array Value)(n:Nat),K.lookup a=some o/\o.cls=.type "tuple"/\o.data=.seq az n/\az.size<=sizeLine/\Vals xs az.toList
def MT(K:Frag)(H:Hp)(a:Addr)(xs:List V):Prop:=(∃o,H a=some (.kL o<|.lst xs))\/∃(o:Obj)(az:Array Value)(n:Nat),K.lookup a=some o/\o.cls=.type "list"/\o.dict=none/\o.data=.seq az n/\az.size<=sizeLine/\Vals xs az.toList
theorem MT.sq{K:Frag}{H:Hp}{a:Addr}{xs:List V}(h:MT K H a xs):iW K H a xs:=by rcases h with h|h;exact .inl<|.inr h;exact .inr h
structure Kp(K:Frag)(H H':Hp):Prop where
 t:∀a xs,H a=some (.tup xs)->H' a=some (.tup xs)
 r:∀a xs,MT K H a xs->MT K H' a xs
 f:∀a o u,H a=some (.kL o u)->H' a=some (.kL o u)
theorem Kp.refl{K:Frag}(H:Hp):Kp K H H:={λ_ _ h=>h,λ_ _ h=>h,λ_ _ _ h=>h}
theorem Kp.trans{K:Frag}{H H1 H2:Hp}(a:Kp K H H1)(b:Kp K H1 H2):Kp K H H2:={λp xs h=>b.t p xs<|a.t p xs h,λp xs h=>b.r p xs<|a.r p xs h,λp o u h=>b.f p o u<|a.f p o u h}
theorem Kp.of{K:Frag}{H H':Hp}(h:∀b o,H b=some o->H' b=some o\/(∀xs,o≠.tup xs)/\∀u v,o≠.kL u v):Kp K H H' where
 t:=λa xs q=>(h _ _ q).resolve_right λz=>z.1 _ rfl
 r:=λa xs q=>by
  rcases q with⟨o,q⟩|q
  ·exact .inl {o,(h _ _ q).resolve_right λz=>z.2 _ _ rfl}
  ·exact .inr q
 f:=λa o u q=>(h _ _ q).resolve_right λz=>z.2 _ _ rfl
theorem Kp.new{K:Frag}{H:Hp}{a:Addr}{o:HO}(h:H a=none):Kp K H (upd H a o):=.of λb u e=>.inl<|by rw[ax<|aD e h];exact e
theorem Kp.put{K:Frag}{H:Hp}{a:Addr}{o u:HO}(h:H a=some o)(h1:∀xs,o≠.tup xs)(h2:∀u v,o≠.kL u v):Kp K H (upd H a u):=.of λb v e=>by by_cases q:b=a;subst q;rw[h]at e;cases e;exact .inr ⟨h1,h2⟩;exact .inl<|by rw[ax q];exact e
mutual
def Rv(K:Frag)(H:Hp):D->V->Prop|.av,v=>v=.av|.bl b,v=>v=.bl b|.int i,v=>v=.int i|.str z,v=>v=.str z|.tup ds,v=>∃a xs,v=.ref a/\H a=some (.tup xs)/\RvAll K H ds xs|.jO ds,v=>∃a xs,v=.ref a/\MT K H a xs/\RvAll K H ds xs|.kt ds,v=>∃a xs,v=.ref a/\X2 K a xs/\RvAll K H ds xs|.ref a,v=>v=.ref a|.ty n,v=>v=.ty n
def RvAll(K:Frag)(H:Hp):List D->List V->Prop|[],xs=>xs=[]|d::ds,xs=>∃y ys,xs=y::ys/\Rv K H d y/\RvAll K H ds ys
end
section
variable{K:Frag}{H H':Hp}
theorem fe:Rv K H .av .av:=by simp only[Rv]
theorem bW(b:Bool):Rv K H (.bl b) (.bl b):=by simp only[Rv]
theorem aN(i:Int):Rv K H (.int i) (.int i):=by simp only[Rv]
theorem i7(z:Str):Rv K H (.str z) (.str z):=by simp only[Rv]
theorem fg(a:Addr):Rv K H (.ref a) (.ref a):=by simp only[Rv]
theorem Tj(n:String):Rv K H (.ty n) (.ty n):=by simp only[Rv]
theorem MU(h:X2 K a xs)(t:RvAll K H ds xs):Rv K H (.kt ds) (.ref a):=by simp only[Rv];exact⟨a,xs,rfl,h,t⟩
theorem nr(h:H a=some (.tup xs))(t:RvAll K H ds xs):Rv K H (.tup ds) (.ref a):=by simp only[Rv];exact⟨a,xs,rfl,h,t⟩
theorem Hh(h:MT K H a xs)(t:RvAll K H ds xs):Rv K H (.jO ds) (.ref a):=by simp only[Rv];exact⟨a,xs,rfl,h,t⟩
theorem Rv.av(h:Rv K H .av v):v=.av:=by simpa only[Rv]using h
theorem Rv.bl(h:Rv K H (.bl b) v):v=.bl b:=by simpa only[Rv]using h
theorem Rv.int(h:Rv K H (.int i) v):v=.int i:=by simpa only[Rv]using h
theorem Rv.str(h:Rv K H (.str z) v):v=.str z:=by simpa only[Rv]using h
theorem Rv.ref(h:Rv K H (.ref a) v):v=.ref a:=by simpa only[Rv]using h
theorem Rv.ty(h:Rv K H (.ty n) v):v=.ty n:=by simpa only[Rv]using h
theorem Rv.kt(h:Rv K H (.kt ds) v):∃a xs,v=.ref a/\X2 K a xs/\RvAll K H ds xs:=by simpa only[Rv]using h
theorem Rv.tup(h:Rv K H (.tup ds) v):∃a xs,v=.ref a/\H a=some (.tup xs)/\RvAll K H ds xs:=by simpa only[Rv]using h
theorem Rv.jO(h:Rv K H (.jO ds) v):∃a xs,v=.ref a/\MT K H a xs/\RvAll K H ds xs:=by simpa only[Rv]using h
theorem bx:RvAll K H [] []:=by simp only[RvAll]
theorem aO(h:Rv K H d x)(t:RvAll K H ds xs):RvAll K H (d::ds) (x::xs):=by simp only[RvAll];exact⟨x,xs,rfl,h,t⟩
theorem RvAll.nil(h:RvAll K H [] xs):xs=[]:=by simpa only[RvAll]using h
theorem RvAll.cons(h:RvAll K H (d::ds) xs):∃y ys,xs=y::ys/\Rv K H d y/\RvAll K H ds ys:=by simpa only[RvAll]using h
mutual
theorem Rv.ts(s:Kp K H H'):∀(d:D){v:V},Rv K H d v->Rv K H' d v|.av,v,h=>by simpa only[Rv]using h|.bl b,v,h=>by simpa only[Rv]using h|.int i,v,h=>by simpa only[Rv]using h|.str z,v,h=>by simpa only[Rv]using h|.tup ds,v,h=>(by obtain⟨a,xs,rfl,e,t⟩:=h.tup;exact nr (s.t _ _ e)<|RvAll.ts s ds t)|.jO ds,v,h=>(by obtain⟨a,xs,rfl,e,t⟩:=h.jO;exact Hh (s.r _ _ e)<|RvAll.ts s ds t)|.kt ds,v,h=>(by obtain⟨a,xs,rfl,e,t⟩:=h.kt;exact MU e<|RvAll.ts s ds t)|.ref a,v,h=>by simpa only[Rv]using h|.ty n,v,h=>by simpa only[Rv]using h
theorem RvAll.ts(s:Kp K H H'):∀(ds:List D){xs:List V},RvAll K H ds xs->RvAll K H' ds xs|[],xs,h=>by rw[h.nil];exact bx|d::ds,xs,h=>by obtain⟨y,ys,rfl,h1,h2⟩:=h.cons;exact aO (Rv.ts s d h1)<|RvAll.ts s ds h2
end
theorem RvAll.len:∀{ds:List D}{xs:List V},RvAll K H ds xs->xs.length=ds.length|[],xs,h=>by rw[h.nil];rfl|d::ds,xs,h=>by obtain⟨y,ys,rfl,_,h2⟩:=h.cons;rw[zQ,zQ,h2.len]
theorem RvAll.get:∀{ds:List D}{xs:List V}{i:Nat}{d:D},RvAll K H ds xs->ds[i]?=some d->∃v,xs[i]?=some v/\Rv K H d v|[],xs,i,d,h,e=>by simp at e|d0::ds,xs,0,d,h,e=>(by obtain⟨y,ys,rfl,h1,h2⟩:=h.cons;simp at e;subst e;exact⟨y,rfl,h1⟩)|d0::ds,xs,i+1,d,h,e=>by obtain⟨y,ys,rfl,h1,h2⟩:=h.cons;obtain⟨v,e1,e2⟩:=h2.get (i:=i) (by simpa using e);exact{v,by simpa using e1,e2}
theorem RvAll.app:∀{ds es:List D}{xs ys:List V},RvAll K H ds xs->RvAll K H es ys->RvAll K H (ds++es) (xs++ys)|[],es,xs,ys,h,k=>by rw[h.nil];exact k|d::ds,es,xs,ys,h,k=>by obtain⟨y,zs,rfl,h1,h2⟩:=h.cons;exact aO h1<|h2.app k
theorem RvAll.take:∀{ds:List D}{xs:List V}(n:Nat),RvAll K H ds xs->RvAll K H (ds.take n) (xs.take n)|[],xs,n,h=>by rw[h.nil];simp only[List.take_nil];exact bx|d::ds,xs,0,h=>by simp only[List.take_zero];exact bx|d::ds,xs,n+1,h=>by obtain⟨y,zs,rfl,h1,h2⟩:=h.cons;exact aO h1<|h2.take n
theorem RvAll.drop:∀{ds:List D}{xs:List V}(n:Nat),RvAll K H ds xs->RvAll K H (ds.drop n) (xs.drop n)|[],xs,n,h=>by rw[h.nil];simp only[List.drop_nil];exact bx|d::ds,xs,0,h=>h|d::ds,xs,n+1,h=>by obtain⟨y,zs,rfl,h1,h2⟩:=h.cons;exact h2.drop n
theorem RvAll.set:∀{ds:List D}{xs:List V}{d:D}{v:V}(n:Nat),RvAll K H ds xs->Rv K H d v->RvAll K H (ds.set n d) (xs.set n v)|[],xs,d,v,n,h,r=>by rw[h.nil];exact bx|d0::ds,xs,d,v,0,h,r=>(by obtain⟨y,zs,rfl,h1,h2⟩:=h.cons;exact aO r h2)|d0::ds,xs,d,v,n+1,h,r=>by obtain⟨y,zs,rfl,h1,h2⟩:=h.cons;exact aO h1<|h2.set n r
theorem RvAll.erase:∀{ds:List D}{xs:List V}(n:Nat),RvAll K H ds xs->RvAll K H (ds.eraseIdx n) (xs.eraseIdx n)|[],xs,n,h=>by rw[h.nil];exact bx|d::ds,xs,0,h=>(by obtain⟨y,zs,rfl,h1,h2⟩:=h.cons;exact h2)|d::ds,xs,n+1,h=>by obtain⟨y,zs,rfl,h1,h2⟩:=h.cons;exact aO h1<|h2.erase n
theorem RvAll.dropLast:∀{ds:List D}{xs:List V},RvAll K H ds xs->RvAll K H ds.dropLast xs.dropLast|[],xs,h=>by rw[h.nil];exact bx|[d],xs,h=>(by obtain⟨y,zs,rfl,h1,h2⟩:=h.cons;rw[h2.nil];exact bx)|d::e::ds,xs,h=>by obtain⟨y,zs,rfl,h1,h2⟩:=h.cons;obtain⟨y2,zs2,rfl,h3,h4⟩:=id h2.cons;exact aO h1<|RvAll.dropLast h2
theorem RvAll.bools:∀{bs:List Bool}{xs:List V},RvAll K H (bs.map D.bl) xs->xs=bs.map V.bl|[],xs,h=>h.nil|b::bs,xs,h=>by obtain⟨y,ys,rfl,h1,h2⟩:=h.cons;rw[h1.bl,h2.bools];rfl
theorem RvAll.ints:∀{bs:List Int}{xs:List V},RvAll K H (bs.map D.int) xs->xs=bs.map V.int|[],xs,h=>h.nil|b::bs,xs,h=>by obtain⟨y,ys,rfl,h1,h2⟩:=h.cons;rw[h1.int,h2.ints];rfl
theorem RvAll.strs:∀{bs:List Str}{xs:List V},RvAll K H (bs.map D.str) xs->xs=bs.map V.str|[],xs,h=>h.nil|b::bs,xs,h=>by obtain⟨y,ys,rfl,h1,h2⟩:=h.cons;rw[h1.str,h2.strs];rfl
theorem C4:∀(bs:List Int),RvAll K H (bs.map D.int) (bs.map V.int)|[]=>bx|b::bs=>aO (aN b)<|C4 bs
theorem vf:∀(bs:List Str),RvAll K H (bs.map D.str) (bs.map V.str)|[]=>bx|b::bs=>aO (i7 b)<|vf bs
def bX{κ:Type}(K:Frag)(H:Hp):List (κ×D)->List (κ×V)->Prop:=Paired λp q=>p.1=q.1/\Rv K H p.2 q.2
theorem bX.ts(s:Kp K H H'):∀{ks:List (κ×D)}{vs:List (κ×V)},bX K H ks vs->bX K H' ks vs|_,_,.nil=>.nil|_,_,.cons r t=>.cons {r.1,Rv.ts s _ r.2}<|bX.ts s t
theorem bX.look(h:bX K H ks vs)(f:Str):(∀d,ks.lookup f=some d->∃v,vs.lookup f=some v/\Rv K H d v)/\(ks.lookup f=none->vs.lookup f=none):=by induction h with|nil=>(exact{λd e=>(by cases e),λ_=>rfl})|@cons a b l m r t ih=>obtain⟨k,d⟩:=a;obtain⟨k',v⟩:=b;obtain⟨rfl,r⟩:=r;simp only[yf];cases q:f==k with|true=>(exact{λd' e=>{v,rfl,(by cases e;exact r)},λe=>(by cases e)})|false=>exact ih
end
set_option genInjectivity true in
set_option genSizeOfSpec true in
inductive Ce where
 |lst (ds:List D)|c_ (kvs:List<|Key×D)|ins (c:Addr) (fs:List<|Str×D)|well|exc (c:Addr)|tab (q:Str)
def C5(H:Hp)(q:Str)(ps:Array Value):Prop:=TriplesOk ps.toList/\∀pos cv,codeAmong pos ps.toList=some cv->∃c o vs t,cv=.ref c/\H c=some (.kL o<|.own 0)/\o.data=.fields vs/\vs[1]?=some (.str q t)
abbrev aw:=Addr->Option Ce
noncomputable def aw.set(S:aw)(a:Addr)(c:Ce):aw:=λb=>if b=a then some c else S b
theorem aa{S:aw}{a:Addr}{c:Ce} : S.set a c a=some c:=by unfold aw.set;rw[if_pos rfl]
theorem ag{S:aw}{a b:Addr}{c:Ce}(h:b≠a):S.set a c b=S b:=by unfold aw.set;rw[if_neg h]
theorem dw{S:aw}{a:Addr}{c e:Ce} : (S.set a c).set a e=S.set a e:=by funext b;unfold aw.set;split<;>rfl
theorem gq{S:aw}{a b:Addr}{c:Ce}(h:S a=some c)(h':S b=none):a≠b:=by intro e;subst e;rw[h]at h';cases h'
def Rc(K:Frag)(H:Hp)(a:Addr):Ce->Prop|.lst ds=>∃xs,H a=some (.lst xs)/\RvAll K H ds xs|.c_ kvs=>∃vs,H a=some (.dK vs)/\bX K H kvs vs|.ins c fs=>∃dx vs,H a=some (.ins c dx vs)/\bX K H fs vs|.well=>∃x y z:Int,H a=some (.lst [.int x,.int y,.int z])|.exc c=>H a=some (XO a<|.ref c)|.tab q=>∃ps,H a=some (.pT ps)/\C5 H q ps
def Rs(K:Frag)(S:aw)(H:Hp):Prop:=∀a c,S a=some c->Rc K H a c
section
variable{K:Frag}{H H':Hp}{S:aw}{a b:Addr}{c:Ce}
theorem Rc.has(h:Rc K H a c):∃o,H a=some o/\(∀xs,o≠.tup xs)/\∀u v,o≠.kL u v:=by cases c with|lst ds=>(obtain⟨xs,e,_⟩:=h;exact{_,e,λ_=>nofun,λ_ _=>nofun})|c_ ds=>(obtain⟨xs,e,_⟩:=h;exact{_,e,λ_=>nofun,λ_ _=>nofun})|ins c fs=>(obtain⟨dx,vs,e,_⟩:=h;exact{_,e,λ_=>nofun,λ_ _=>nofun})|well=>(obtain⟨x,y,z,e⟩:=h;exact{_,e,λ_=>nofun,λ_ _=>nofun})|exc c=>exact{_,h,λ_=>nofun,λ_ _=>nofun}|tab q=>obtain⟨ps,e,_⟩:=h;exact{_,e,λ_=>nofun,λ_ _=>nofun}
theorem Rc.keep(h:Rc K H a c)(e:∀o,H a=some o->H' a=some o)(s:Kp K H H'):Rc K H' a c:=by cases c with|lst ds=>(obtain⟨xs,e1,r⟩:=h;exact{xs,e _ e1,RvAll.ts s _ r})|c_ ds=>(obtain⟨xs,e1,r⟩:=h;exact{xs,e _ e1,r.ts s})|ins c fs=>(obtain⟨dx,vs,e1,r⟩:=h;exact{dx,vs,e _ e1,r.ts s})|well=>(obtain⟨x,y,z,e1⟩:=h;exact{x,y,z,e _ e1})|exc c=>exact e _ h|tab q=>obtain⟨ps,e1,r,r2⟩:=h;exact{ps,e _ e1,r,λpos cv z=>by obtain⟨c,o,vs,t,z1,z2,z3⟩:=r2 pos cv z;exact{c,o,vs,t,z1,s.f _ _ _ z2,z3}}
theorem Rs.fresh(h:Rs K S H)(e:H a=none):S a=none:=by cases q:S a with|none=>rfl|some c=>obtain⟨o,e1,_⟩:=(h a c q).has;rw[e]at e1;cases e1
theorem Rs.new(h:Rs K S H)(e:H a=none){o:HO}(r:Rc K (upd H a o) a c):Rs K (S.set a c) (upd H a o):=λb x hb=>by by_cases q:b=a;subst q;rw[aa]at hb;cases hb;exact r;rw[ag q]at hb;exact(h b x hb).keep (λo e1=>by rw[ax q];exact e1)<|Kp.new e
theorem Rs.grow(h:Rs K S H)(e:H a=none):Rs K S (upd H a o):=λb x hb=>by obtain⟨u,e1,_⟩:=(h b x hb).has;have q:b≠a:=aD e1 e;exact(h b x hb).keep (λo e1=>by rw[ax q];exact e1)<|Kp.new e
theorem Rs.g_(h:Rs K S H)(ha:S a=some e):Kp K H (upd H a o):=by obtain⟨u,e1,n1,n2⟩:=(h a e ha).has;exact Kp.put e1 n1 n2
theorem Rs.put(h:Rs K S H){e:Ce}(ha:S a=some e){o:HO}(r:Rc K (upd H a o) a c):Rs K (S.set a c) (upd H a o):=λb x hb=>by by_cases q:b=a;subst q;rw[aa]at hb;cases hb;exact r;rw[ag q]at hb;exact(h b x hb).keep (λo e1=>by rw[ax q];exact e1)<|h.g_ ha
theorem Rs.lst(h:Rs K S H)(e:S a=some (.lst ds)):∃xs,H a=some (.lst xs)/\RvAll K H ds xs:=h a _ e
theorem Rs.c_(h:Rs K S H)(e:S a=some (.c_ ds)):∃xs,H a=some (.dK xs)/\bX K H ds xs:=h a _ e
theorem Rs.ins{c:Addr}{fs:List<|Str×D}(h:Rs K S H)(e:S a=some (.ins c fs)):∃dx vs,H a=some (.ins c dx vs)/\bX K H fs vs:=h a _ e
end
abbrev KD:=D->aw->Prop
abbrev KX:=Addr->aw->Prop
abbrev SD:=List<|Option D
def hG(K:Frag)(H:Hp):SD->St->Prop:=Paired λ(o:Option D)(u:Option V)=>∀d,o=some d->∃v,u=some v/\Rv K H d v
section
variable{K:Frag}{H H':Hp}
theorem hG.ts(s:Kp K H H'):∀{σ:SD}{τ:St},hG K H σ τ->hG K H' σ τ|_,_,.nil=>.nil|_,_,.cons r t=>.cons (λd e=>by obtain⟨v,e1,r1⟩:=r d e;exact{v,e1,Rv.ts s _ r1})<|hG.ts s t
theorem hG.get:∀{σ:SD}{τ:St}{i:Nat}{d:D},hG K H σ τ->σ[i]?=some (some d)->∃v,τ[i]?=some (some v)/\Rv K H d v|_,_,i,d,.nil,e=>by simp at e|_,_,0,d,.cons r t,e=>(by simp at e;obtain⟨v,e1,r1⟩:=r d e;exact{v,by simp[e1],r1})|_,_,i+1,d,.cons r t,e=>by obtain⟨v,e1,r1⟩:=hG.get (i:=i) t (by simpa using e);exact{v,by simpa using e1,r1}
theorem hG.set:∀{σ:SD}{τ:St}(i:Nat){d:D}{v:V},hG K H σ τ->Rv K H d v->hG K H (σ.set i<|some d) (τ.set i<|some v)|_,_,i,d,v,.nil,r=>.nil|_,_,0,d,v,.cons r t,q=>(.cons (λd' e=>by cases e;exact⟨v,rfl,q⟩) t)|_,_,i+1,d,v,.cons r t,q=>.cons r<|hG.set i t q
theorem qM:∀(n:Nat)(τ:St),τ.length=n->hG K H (List.replicate n none) τ|0,[],_=>.nil|n+1,_::τ,h=>.cons (λd e=>by cases e)<|qM n τ<|by simpa using h
theorem qN:∀{ds:List D}{vs:List V},RvAll K H ds vs->hG K H (ds.map some) (vs.map some)|[],vs,h=>by rw[h.nil];exact .nil|d::ds,vs,h=>by obtain⟨y,ys,rfl,h1,h2⟩:=h.cons;exact .cons (λd' e=>by cases e;exact⟨y,rfl,h1⟩)<|qN h2
theorem hG.app:∀{σ aB:SD}{τ Rb:St},hG K H σ τ->hG K H aB Rb->hG K H (σ++aB) (τ++Rb)|_,_,_,_,.nil,h=>h|_,_,_,_,.cons r t,h=>.cons r<|hG.app t h
end
structure Rdy(Y:Cx)(E:St->XK)(b:Bool):Prop where
 call:∀p2 τ H s e s',Inv Y p2 τ H s->fc Y.prog Y.w Y.mg Y.stack H s (E τ) e s'->Y.xe e s'
 own:b=true->∀p2 τ H s h' a cls args,Inv Y p2 τ H s->Heap.MadeExcOf s.heap h' a cls args->E τ cls none H->Y.xe (.ref a) {s with heap:=h'}
 loop:b=true->PassesOwn (model Y.prog Y.w) Y.A Y.env Y.xe
structure Ev(X:Cx)(b:Bool) where
 pn:List (Addr×Obj)
 xe:Value->Shared->Prop
 E:St->XK
 ok:Rdy {X with pn:=pn,xe:=xe} E b
noncomputable abbrev Ev.cx{X:Cx}{b:Bool}(y:Ev X b):Cx:={X with pn:=y.pn,xe:=y.xe}
def Cn(K:Frag)(H:Hp)(R:KD)(Q:VK):Prop:=∀d S v H',R d S->Rv K H' d v->Rs K S H'->Kp K H H'->Q v H'
def EO(K:Frag)(H:Hp)(Z:KX)(e:XK):Prop:=∀C S H',Z C S->Rs K S H'->Kp K H H'->e (.ref C) none H'
theorem Cn.kp{K:Frag}{H H1:Hp}{R:KD}{Q:VK}(h:Cn K H R Q)(k:Kp K H H1):Cn K H1 R Q:=λd S v H' r v1 s1 k1=>h d S v H' r v1 s1<|k.trans k1
theorem EO.kp{K:Frag}{H H1:Hp}{Z:KX}{e:XK}(h:EO K H Z e)(k:Kp K H H1):EO K H1 Z e:=λC S H' r s1 k1=>h C S H' r s1<|k.trans k1
abbrev TD:=SD->aw->KD->KX->Prop
def T(K:Frag)(E:St->XK)(t:TD):TE:=λτ H Q=>∃σ S R Z,hG K H σ τ/\Rs K S H/\t σ S R Z/\Cn K H R Q/\EO K H Z (E τ)
structure DE(K:Frag)(X:Cx)(e:Expr)(t:TD):Prop where
 of:∀{b:Bool}(y:Ev X b),PE y.cx e<|T K y.E t
abbrev lT:=SD->aw->(Bool->aw->Prop)->KX->Prop
def VV(K:Frag)(H:Hp)(R:Bool->aw->Prop)(Q:Bool->Hp->Prop):Prop:=∀b S H',R b S->Rs K S H'->Kp K H H'->Q b H'
theorem VV.kp{K:Frag}{H H1:Hp}{R:Bool->aw->Prop}{Q:Bool->Hp->Prop}(h:VV K H R Q)(k:Kp K H H1):VV K H1 R Q:=λd S H' r s1 k1=>h d S H' r s1<|k.trans k1
def Tt(K:Frag)(E:St->XK)(t:lT):TT:=λτ H Q=>∃σ S R Z,hG K H σ τ/\Rs K S H/\t σ S R Z/\VV K H R Q/\EO K H Z (E τ)
structure DT(K:Frag)(X:Cx)(e:Expr)(t:lT):Prop where
 of:∀{b:Bool}(y:Ev X b),PT y.cx e<|Tt K y.E t
abbrev gX:=SD->aw->(List D->aw->Prop)->KX->Prop
def CnA(K:Frag)(H:Hp)(R:List D->aw->Prop)(Q:List V->Hp->Prop):Prop:=∀ds S vs H',R ds S->RvAll K H' ds vs->Rs K S H'->Kp K H H'->Q vs H'
def Ta(K:Frag)(E:St->XK)(t:gX):TA:=λτ H Q=>∃σ S R Z,hG K H σ τ/\Rs K S H/\t σ S R Z/\CnA K H R Q/\EO K H Z (E τ)
structure DA(K:Frag)(X:Cx)(es:List Expr)(t:gX):Prop where
 of:∀{b:Bool}(y:Ev X b),PA y.cx es<|Ta K y.E t
theorem PE.mono{t t':TE}(h:PE X e t)(i:∀τ H Q,t' τ H Q->t τ H Q):PE X e t':=λpins s τ H Q I q=>h pins s τ H Q I<|i τ H Q q
theorem PT.mono{t t':TT}(h:PT X e t)(i:∀τ H Q,t' τ H Q->t τ H Q):PT X e t':=λpins s τ H Q I q=>h pins s τ H Q I<|i τ H Q q
theorem PA.mono{t t':TA}(h:PA X e t)(i:∀τ H Q,t' τ H Q->t τ H Q):PA X e t':=λpos pins s τ H Q I q=>h pos pins s τ H Q I<|i τ H Q q
section
variable{K:Frag}{X:Cx}
inductive Tp (i:Nat) (σ:SD) (S:aw) (R:KD):Prop where
 |mk (d:D) (h:σ[i]?=some (some d)) (r:R d S)
def Tq(i:Nat):TD:=λσ S R _=>Tp i σ S R
inductive Rf (x:D) (S:aw) (R:Bool->aw->Prop):Prop where
 |mk (b:Bool) (h:x=.bl b) (r:R b S)
def dC(d:D):TD:=λ_ S R _=>R d S
theorem dv(i:Nat)(hN:autoParam (X.N[i]?=some x) qQJ)(hv:autoParam (JV X.env.scope x) qJK)(hd:autoParam ((x==("__debug__": Str))=false) qQZ) (oo:autoParam ((x==("__classdict__": Str))=false) qQZ):DE K X (.Name x pos) (Tq i):=⟨λy=>(Gr (X:=y.cx) hN hv hd oo).mono <| by rintro τ H Q ⟨σ,S,R,Z,aA,hS,⟨d,e,r⟩,hR,_⟩;exact by obtain⟨v,e1,rv⟩:=aA.get e;exact{v,e1,hR d S v H r rv hS<|Kp.refl _}⟩
theorem DE.const(h:∀Y:Cx,Y.env=X.env->Y.mg=X.mg->PE Y e (tC v))(r:∀H,Rv K H d v):DE K X e (dC d):=⟨λy=>(h y.cx rfl rfl).mono <| by rintro τ H Q ⟨σ,S,R,Z,aA,hS,q,hR,_⟩;exact hR d S v H q (r H) hS<|Kp.refl _⟩
theorem di:DE K X (.Constant (.int i) j pos) (dC<|.int i):=.const (λ_ _ _=>N3) λ_=>aN i
theorem ds:DE K X (.Constant (.str i) j pos) (dC<|.str i):=.const (λ_ _ _=>N5) λ_=>i7 i
theorem db:DE K X (.Constant (.bool i) j pos) (dC<|.bl i):=.const (λ_ _ _=>MB) λ_=>bW i
theorem dn:DE K X (.Constant .none j pos) (dC .av):=.const (λ_ _ _=>N4) λ_=>fe
theorem dg(hm:X.mg x=some u)(r:RelV v u)(rd:∀H,Rv K H d v)(hg:autoParam (Gl X x) qQJ)(hd:autoParam ((x==("__debug__": Str))=false) qQZ):DE K X (.Name x pos) (dC d):=.const (λY e1 e2=>CI (X:=Y) (u:=u) (show Y.env.kindOf x=_ by rw[e1];exact hg) (by rw[e2];exact hm) r hd) rd
theorem p7(hm:X.mg x=none)(hv:bootBuiltins x=some (.type n))(hg:autoParam (Gl X x) qQJ)(hn:autoParam (x≠"__name__") qQZ)(hd:autoParam ((x==("__debug__": Str))=false) qQZ):DE K X (.Name x pos) (dC<|.ty n):=.const (λY e1 e2=>JY (X:=Y) (v:=.ty n) (show Y.env.kindOf x=_ by rw[e1];exact hg) (by rw[e2];exact hm) hv rfl hn hd) λ_=>Tj n
def K8:gX:=λ_ S R _=>R [] S
def MV(t:TD)(u:gX):gX:=λσ S R Z=>t σ S (λd S1=>u σ S1 (λds S2=>R (d::ds) S2) Z) Z
theorem an:DA K X [] K8:=⟨λy=>(AZ (X:=y.cx)).mono <| by rintro τ H Q ⟨σ,S,R,Z,aA,hS,q,hR,_⟩;exact hR [] S [] H q bx hS<|Kp.refl _⟩
theorem ac{t:TD}(h:DE K X e t)(hr:DA K X es u)(hp:autoParam (isPlain e=true) qQJ):DA K X (e::es) (MV t u):=
 ⟨λy=>(XI (h.of y) (hr.of y) hp).mono <| by rintro τ H Q ⟨σ,S,R,Z,aA,hS,q,hR,hZ⟩;exact
  ⟨σ,S,_,Z,aA,hS,q,λd S1 x H1 r1 v1 s1 k1=>⟨σ,S1,_,Z,aA.ts k1,s1,r1,λds S2 xs H2 r2 v2 s2 k2=>hR (d::ds) S2 (x::xs) H2 r2 (aO (Rv.ts k2 _ v1) v2) s2<|k1.trans k2,hZ.kp k1⟩,hZ⟩⟩
abbrev ur:=D->D->aw->KD->Prop
theorem al{x:Str}{pos:Pos}(i:Nat)(hr:DA K X es u)(hN:autoParam (X.N[i]?=some x) qQJ)(hv:autoParam (JV X.env.scope x) qJK)(hd:autoParam ((x==("__debug__": Str))=false) qQZ) (oo:autoParam ((x==("__classdict__": Str))=false) qQZ):DA K X (.Name x pos::es) (MV (Tq i) u):=ac (dv i hN hv hd oo) hr rfl
def Lr(K:Frag)(r:ur):R2:=λx y H Q=>∃d e S R,Rv K H d x/\Rv K H e y/\Rs K S H/\r d e S R/\Cn K H R Q
def oA(K:Frag)(f:Value->Value->Sem Value)(r:ur):Prop:=∀X:Cx,X.K=K->X.A.units+64<cLine->gW X f (Lr K r)
def Pn(r:ur)(ta tb:TD):TD:=λσ S R Z=>ta σ S (λx S1=>tb σ S1 (λy S2=>r x y S2 R) Z) Z
theorem T.op(h:T K E (Pn r ta tb) τ H Q):QY (Lr K r) (T K E ta) (T K E tb) τ H Q:=by obtain⟨σ,S,R,Z,aA,hS,q,hR,hZ⟩:=h;exact{σ,S,_,Z,aA,hS,q,λd S1 x H1 r1 v1 s1 k1=>{σ,S1,_,Z,aA.ts k1,s1,r1,λe S2 y H2 r2 v2 s2 k2=>{d,e,S2,R,Rv.ts k2 _ v1,v2,s2,r2,hR.kp<|k1.trans k2},hZ.kp k1},hZ}
theorem bo(ho:oA K (binaryOp op) r)(hu:X.A.units+64<cLine)(ha:DE K X a ta)(hb:DE K X b tb)(hK:autoParam (X.K=K) qQJ):DE K X (.BinOp a op b pos) (Pn r ta tb):=⟨λy=>(R6 (ho y.cx hK hu) (ha.of y)<|hb.of y).mono λ_ _ _ h=>h.op⟩
theorem cm(ho:oA K (compareOp op) r)(hu:X.A.units+64<cLine)(ha:DE K X a ta)(hb:DE K X b tb)(hm:autoParam (behindInMarks op b=false) qQ2)(hK:autoParam (X.K=K) qQJ):DE K X (.Compare a [op] [b] pos) (Pn r ta tb):=⟨λy=>(CO (ho y.cx hK hu) (ha.of y) (hb.of y) hm).mono λ_ _ _ h=>h.op⟩
def dB(t:TD):lT:=λσ S R Z=>t σ S (λx S1=>Rf x S1 R) Z
theorem Tt.b{t:TD}(h:Tt K E (dB t) τ H Q):T K E t τ H λx H'=>∃k,x=.bl k/\Q k H':=by obtain⟨σ,S,R,Z,aA,hS,q,hR,hZ⟩:=h;exact{σ,S,_,Z,aA,hS,q,by rintro d S1 x H1 ⟨b,e,r1⟩ v1 s1 k1;exact by subst e;exact{b,v1.bl,hR b S1 H1 r1 s1 k1},hZ}
theorem Tt.bop(h:Tt K E (dB<|Pn r ta tb) τ H Q):GB (QY (Lr K r) (T K E ta)<|T K E tb) τ H Q:=h.b.op
theorem bf(ho:oA K (compareOp op) r)(hu:X.A.units+64<cLine)(ha:DE K X a ta)(hb:DE K X b tb)(hm:autoParam (behindInMarks op b=false) qQ2)(hK:autoParam (X.K=K) qQJ):DT K X (.Compare a [op] [b] pos) (dB<|Pn r ta tb):=⟨λy=>(Kc (ho y.cx hK hu) (ha.of y) (hb.of y) hm).mono λ_ _ _ h=>h.bop⟩
theorem tv{t:TD}(h:DE K X e t)(he:autoParam (∀whole,isTrue e X.env whole=(do let v <-whole;standAt e.pos;holding [v] (truthy v))) qQ0):DT K X e (dB t):=⟨λy=>(N6 (X:=y.cx) (h.of y) he).mono λ_ _ _ h=>h.b⟩
def Bv(r r':ur)(ta tb tc:TD):TD:=λσ S R Z=>ta σ S (λx S1=>tb σ S1 (λy S2=>r x y S2 λz S3=>Rf z S3 λk S3=>if k=true then tc σ S3 (λw S4=>r' y w S4 R) Z else R (.bl false) S3) Z) Z
theorem T.chain(h:T K E (Bv r r' ta tb tc) τ H Q):AR (Lr K r) (Lr K r') (T K E ta) (T K E tb) (T K E tc) τ H Q:=by obtain⟨σ,S,R,Z,aA,hS,q,hR,hZ⟩:=h;refine{σ,S,_,Z,aA,hS,q,λd S1 x H1 r1 v1 s1 k1=>{σ,S1,_,Z,aA.ts k1,s1,r1,λe S2 y H2 r2 v2 s2 k2=>{d,e,S2,_,Rv.ts k2 _ v1,v2,s2,r2,λz S3 v H3 r3 v3 s3 k3=>?_},hZ.kp k1},hZ};obtain⟨k,rfl,r3⟩:=r3;refine{k,v3.bl,?_};cases k with|true=>rw[if_pos rfl]at r3⊢;exact{σ,S3,_,Z,((aA.ts k1).ts k2).ts k3,s3,r3,λw S4 wv H4 r4 v4 s4 k4=>{e,w,S4,R,Rv.ts (k3.trans k4) _ v2,v4,s4,r4,hR.kp<|((k1.trans k2).trans k3).trans k4},hZ.kp<|(k1.trans k2).trans k3}|false=>rw[if_neg zd]at r3⊢;exact hR _ S3 _ H3 r3 (bW false) s3<|(k1.trans k2).trans k3
theorem cc(ho:oA K (compareOp op) r)(AM:oA K (compareOp En) r')(hu:X.A.units+64<cLine)(ha:DE K X a ta)(hb:DE K X b tb)(hc:DE K X c tc) (hm:autoParam (lastMarks [op,En] [b,c]=false) qQ2) (hK:autoParam (X.K=K) qQJ):DE K X (.Compare a [op,En] [b,c] pos) (Bv r r' ta tb tc):=⟨λy=>(GC (ho y.cx hK hu) (AM y.cx hK hu) (ha.of y) (hb.of y) (hc.of y) hm).mono λ_ _ _ h=>h.chain⟩
theorem VW(ho:oA K (compareOp op) r)(AM:oA K (compareOp En) r')(hu:X.A.units+64<cLine)(ha:DE K X a ta)(hb:DE K X b tb)(hc:DE K X c tc) (hm:autoParam (lastMarks [op,En] [b,c]=false) qQ2) (hK:autoParam (X.K=K) qQJ):DT K X (.Compare a [op,En] [b,c] pos) (dB<|Bv r r' ta tb tc):=⟨λy=>(GF (ho y.cx hK hu) (AM y.cx hK hu) (ha.of y) (hb.of y) (hc.of y) hm).mono λ_ _ _ h=>h.b.chain⟩
def Tr(ta tb:TD):TD:=λσ S R Z=>ta σ S (λx S1=>Rf x S1 λc S1=>if c=true then tb σ S1 R Z else R (.bl false) S1) Z
def X3(ta tb:TD):TD:=λσ S R Z=>ta σ S (λx S1=>Rf x S1 λc S1=>if c=true then R (.bl true) S1 else tb σ S1 R Z) Z
def Ts(ta:TD):TD:=λσ S R Z=>ta σ S (λx S1=>Rf x S1 λc S1=>R (.bl<|!c) S1) Z
theorem Ga{t:TD}(h:DE K X a t):DE K X (.BoolOp op [a] pos) t:=⟨λy=>N8<|h.of y⟩
theorem pB{a b:Expr}{rest:List Expr}{ta tb:TD}{pos:Pos}(ha:DE K X a ta)(hb:DE K X (.BoolOp .And (b::rest) pos) tb):DE K X (.BoolOp .And (a::b::rest) pos) (Tr ta tb):=
 ⟨λy=>(N9 (ha.of y)<|hb.of y).mono <| by rintro τ H Q ⟨σ,S,R,Z,aA,hS,q,hR,hZ⟩;exact
  ⟨σ,S,_,Z,aA,hS,q,by
   rintro d S1 x H1 ⟨c,e,r1⟩ v1 s1 k1
   subst e
   refine{c,v1.bl,?_}
   cases c with
   |true=>rw[if_pos rfl]at r1⊢;exact{σ,S1,R,Z,aA.ts k1,s1,r1,hR.kp k1,hZ.kp k1}
   |false=>rw[if_neg zd]at r1⊢;exact hR _ S1 _ H1 r1 (bW false) s1 k1,hZ⟩⟩
theorem eor{a b:Expr}{rest:List Expr}{ta tb:TD}{pos:Pos}(ha:DE K X a ta)(hb:DE K X (.BoolOp .Or (b::rest) pos) tb):DE K X (.BoolOp .Or (a::b::rest) pos) (X3 ta tb):=
 ⟨λy=>(RU (ha.of y)<|hb.of y).mono <| by rintro τ H Q ⟨σ,S,R,Z,aA,hS,q,hR,hZ⟩;exact
  ⟨σ,S,_,Z,aA,hS,q,by
   rintro d S1 x H1 ⟨c,e,r1⟩ v1 s1 k1
   subst e
   refine{c,v1.bl,?_}
   cases c with
   |false=>rw[if_neg zd]at r1⊢;exact{σ,S1,R,Z,aA.ts k1,s1,r1,hR.kp k1,hZ.kp k1}
   |true=>rw[if_pos rfl]at r1⊢;exact hR _ S1 _ H1 r1 (bW true) s1 k1,hZ⟩⟩
theorem Po(ha:DE K X a ta):DE K X (.UnaryOp .Not a pos) (Ts ta):=
 ⟨λy=>(N_<|ha.of y).mono <| by rintro τ H Q ⟨σ,S,R,Z,aA,hS,q,hR,hZ⟩;exact
  ⟨σ,S,_,Z,aA,hS,q,by rintro d S1 x H1 ⟨c,e,r1⟩ v1 s1 k1;exact by subst e;exact⟨c,v1.bl,hR _ S1 _ H1 r1 (bW _) s1 k1⟩,hZ⟩⟩
def X4(t:lT):lT:=λσ S R Z=>t σ S (λc S1=>R (!c) S1) Z
def X5(t u:lT):lT:=λσ S R Z=>t σ S (λc S1=>if c=true then u σ S1 R Z else R false S1) Z
def dOr(t u:lT):lT:=λσ S R Z=>t σ S (λc S1=>if c=true then R true S1 else u σ S1 R Z) Z
theorem cg{t:lT}(ha:DT K X a t):DT K X (.UnaryOp .Not a pos) (X4 t):=⟨λy=>(N7<|ha.of y).mono <| by rintro τ H Q ⟨σ,S,R,Z,aA,hS,q,hR,hZ⟩;exact{σ,S,_,Z,aA,hS,q,λc S1 H1 r1 s1 k1=>hR _ S1 H1 r1 s1 k1,hZ}⟩
structure DW(K:Frag)(X:Cx)(e:Expr)(t:lT):Prop where
 of:∀{b:Bool}(y:Ev X b),PW y.cx e<|Tt K y.E t
theorem PW.mono{t t':TT}(h:PW X e t)(i:∀τ H Q,t' τ H Q->t τ H Q):PW X e t':=λwh pins s τ H Q I q=>h wh pins s τ H Q I<|i τ H Q q
theorem twd{t:lT}(h:DW K X e t):DT K X e t:=⟨λy=>(h.of y).pt⟩
theorem tw1{t:lT}(h:DT K X a t):DW K X (.BoolOp op [a] pos) t:=⟨λy=>by cases op with|And=>exact pw_and1 (h.of y)|Or=>exact pw_or1<|h.of y⟩
theorem twand{a b:Expr}{rest:List Expr}{t u:lT}{pos:Pos}(ha:DT K X a t)(hb:DW K X (.BoolOp .And (b::rest) pos) u):DW K X (.BoolOp .And (a::b::rest) pos) (X5 t u):=
 ⟨λy=>(pw_and (ha.of y)<|hb.of y).mono <| by rintro τ H Q ⟨σ,S,R,Z,aA,hS,q,hR,hZ⟩;exact
  ⟨σ,S,_,Z,aA,hS,q,λc S1 H1 r1 s1 k1=>by
   cases c with
   |true=>rw[if_pos rfl]at r1⊢;exact{σ,S1,R,Z,aA.ts k1,s1,r1,hR.kp k1,hZ.kp k1}
   |false=>rw[if_neg zd]at r1⊢;exact hR _ S1 H1 r1 s1 k1,hZ⟩⟩
theorem twor{a b:Expr}{rest:List Expr}{t u:lT}{pos:Pos}(ha:DT K X a t)(hb:DW K X (.BoolOp .Or (b::rest) pos) u):DW K X (.BoolOp .Or (a::b::rest) pos) (dOr t u):=
 ⟨λy=>(pw_or (ha.of y)<|hb.of y).mono <| by rintro τ H Q ⟨σ,S,R,Z,aA,hS,q,hR,hZ⟩;exact
  ⟨σ,S,_,Z,aA,hS,q,λc S1 H1 r1 s1 k1=>by
   cases c with
   |false=>rw[if_neg zd]at r1⊢;exact{σ,S1,R,Z,aA.ts k1,s1,r1,hR.kp k1,hZ.kp k1}
   |true=>rw[if_pos rfl]at r1⊢;exact hR _ S1 H1 r1 s1 k1,hZ⟩⟩
def X6(t:lT)(ta tb:TD):TD:=λσ S R Z=>t σ S (λc S1=>if c=true then ta σ S1 R Z else tb σ S1 R Z) Z
theorem Rh{t:lT}(hc:DT K X c t)(ha:DE K X a ta)(hb:DE K X b tb):DE K X (.IfExp c a b pos) (X6 t ta tb):=
 ⟨λy=>(Gs (hc.of y) (ha.of y)<|hb.of y).mono <| by rintro τ H Q ⟨σ,S,R,Z,aA,hS,q,hR,hZ⟩;exact
  ⟨σ,S,_,Z,aA,hS,q,λc S1 H1 r1 s1 k1=>by
   cases c with
   |true=>rw[if_pos rfl]at r1⊢;exact{σ,S1,R,Z,aA.ts k1,s1,r1,hR.kp k1,hZ.kp k1}
   |false=>rw[if_neg zd]at r1⊢;exact{σ,S1,R,Z,aA.ts k1,s1,r1,hR.kp k1,hZ.kp k1},hZ⟩⟩
def X7(t:gX):TD:=λσ S R Z=>t σ S (λds S1=>ds.length<=sizeLine/\∀p,S1 p=none->R (.ref p) (S1.set p<|.lst ds)) Z
def X8(t:gX):TD:=λσ S R Z=>t σ S (λds S1=>ds.length<=sizeLine/\R (.tup ds) S1) Z
theorem cC{t:gX}(h:DA K X es t):DE K X (.List es pos) (X7 t):=
 ⟨λy=>(OE<|h.of y).mono <| by rintro τ H Q ⟨σ,S,R,Z,aA,hS,q,hR,hZ⟩;exact
  ⟨σ,S,_,Z,aA,hS,q,by rintro ds S1 xs H1 ⟨hl,r1⟩ v1 s1 k1;exact⟨by rw[v1.len];exact hl,λp hp=>hR _ _ _ _ (r1 p<|s1.fresh hp) (fg p) (s1.new hp ⟨xs,aE,RvAll.ts (.new hp) _ v1⟩)<|k1.trans<|.new hp⟩,hZ⟩⟩
theorem cj{t:gX}(h:DA K X es t):DE K X (.Tuple es x1 pos) (X8 t):=
 ⟨λy=>(OD<|h.of y).mono <| by rintro τ H Q ⟨σ,S,R,Z,aA,hS,q,hR,hZ⟩;exact
  ⟨σ,S,_,Z,aA,hS,q,by rintro ds S1 xs H1 ⟨hl,r1⟩ v1 s1 k1;exact⟨by rw[v1.len];exact hl,λp hp=>hR _ _ _ _ r1 (nr aE<|RvAll.ts (.new hp) _ v1) (s1.grow hp)<|k1.trans<|.new hp⟩,hZ⟩⟩
def X9:TD:=λ_ S R _=>∀p,S p=none->R (.ref p) (S.set p<|.c_ [])
theorem Tu:DE K X (.Dict [] [] pos) X9:=⟨λy=>(GV (X:=y.cx)).mono <| by rintro τ H Q ⟨σ,S,R,Z,aA,hS,q,hR,hZ⟩ p hp;exact hR _ _ _ _ (q p<|hS.fresh hp) (fg p) (hS.new hp {[],aE,.nil})<|.new hp⟩
def Lc(K:Frag)(r:List D->aw->KD->Prop):List V->Hp->VK->Prop:=λxs H Q=>∃ds S R,RvAll K H ds xs/\Rs K S H/\r ds S R/\Cn K H R Q
def gA(K:Frag)(f:Value)(r:List D->aw->KD->Prop):Prop:=∀X:Cx,X.K=K->X.calm=true->ee X f (Lc K r)
def VX(r:List D->aw->KD->Prop)(t:gX):TD:=λσ S R Z=>t σ S (λds S1=>r ds S1 R) Z
theorem T.cb{t:gX}(h:T K E (VX r t) τ H Q):Xe (Lc K r) (Ta K E t) τ H Q:=by obtain⟨σ,S,R,Z,aA,hS,q,hR,hZ⟩:=h;exact{σ,S,_,Z,aA,hS,q,λds S1 xs H1 r1 v1 s1 k1=>{ds,S1,R,v1,s1,r1,hR.kp k1},hZ}
theorem cb{x:Str}{id:String}{r:List D->aw->KD->Prop}{e:Expr}{es:List Expr}{t:gX}{p pos:Pos}(hc:gA K (.builtin id) r)(hm:X.mg x=none)(hv:bootBuiltins x=some (.builtin id))(ha:DA K X (e::es) t)(hg:autoParam (Gl X x) qQJ) (hn:autoParam (x≠"__name__") qQZ) (lN:autoParam ((x==("__debug__": Str))=false) qQZ) (he:autoParam (starEach (e::es) X.env=(false,eval e X.env)::starEach es X.env) qQJ) (cP:autoParam ((backTo pos<|starEach es X.env).any (·.1)=false) qQJ) (hK:autoParam (X.K=K) qQJ) (hC:autoParam (X.calm=true) qQJ): DE K X (.Call (.Name x p) (e::es) [] pos) (VX r t):=⟨λy=>(w9 (X:=y.cx) (hc _ hK hC) hg hm hv (ha.of y) hn lN he cP).mono λ_ _ _ h=>h.cb⟩
theorem ct{x:Str}{id:String}{r:List D->aw->KD->Prop}{e:Expr}{es:List Expr}{t:gX}{p pos:Pos}(hc:gA K (.type id) r)(hm:X.mg x=none)(hv:bootBuiltins x=some (.type id))(ha:DA K X (e::es) t)(hg:autoParam (Gl X x) qQJ) (hn:autoParam (x≠"__name__") qQZ) (lN:autoParam ((x==("__debug__": Str))=false) qQZ) (he:autoParam (starEach (e::es) X.env=(false,eval e X.env)::starEach es X.env) qQJ) (cP:autoParam ((backTo pos<|starEach es X.env).any (·.1)=false) qQJ) (hK:autoParam (X.K=K) qQJ) (hC:autoParam (X.calm=true) qQJ): DE K X (.Call (.Name x p) (e::es) [] pos) (VX r t):=⟨λy=>(ud (X:=y.cx) (hc _ hK hC) hg hm hv (ha.of y) hn lN he cP).mono λ_ _ _ h=>h.cb⟩
end
section
variable{K:Frag}
theorem Cn.now(h:Cn K H R Q)(hS:Rs K S H)(r:R d S)(rv:Rv K H d v):Q v H:=h d S v H r rv hS<|.refl _
theorem Cn.new{H:Hp}{R:KD}{Q:VK}{S:aw}{p:Addr}{ds:List D}{xs:List V}(h:Cn K H R Q)(hS:Rs K S H)(hp:H p=none)(r:S p=none->R (.ref p) (S.set p<|.lst ds))(rv:RvAll K H ds xs):Q (.ref p) (upd H p<|.lst xs):=h _ _ _ _ (r<|hS.fresh hp) (fg p) (hS.new hp {xs,aE,RvAll.ts (.new hp) _ rv})<|.new hp
theorem Cn.Tv{H:Hp}{R:KD}{Q:VK}{S:aw}{p:Addr}{ds:List D}{xs:List V}(h:Cn K H R Q)(hS:Rs K S H)(hp:H p=none)(r:R (.tup ds) S)(rv:RvAll K H ds xs):Q (.ref p) (upd H p<|.tup xs):=h _ _ _ _ r (nr aE<|RvAll.ts (.new hp) _ rv) (hS.grow hp)<|.new hp
theorem Cn.put{H:Hp}{R:KD}{Q:VK}{S:aw}{p:Addr}{ds es:List D}{xs:List V}{d:D}{v:V}(h:Cn K H R Q)(hS:Rs K S H)(hp:S p=some (.lst es))(r:R d<|S.set p<|.lst ds)(rd:Rv K H d v)(rv:RvAll K H ds xs):Q v (upd H p<|.lst xs):=h _ _ _ _ r (Rv.ts (hS.g_ hp) _ rd) (hS.put hp {xs,aE,RvAll.ts (hS.g_ hp) _ rv})<|hS.g_ hp
def xw(S:aw):D->List D->Prop|.ref a,ds=>S a=some (.lst ds)|.jO es,ds=>es=ds|_,_=>False
theorem xw.at{H:Hp}{S:aw}{d:D}{ds:List D}{v:V}(h:xw S d ds)(hS:Rs K S H)(r:Rv K H d v):∃a xs,v=.ref a/\iW K H a xs/\RvAll K H ds xs:=by cases d with|ref a=>(obtain⟨xs,e,q⟩:=hS.lst h;exact{a,xs,r.ref,.of e,q})|jO es=>(have h:es=ds:=h;subst h;obtain⟨a,xs,e,q,t⟩:=r.jO;exact⟨a,xs,e,q.sq,t⟩)|_=>exact h.elim
def X_:ur:=λx y S R=>match x,y with|.int i,.int j=>R (.int<|i-j) S|_,_=>False
theorem fR:oA K (binaryOp .Sub) X_:=by rintro X hK hu pins s σ H x y v u Q I rx ry ⟨d,e,S,R,r1,r2,hS,h,hR⟩;cases d<;>cases e<;>first|exact False.elim h|exact Ou pins s σ H x y v u Q I rx ry {_,_,r1.int,r2.int,hR.now hS h<|aN _}
def Ya:ur:=λx y S R=>match x,y with|.int i,.int j=>Ka i j/\R (.int<|i*j) S|.str z,.int n=>MulOk z n/\R (.str<|PySem.Txt.mul z n) S|_,_=>False
theorem qO:oA K (binaryOp .Mult) Ya:=by rintro X hK hu pins s σ H x y v u Q I rx ry ⟨d,e,S,R,r1,r2,hS,h,hR⟩;cases d<;>cases e<;>first|exact False.elim h|exact Ov pins s σ H x y v u Q I rx ry {_,_,r1.int,r2.int,h.1,hR.now hS h.2<|aN _}|exact Bn pins s σ H x y v u Q I rx ry {_,_,r1.str,r2.int,h.1,hR.now hS h.2<|i7 _}
def Yb:ur:=λx y S R=>match x,y with|.int i,.int j=>0<j/\R (.int<|i%j) S|_,_=>False
theorem bh:oA K (binaryOp .Mod) Yb:=by rintro X hK hu pins s σ H x y v u Q I rx ry ⟨d,e,S,R,r1,r2,hS,h,hR⟩;cases d<;>cases e<;>first|exact False.elim h|exact Ow pins s σ H x y v u Q I rx ry {_,_,r1.int,r2.int,h.1,hR.now hS h.2<|aN _}
def Tw:ur:=λx y S R=>match x,y with|.int i,.int j=>MO i j/\R (.int<|i/j) S|_,_=>False
theorem bP:oA K (binaryOp .FloorDiv) Tw:=by rintro X hK hu pins s σ H x y v u Q I rx ry ⟨d,e,S,R,r1,r2,hS,h,hR⟩;cases d<;>cases e<;>first|exact False.elim h|exact GZ pins s σ H x y v u Q I rx ry {_,_,r1.int,r2.int,h.1,hR.now hS h.2<|aN _}
def Yc:ur:=λx y S R=>match x,y with|.int i,.int j=>R9 i j/\R (.int<|i^j.toNat) S|_,_=>False
theorem lU:oA K (binaryOp .Pow) Yc:=by rintro X hK hu pins s σ H x y v u Q I rx ry ⟨d,e,S,R,r1,r2,hS,h,hR⟩;cases d<;>cases e<;>first|exact False.elim h|exact Ox pins s σ H x y v u Q I rx ry {_,_,r1.int,r2.int,h.1,hR.now hS h.2<|aN _}
def Hi(f:Int->Int->Bool)(g:Str->Str->Bool):ur:=λx y S R=>match x,y with|.int i,.int j=>R (.bl<|f i j) S|.str i,.str j=>R (.bl<|g i j) S|_,_=>False
theorem C6(h1:∀X:Cx,gW X (compareOp op)<|J6 λi j=>.bl<|f i j) (h2:∀X:Cx,gW X (compareOp op) λx y H Q=>∃i j,x=.str i/\y=.str j/\Q (.bl<|g i j) H):oA K (compareOp op) (Hi f g):=by rintro X hK hu pins s σ H x y v u Q I rx ry ⟨d,e,S,R,r1,r2,hS,h,hR⟩;cases d<;>cases e<;>first|exact False.elim h|exact h1 X pins s σ H x y v u Q I rx ry {_,_,r1.int,r2.int,hR.now hS h<|bW _}|exact h2 X pins s σ H x y v u Q I rx ry {_,_,r1.str,r2.str,hR.now hS h<|bW _}
theorem pC:oA K (compareOp .Lt) (Hi (λi j=>decide<|i<j) λi j=>nh i j):=C6 (λ_=>Sa) λ_=>El
theorem i8:oA K (compareOp .LtE) (Hi (λi j=>decide<|i<=j) λi j=>F9 i j):=C6 (λ_=>Sb) λ_=>EC
theorem pE:oA K (compareOp .Gt) (Hi (λi j=>decide<|j<i) λi j=>nh j i):=C6 (λ_=>Sd) λ_=>EF
theorem Yd:oA K (compareOp .GtE) (Hi (λi j=>decide<|j<=i) λi j=>F9 j i):=C6 (λ_=>Se) λ_=>ED
noncomputable def ah:D->Bool|.av=>true|_=>false
theorem xx(r:Rv K H d v):decide (v=.av)=ah d:=by cases d with|av=>rw[r.av];rfl|bl b=>rw[r.bl];rfl|int b=>rw[r.int];rfl|str b=>rw[r.str];rfl|ref b=>rw[r.ref];rfl|ty b=>rw[r.ty];rfl|tup b=>(obtain⟨a,xs,rfl,_⟩:=r.tup;rfl)|jO b=>(obtain⟨a,xs,rfl,_⟩:=r.jO;rfl)|kt b=>obtain⟨a,xs,rfl,_⟩:=r.kt;rfl
def Ye:ur:=λx y S R=>match y with|.av=>R (.bl<|ah x) S|_=>False
def Tx:ur:=λx y S R=>match y with|.av=>R (.bl<|!ah x) S|_=>False
theorem fh:oA K (compareOp .Is) Ye:=by rintro X hK hu pins s σ H x y v u Q I rx ry ⟨d,e,S,R,r1,r2,hS,h,hR⟩;cases e<;>first|exact False.elim h|exact Oz pins s σ H x y v u Q I rx ry {r2.av,by rw[xx r1];exact hR.now hS h<|bW _}
theorem kP:oA K (compareOp .IsNot) Tx:=by rintro X hK hu pins s σ H x y v u Q I rx ry ⟨d,e,S,R,r1,r2,hS,h,hR⟩;cases e<;>first|exact False.elim h|exact Kb pins s σ H x y v u Q I rx ry {r2.av,by rw[xx r1];exact hR.now hS h<|bW _}
mutual
def Dp(S:aw):D->PyData->Prop|.av,p=>p=.none|.bl b,p=>p=.bool b|.int i,p=>p=.int i|.str z,p=>p=.str z|.tup ds,p=>∃ps,p=.tuple ps/\DpAll S ds ps|.jO ds,p=>∃ps,p=.list ps/\DpAll S ds ps|.kt _,_=>False|.ref _,_=>False|.ty _,_=>False
def DpAll(S:aw):List D->List PyData->Prop|[],ps=>ps=[]|d::ds,ps=>∃q qs,ps=q::qs/\Dp S d q/\DpAll S ds qs
end
mutual
theorem Dp.dt:∀(d:D){p:PyData}{v:V},Dp S d p->Rv K H d v->Dt K H p v|.av,p,v,h,r=>by simp only[Dp]at h;subst h;simp only[Dt];exact r.av|.bl b,p,v,h,r=>by simp only[Dp]at h;subst h;simp only[Dt];exact r.bl|.int b,p,v,h,r=>by simp only[Dp]at h;subst h;simp only[Dt];exact r.int|.str b,p,v,h,r=>by simp only[Dp]at h;subst h;simp only[Dt];exact r.str|.tup ds,p,v,h,r=>(by simp only[Dp]at h;obtain⟨ps,rfl,h⟩:=h;obtain⟨a,xs,rfl,q,t⟩:=r.tup;simp only[Dt];exact{a,xs,rfl,.of q,DpAll.dt ds h t})|.jO ds,p,v,h,r=>(by simp only[Dp]at h;obtain⟨ps,rfl,h⟩:=h;obtain⟨a,xs,rfl,q,t⟩:=r.jO;simp only[Dt];exact{a,xs,rfl,q.sq,DpAll.dt ds h t})|.kt a,p,v,h,r=>by simp only[Dp]at h|.ref a,p,v,h,r=>by simp only[Dp]at h|.ty a,p,v,h,r=>by simp only[Dp]at h
theorem DpAll.dt:∀(ds:List D){ps:List PyData}{vs:List V},DpAll S ds ps->RvAll K H ds vs->DtAll K H ps vs|[],ps,vs,h,r=>by simp only[DpAll]at h;subst h;rw[r.nil];simp only[DtAll]|d::ds,ps,vs,h,r=>by simp only[DpAll]at h;obtain⟨q,qs,rfl,h1,h2⟩:=h;obtain⟨y,ys,rfl,r1,r2⟩:=r.cons;simp only[DtAll];exact{y,ys,rfl,Dp.dt d h1 r1,DpAll.dt ds h2 r2}
end
def Dl(S:aw):D->PyData->Prop|.ref a,p=>∃ds ps,S a=some (.lst ds)/\p=.list ps/\DpAll S ds ps|d,p=>Dp S d p
theorem Dl.dt(h:Dl S d p)(hS:Rs K S H)(r:Rv K H d v):Dt K H p v:=by cases d with|ref a=>(obtain⟨ds,ps,e,rfl,h⟩:=h;obtain⟨xs,e1,t⟩:=hS.lst e;rw[r.ref];simp only[Dt];exact{a,xs,rfl,.of e1,DpAll.dt ds h t})|_=>exact Dp.dt _ h r
def Gb(neg:Bool):ur:=λx y S R=>match x,y with|.int i,.int j=>(R (.bl<|if neg then !decide (i=j) else decide (i=j)) S)|.str i,.str j=>(R (.bl<|if neg then !decide (i=j) else decide (i=j)) S)|x,y=>∃p q,Dl S x p/\Dl S y q/\p.canLay0=true/\q.canLay0=true/\(p.depth<=64\/q.depth<=64)/\R (.bl<|if neg then !PyData.eqv p q else PyData.eqv p q) S
theorem Hj(h:Gb neg x y S R):(∃i j,x=.int i/\y=.int j/\R (.bl<|if neg then !decide (i=j) else decide (i=j)) S)\/(∃i j,x=.str i/\y=.str j/\R (.bl<|if neg then !decide (i=j) else decide (i=j)) S)\/∃p q,Dl S x p/\Dl S y q/\p.canLay0=true/\q.canLay0=true/\(p.depth<=64\/q.depth<=64)/\R (.bl<|if neg then !PyData.eqv p q else PyData.eqv p q) S:=by cases x<;>cases y<;>first|exact .inl {_,_,rfl,rfl,h}|exact .inr (.inl {_,_,rfl,rfl,h})|exact .inr (.inr h)
theorem aU:oA K (compareOp .Eq) (Gb false):=by
 rintro X hK hu pins s σ H x y v u Q I rx ry ⟨d,e,S,R,r1,r2,hS,h,hR⟩;subst hK;rcases Hj h with⟨i,j,rfl,rfl,h⟩|⟨i,j,rfl,rfl,h⟩|⟨p,q,h1,h2,c1,c2,dp,h⟩;cases r1.int;cases r2.int;refine MG pins s σ H _ _ v u Q I rx ry {rfl,?_};have e:decide (V.int i=V.int j)=decide (i=j):=by simp
 rw[e];exact hR.now hS h<|bW _;cases r1.str;cases r2.str;refine MG pins s σ H _ _ v u Q I rx ry {rfl,?_};have e:decide (V.str i=V.str j)=decide (i=j):=by simp
 rw[e];exact hR.now hS h<|bW _;exact G9 hu pins s σ H x y v u Q I rx ry {p,q,h1.dt hS r1,h2.dt hS r2,c1,c2,dp,hR.now hS h<|bW _}
theorem kQ:oA K (compareOp .NotEq) (Gb true):=by
 rintro X hK hu pins s σ H x y v u Q I rx ry ⟨d,e,S,R,r1,r2,hS,h,hR⟩;subst hK;rcases Hj h with⟨i,j,rfl,rfl,h⟩|⟨i,j,rfl,rfl,h⟩|⟨p,q,h1,h2,c1,c2,dp,h⟩;cases r1.int;cases r2.int;refine MH pins s σ H _ _ v u Q I rx ry {rfl,?_};have e:decide (V.int i=V.int j)=decide (i=j):=by simp
 rw[e];exact hR.now hS h<|bW _;cases r1.str;cases r2.str;refine MH pins s σ H _ _ v u Q I rx ry {rfl,?_};have e:decide (V.str i=V.str j)=decide (i=j):=by simp
 rw[e];exact hR.now hS h<|bW _;exact G_ hu pins s σ H x y v u Q I rx ry {p,q,h1.dt hS r1,h2.dt hS r2,c1,c2,dp,hR.now hS h<|bW _}
noncomputable def bY(kvs:List<|Key×D)(k:Key):Option D:=(kvs.find? λkv=>decide<|kv.1=k).map (·.2)
noncomputable def dput(kvs:List<|Key×D)(k:Key)(v:D):List (Key×D):=if (kvs.any λkv=>decide<|kv.1=k)=true then kvs.map (λkv=>if kv.1=k then (kv.1,v) else kv) else kvs++[(k,v)]
noncomputable def xy(kvs:List<|Key×D)(k:Key):List (Key×D):=kvs.filter λkv=>decide<|kv.1≠k
theorem bX.val(h:bX K H ks vs)(k:Key):(∀d,bY ks k=some d->∃v,fO vs k=some v/\Rv K H d v)/\(bY ks k=none->fO vs k=none):=by induction h with|nil=>(exact{λd e=>(by cases e),λ_=>rfl})|@cons a b l m r t ih=>obtain⟨k',d⟩:=a;obtain⟨k'',v⟩:=b;obtain⟨e0,r⟩:=r;dsimp only at e0;subst e0;unfold bY fO;simp only[yb];by_cases q:k'=k;rw[zw q];exact{λd' e=>{v,rfl,(by cases e;exact r)},λe=>(by cases e)};rw[zu q];exact ih
theorem bX.any(h:bX K H ks vs)(k:Key):(ks.any λkv=>decide<|kv.1=k)=(vs.any λkv=>decide<|kv.1=k):=by induction h with|nil=>rfl|cons r t ih=>rw[yQ,yQ,ih,r.1]
theorem bX.len(h:bX K H ks vs):vs.length=ks.length:=(yL h).symm
theorem bX.app:∀{ks ls:List (κ×D)}{vs ws:List (κ×V)},bX K H ks vs->bX K H ls ws->bX K H (ks++ls) (vs++ws)|_,_,_,_,.nil,h=>h|_,_,_,_,.cons r t,h=>.cons r<|bX.app t h
theorem bX.OT(h:bX K H ks vs)(k:Key)(rd:Rv K H d v):bX K H (ks.map λkv=>if kv.1=k then (kv.1,d) else kv) (vs.map λkv=>if kv.1=k then (kv.1,v) else kv):=by induction h with|nil=>exact .nil|@cons a b l m r t ih=>refine .cons ?_ ih;dsimp only;by_cases q:b.1=k;rw[if_pos q,if_pos<|r.1.trans q];exact⟨r.1,rd⟩;rw[if_neg q,if_neg λz=>q<|r.1.symm.trans z];exact r
theorem bX.put(h:bX K H ks vs)(k:Key)(rd:Rv K H d v):bX K H (dput ks k d) (putK vs k v):=by unfold dput putK;rw[h.any k];split;exact h.OT k rd;exact h.app<|.cons ⟨rfl,rd⟩ .nil
theorem bX.drop(h:bX K H ks vs)(k:Key):bX K H (xy ks k) (ow vs k):=by unfold xy ow;induction h with|nil=>exact .nil|@cons a b l m r t ih=>rw[yM,yM,r.1];by_cases q:b.1=k;rw[if_neg<|by simp[q],if_neg<|by simp[q]];exact ih;rw[if_pos<|by simp[q],if_pos<|by simp[q]];exact .cons r ih
noncomputable def Bw:D->Option Key|.int i=>some (.inl i)|.str z=>some (.inr z)|_=>none
theorem nv(h:Bw d=some k)(r:Rv K H d v):v=kV k:=by cases d with|int i=>(cases h;exact r.int)|str i=>(cases h;exact r.str)|_=>cases h
noncomputable def i9:D->Bool|.av=>true|.bl _=>true|.int _=>true|.str _=>true|_=>false
noncomputable def j6:D->V|.av=>.av|.bl b=>.bl b|.int i=>.int i|.str z=>.str z|.ref a=>.ref a|.ty n=>.ty n|_=>.av
theorem qP(h:i9 d=true)(r:Rv K H d v):v=j6 d/\gz v=true:=by cases d with|av=>(cases r.av;exact⟨rfl,rfl⟩)|bl b=>(cases r.bl;exact⟨rfl,rfl⟩)|int b=>(cases r.int;exact⟨rfl,rfl⟩)|str b=>(cases r.str;exact⟨rfl,rfl⟩)|_=>cases h
theorem lV:∀{ds:List D}{vs:List V},ds.all i9=true->RvAll K H ds vs->vs=ds.map j6/\vs.all gz=true|[],vs,_,r=>by rw[r.nil];exact⟨rfl,rfl⟩|d::ds,vs,h,r=>by obtain⟨y,ys,rfl,r1,r2⟩:=r.cons;rw[List.all_cons,zL]at h;obtain⟨e1,f1⟩:=qP h.1 r1;obtain⟨e2,f2⟩:=lV h.2 r2;refine{by rw[e1,e2];rfl,?_};rw[List.all_cons,f1,f2];rfl
def inD(neg:Bool):ur:=λx y S R=>match y with|.str j=>(∃i,x=.str i/\R (.bl<|if neg then !(!(Builtin.Str.occurrences j i 0 j.length 1).isEmpty) else !(Builtin.Str.occurrences j i 0 j.length 1).isEmpty) S)|.kt ds=>(i9 x=true/\ds.all i9=true/\R (.bl<|if neg then !A5 (j6 x) (ds.map j6) else A5 (j6 x) (ds.map j6)) S)|.tup ds=>(i9 x=true/\ds.all i9=true/\R (.bl<|if neg then !A5 (j6 x) (ds.map j6) else A5 (j6 x) (ds.map j6)) S)|.ref a=>((∃ds,S a=some (.lst ds)/\i9 x=true/\ds.all i9=true/\R (.bl<|if neg then !A5 (j6 x) (ds.map j6) else A5 (j6 x) (ds.map j6)) S)\/∃kvs k,S a=some (.c_ kvs)/\Bw x=some k/\R (.bl<|if neg then !(bY kvs k).isSome else (bY kvs k).isSome) S)|_=>False
theorem vg(hS:Rs K S H)(e:S a=some (.c_ kvs)):∃o,pz H a (kV k) o/\o.isSome=(bY kvs k).isSome/\∀d,bY kvs k=some d->∃v,o=some v/\Rv K H d v:=by obtain⟨vs,e1,t⟩:=hS.c_ e;refine{_,pz.k e1,?_,λd h=>(t.val k).1 d h};cases q:bY kvs k with|none=>rw[(t.val k).2 q];rfl|some d=>obtain⟨v,e2,_⟩:=(t.val k).1 d q;rw[e2];rfl
theorem vh:oA K (compareOp .In) (inD false):=by rintro X hK hu pins s σ H x y v u Q I rx ry ⟨d,e,S,R,r1,r2,hS,h,hR⟩;subst hK;cases e with|str j=>(obtain⟨i,rfl,h⟩:=h;exact Em pins s σ H x y v u Q I rx ry {i,j,r1.str,r2.str,hR.now hS h<|bW _})|tup ds=>(obtain⟨f1,f2,h⟩:=h;obtain⟨a,xs,rfl,q,t⟩:=r2.tup;obtain⟨e1,g1⟩:=qP f1 r1;obtain⟨e2,g2⟩:=lV f2 t;subst e1 e2;exact m_ pins s σ H _ _ v u Q I rx ry {a,_,rfl,.inr<|.of q,g1,g2,hR.now hS h<|bW _})|kt ds=>(obtain⟨f1,f2,h⟩:=h;obtain⟨a,xs,rfl,q,t⟩:=r2.kt;obtain⟨e1,g1⟩:=qP f1 r1;obtain⟨e2,g2⟩:=lV f2 t;subst e1 e2;exact m_ pins s σ H _ _ v u Q I rx ry {a,_,rfl,.inr<|.inr q,g1,g2,hR.now hS h<|bW _})|ref a=>(cases r2.ref;rcases h with⟨ds,e,f1,f2,h⟩|⟨kvs,k,e,hk,h⟩;obtain⟨xs,e1,t⟩:=hS.lst e;obtain⟨e2,g1⟩:=qP f1 r1;obtain⟨e3,g2⟩:=lV f2 t;subst e2 e3;exact m_ pins s σ H _ _ v u Q I rx ry {a,_,rfl,.inl<|.of e1,g1,g2,hR.now hS h<|bW _};cases nv hk r1;cases ry;obtain⟨o,g,e1,_⟩:=vg (k:=k) hS e;refine Xp (by lia) I g rx λs' I'=>{.bl o.isSome,H,I',rfl,?_};rw[e1];exact hR.now hS h<|bW _)|_=>exact h.elim
def IxD(K:Frag)(r:ur):Prop:=∀X:Cx,X.K=K->X.A.units+64<cLine->Sm X (Lr K r)
inductive VY (ds:List D) (i:Int) (S:aw) (R:KD):Prop where
 |mk (d:D) (h:jK ds i=some d) (r:R d S)
inductive Yf (a:Addr) (i:Int) (S:aw) (R:KD):Prop where
 |mk (ds:List D) (d:D) (e:S a=some (.lst ds)) (h:jK ds i=some d) (r:R d S)
def ixD:ur:=λx y S R=>match x,y with|.tup ds,.int i=>VY ds i S R|.kt ds,.int i=>VY ds i S R|.jO ds,.int i=>VY ds i S R|.str z,.int i=>∃c,z.length<=sizeLine/\jK z.cps.toList i=some c/\R (.str ⟨#[c]⟩) S|.ref a,.int i=>Yf a i S R|.ref a,.str z=>∃kvs d,S a=some (.c_ kvs)/\bY kvs (.inr z)=some d/\R d S|_,_=>False
theorem RvAll.at{H:Hp}{ds:List D}{xs:List V}{i:Int}{d:D}(h:RvAll K H ds xs)(e:jK ds i=some d):∃v,jK xs i=some v/\Rv K H d v:=by unfold jK at e⊢;rw[h.len];cases q:GI ds.length i with|none=>(rw[q]at e;cases e)|some j=>rw[q]at e;exact h.get e
theorem Yg:IxD K ixD:=by rintro X hK hu value slice pins s σ H x y v u Q I rx ry ⟨d,e,S,R,r1,r2,hS,h,hR⟩ hs;subst hK;cases d with|tup ds=>(cases e with|int i=>(obtain⟨d,e,h⟩:=h;obtain⟨a,xs,rfl,q,t⟩:=r1.tup;obtain⟨z,e1,r⟩:=t.at e;exact GJ value slice pins s σ H _ _ v u Q I rx ry {a,xs,i,z,rfl,r2.int,.of q,e1,hR.now hS h r} hs)|_=>exact h.elim)|kt ds=>(cases e with|int i=>(obtain⟨d,e,h⟩:=h;obtain⟨a,xs,rfl,q,t⟩:=r1.kt;obtain⟨z,e1,r⟩:=t.at e;exact GJ value slice pins s σ H _ _ v u Q I rx ry {a,xs,i,z,rfl,r2.int,.inr q,e1,hR.now hS h r} hs)|_=>exact h.elim)|jO ds=>(cases e with|int i=>(obtain⟨d,e,h⟩:=h;obtain⟨a,xs,rfl,q,t⟩:=r1.jO;obtain⟨z,e1,r⟩:=t.at e;exact CU value slice pins s σ H _ _ v u Q I rx ry {a,xs,i,z,rfl,r2.int,q.sq,e1,hR.now hS h r} hs)|_=>exact h.elim)|str w=>(cases e with|int i=>(obtain⟨c,e0,e,h⟩:=h;exact OI value slice pins s σ H _ _ v u Q I rx ry {w,i,c,r1.str,r2.int,e0,e,hR.now hS h<|i7 _} hs)|_=>exact h.elim)|ref a=>(cases e with|int i=>(obtain⟨ds,d,e,e1,h⟩:=h;obtain⟨xs,e2,t⟩:=hS.lst e;obtain⟨z,e3,r⟩:=t.at e1;exact CU value slice pins s σ H _ _ v u Q I rx ry {a,xs,i,z,r1.ref,r2.int,.of e2,e3,hR.now hS h r} hs)|str w=>(obtain⟨kvs,d,e,e1,h⟩:=h;cases r1.ref;cases r2.str;cases rx;obtain⟨o,g,_,e2⟩:=vg (k:=.inr w) hS e;obtain⟨z,rfl,r⟩:=e2 d e1;exact tail_any (xc I g) PySem.F.slot_dict_getitem.lookup (Ex (by lia) I g ry λw' s' I' m7=>{z,H,I',m7,hR.now hS h r}) hs)|_=>exact h.elim)|_=>exact h.elim
theorem ix(hu:X.A.units+64<cLine)(ha:DE K X a ta)(hb:DE K X b tb)(hs:CT b:=by exact λ_ _=>rfl)(hK:autoParam (X.K=K) qQJ):DE K X (.Subscript a b pos) (Pn ixD ta tb):=⟨λy=>(Sn (Yg y.cx hK hu) (ha.of y) (hb.of y) hs).mono λ_ _ _ h=>h.op⟩
end
section
variable{K:Frag}{X:Cx}
abbrev MW:=SD->aw->(Option Int->aw->Prop)->KX->Prop
def To(K:Frag)(E:St->XK)(t:MW):TO:=λτ H Q=>∃σ S R Z,hG K H σ τ/\Rs K S H/\t σ S R Z/\(∀o S' H',R o S'->Rs K S' H'->Kp K H H'->Q o H')/\EO K H Z (E τ)
structure DO(K:Frag)(X:Cx)(e:Option Expr)(t:MW):Prop where
 of:∀{b:Bool}(y:Ev X b),PO y.cx e<|To K y.E t
theorem PO.mono{t t':TO}(h:PO X e t)(i:∀τ H Q,t' τ H Q->t τ H Q):PO X e t':=λpins s τ H Q I q=>h pins s τ H Q I<|i τ H Q q
def Tz:MW:=λ_ S R _=>R none S
inductive TB (d:D) (S:aw) (R:Option Int->aw->Prop):Prop where
 |mk (i:Int) (h:d=.int i) (r:R (some i) S)
def TC(t:TD):MW:=λσ S R Z=>t σ S (λd S1=>TB d S1 R) Z
theorem o0:DO K X none Tz:=⟨λy=>(Kk (X:=y.cx)).mono <| by rintro τ H Q ⟨σ,S,R,Z,aA,hS,q,hR,hZ⟩;exact hR _ S H q hS<|.refl _⟩
theorem o1{t:TD}(h:DE K X e t):DO K X (some e) (TC t):=⟨λy=>(Kl<|h.of y).mono <| by rintro τ H Q ⟨σ,S,R,Z,aA,hS,q,hR,hZ⟩;exact{σ,S,_,Z,aA,hS,q,by rintro d S1 x H1 ⟨i,e,r1⟩ v1 s1 k1;exact by subst e;exact{i,v1.int,hR _ S1 H1 r1 s1 k1},hZ}⟩
noncomputable def cD{α:Type}(xs:List α)(lo hi:Option Int):List α:=(xs.drop<|HT.sIx xs.length 0 lo).take<|HT.sIx xs.length xs.length hi-HT.sIx xs.length 0 lo
theorem RvAll.cut{H:Hp}{ds:List D}{xs:List V}(h:RvAll K H ds xs)(lo hi:Option Int):RvAll K H (cD ds lo hi) (xa xs lo hi):=by unfold cD xa;rw[h.len];exact(h.drop _).take _
def slD:D->Option Int->Option Int->aw->KD->Prop:=λx lo hi S R=>match x with|.str z=>z.length<=sizeLine/\R (.str<|PySem.Txt.slice z lo hi) S|.tup ds=>¬(HT.sIx ds.length 0 lo=0/\HT.sIx ds.length ds.length hi=ds.length)/\R (.tup<|cD ds lo hi) S|.ref a=>∃ds,S a=some (.lst ds)/\∀p,S p=none->R (.ref p) (S.set p<|.lst<|cD ds lo hi)|.jO ds=>∀p,S p=none->R (.ref p) (S.set p<|.lst<|cD ds lo hi)|_=>False
def Lsl(K:Frag):V->Option Int->Option Int->Hp->VK->Prop:=λx lo hi H Q=>∃d S R,Rv K H d x/\Rs K S H/\slD d lo hi S R/\Cn K H R Q
theorem Yh(hK:X.K=K):Q1 X (Lsl K):=by rintro pins s σ H x v vl vu lo hi sl Q I rx hs pl pu ⟨d,S,R,r1,hS,h,hR⟩;subst hK;cases d with|str z=>exact Pl pins s σ H x v vl vu lo hi sl Q I rx hs pl pu {z,r1.str,h.1,hR.now hS h.2<|i7 _}|tup ds=>(obtain⟨a,xs,rfl,q,t⟩:=r1.tup;exact OH pins s σ H _ v vl vu lo hi sl Q I rx hs pl pu {a,xs,rfl,.of q,by rw[t.len];exact h.1,λp hp=>hR.Tv hS hp h.2<|t.cut lo hi})|ref a=>(obtain⟨ds,e,h⟩:=h;obtain⟨xs,e1,t⟩:=hS.lst e;exact pZ pins s σ H _ v vl vu lo hi sl Q I rx hs pl pu {a,xs,r1.ref,.of e1,λp hp=>hR.new hS hp (h p)<|t.cut lo hi})|jO ds=>(obtain⟨a,xs,rfl,q,t⟩:=r1.jO;exact pZ pins s σ H _ v vl vu lo hi sl Q I rx hs pl pu {a,xs,rfl,q.sq,λp hp=>hR.new hS hp (h p)<|t.cut lo hi})|_=>exact h.elim
def dSl(te:TD)(tl th:MW):TD:=λσ S R Z=>te σ S (λx S1=>tl σ S1 (λl S2=>th σ S2 (λu S3=>slD x l u S3 R) Z) Z) Z
theorem sl{e:Expr}{lo hi:Option Expr}{te:TD}{tl th:MW}{p2 pos:Pos}(he:DE K X e te)(hl:DO K X lo tl)(hu:DO K X hi th)(hK:autoParam (X.K=K) qQJ):DE K X (.Subscript e (.Slice lo hi none p2) pos) (dSl te tl th):=
 ⟨λy=>(w_ (X:=y.cx) (Yh hK) (he.of y) (hl.of y)<|hu.of y).mono <| by rintro τ H Q ⟨σ,S,R,Z,aA,hS,q,hR,hZ⟩;exact
  ⟨σ,S,_,Z,aA,hS,q,λd S1 x H1 r1 v1 s1 k1=>⟨σ,S1,_,Z,aA.ts k1,s1,r1,λl S2 H2 r2 s2 k2=>⟨σ,S2,_,Z,aA.ts<|k1.trans k2,s2,r2,λu S3 H3 r3 s3 k3=>⟨d,S3,R,Rv.ts (k2.trans k3) _ v1,s3,r3,hR.kp<|(k1.trans k2).trans k3⟩,hZ.kp<|k1.trans k2⟩,hZ.kp k1⟩,hZ⟩⟩
def Yi(te:TD):TD:=λσ S R Z=>te σ S (λx S1=>∃i,x=.int i/\R (.int (-i)) S1) Z
theorem K9(he:DE K X e te):DE K X (.UnaryOp .USub e pos) (Yi te):=⟨λy=>(R7 Oy<|he.of y).mono <| by rintro τ H Q ⟨σ,S,R,Z,aA,hS,q,hR,hZ⟩;exact{σ,S,_,Z,aA,hS,q,by rintro d S1 x H1 ⟨i,e,r1⟩ v1 s1 k1;exact by subst e;exact{i,v1.int,hR _ S1 _ H1 r1 (aN _) s1 k1},hZ}⟩
def Yj(T:String)(S:aw):D->Prop|.str _=>T ="str"|.ref a=>T ="list"/\∃ds,S a=some (.lst ds)|.jO _=>T ="list"|_=>False
theorem MX{H:Hp}{S:aw}{T:String}{d:D}{v:V}(h:Yj T S d)(hS:Rs K S H)(r:Rv K H d v):VN K T v H:=by cases d with|str z=>rw[r.str];exact h|ref a=>(obtain⟨e,ds,h⟩:=h;obtain⟨xs,e1,_⟩:=hS.lst h;rw[r.ref];exact .inl {e,xs,.of e1})|jO ds=>(obtain⟨a,xs,rfl,q,_⟩:=r.jO;exact .inl ⟨h,xs,q.sq⟩)|_=>exact h.elim
abbrev ER:=D->List D->aw->KD->Prop
def Lm(K:Frag)(r:ER):V->List V->Hp->VK->Prop:=λx xs H Q=>∃d ds S R,Rv K H d x/\RvAll K H ds xs/\Rs K S H/\r d ds S R/\Cn K H R Q
def K_(K:Frag)(id:String)(r:ER):Prop:=∀X:Cx,X.K=K->Q2 X id (Lm K r)
def dBM(T:String)(r:ER)(to:TD)(t:gX):TD:=λσ S R Z=>to σ S (λx S1=>Yj T S1 x/\t σ S1 (λds S2=>r x ds S2 R) Z) Z
def Yk(T:String)(r:ER)(to:TD):TD:=λσ S R Z=>to σ S (λx S1=>Yj T S1 x/\r x [] S1 R) Z
theorem bm{o e:Expr}{es:List Expr}{T id:String}{name:Str}{r:ER}{to:TD}{t:gX}{apos aL:Pos}(pa:PlainAttrs T)(slot:Slot T name id)(ON:typeOf (.builtin id)=pure (.type "method_descriptor"))(hm:K_ K id r)(ho:DE K X o to)(ha:DA K X (e::es) t) (lP:autoParam (attributeBase o name X.env (eval o X.env)=eval o X.env) qQJ) (OO:autoParam (((backTo aL<|starEach (e::es) X.env).all (λx=>!x.1)&&(backToKw aL<|keywordEach [] X.env).all (λx=>x.1.isSome)&&decide ((e::es).length+([]:List Keyword).length+(if ([]:List Keyword).isEmpty then 0 else 1)<30))=true) qQJ) (qz:autoParam ((apos.endLine==aL.line)=true) qQJ) (hs:autoParam (starEach (e::es) X.env=(false,eval e X.env)::starEach es X.env) qQJ) (A6:autoParam ((backTo aL<|starEach es X.env).any (·.1)=false) qQJ) (hK:autoParam (X.K=K) qQJ): DE K X (.Call (.Attribute o name apos) (e::es) [] aL) (dBM T r to t):=by
 subst hK
 exact⟨λy=>(Sr (X:=y.cx) pa slot ON (hm _ rfl) (ho.of y) (ha.of y) lP OO qz hs A6).mono <| by rintro τ H Q ⟨σ,S,R,Z,aA,hS,q,hR,hZ⟩;exact
  ⟨σ,S,_,Z,aA,hS,q,by rintro d S1 x H1 ⟨h1,r1⟩ v1 s1 k1;exact⟨MX h1 s1 v1,σ,S1,_,Z,aA.ts k1,s1,r1,λds S2 xs H2 r2 v2 s2 k2=>⟨d,ds,S2,R,Rv.ts k2 _ v1,v2,s2,r2,hR.kp<|k1.trans k2⟩,hZ.kp k1⟩,hZ⟩⟩
theorem bm0{o:Expr}{T id:String}{name:Str}{r:ER}{to:TD}{apos aL:Pos}(pa:PlainAttrs T)(slot:Slot T name id)(ON:typeOf (.builtin id)=pure (.type "method_descriptor"))(hm:K_ K id r)(ho:DE K X o to) (lP:autoParam (attributeBase o name X.env (eval o X.env)=eval o X.env) qQJ) (qz:autoParam ((apos.endLine==aL.line)=true) qQJ) (hK:autoParam (X.K=K) qQJ): DE K X (.Call (.Attribute o name apos) [] [] aL) (Yk T r to):=by
 subst hK
 exact⟨λy=>(OM (X:=y.cx) pa slot ON (hm _ rfl) (ho.of y) lP qz).mono <| by rintro τ H Q ⟨σ,S,R,Z,aA,hS,q,hR,hZ⟩;exact
  ⟨σ,S,_,Z,aA,hS,q,by rintro d S1 x H1 ⟨h1,r1⟩ v1 s1 k1;exact⟨MX h1 s1 v1,d,[],S1,R,v1,bx,s1,r1,hR.kp k1⟩,hZ⟩⟩
theorem RvAll.one(h:RvAll K H [d] xs):∃v,xs=[v]/\Rv K H d v:=by obtain⟨y,ys,rfl,h1,h2⟩:=h.cons;rw[h2.nil];exact⟨y,rfl,h1⟩
inductive TF (x:D) (ds:List D) (S:aw) (R:KD):Prop where
 |mk (a:Addr) (es:List D) (d:D) (e1:x=.ref a) (e2:ds=[d]) (e3:S a=some (.lst es)) (e4:es.length<sizeLine) (r:R .av<|S.set a<|.lst<|es++[d])
def La:ER:=λx ds S R=>TF x ds S R
theorem cI:K_ K "list.append" La:=by rintro X hK pins s σ H x xs v us Q I rx rs ⟨d,ds,S,R,r1,r2,hS,⟨a,es,y,e1,e2,e3,hl,h⟩,hR⟩;subst e1 e2;obtain⟨w0,rfl,q2⟩:=r2.one;obtain⟨zs,e4,t⟩:=hS.lst e3;exact Ew pins s σ H x _ v us Q I rx rs {a,zs,w0,r1.ref,rfl,e4,by rw[t.len];exact hl,hR.put hS e3 h fe<|t.app<|aO q2 bx}
def Yl:ER:=λx ds S R=>∃a es d,x=.ref a/\ds=[]/\S a=some (.lst es)/\es[es.length-1]?=some d/\R d (S.set a<|.lst es.dropLast)
theorem TH:K_ K "list.pop" Yl:=by rintro X hK pins s σ H x xs v us Q I rx rs ⟨d,ds,S,R,r1,r2,hS,⟨a,es,y,e1,e2,e3,hl,h⟩,hR⟩;subst e1 e2;obtain⟨zs,e4,t⟩:=hS.lst e3;obtain⟨w,e5,r⟩:=t.get hl;exact OP pins s σ H x _ v us Q I rx rs {a,zs,w,r1.ref,r2.nil,e4,by rw[t.len];exact e5,hR.put hS e3 h r t.dropLast}
def Pp:ER:=λx ds S R=>∃a es i k d,x=.ref a/\ds=[.int i]/\S a=some (.lst es)/\-(2^63)<=i/\i<2^63/\seqIndex? i es.length=some k/\es[k]?=some d/\R d (S.set a<|.lst<|es.eraseIdx k)
theorem Lb:K_ K "list.pop" Pp:=by rintro X hK pins s σ H x xs v us Q I rx rs ⟨d,ds,S,R,r1,r2,hS,⟨a,es,i,k,y,e1,e2,e3,h1,h2,h3,h4,h⟩,hR⟩;subst e1 e2;obtain⟨w0,rfl,q2⟩:=r2.one;obtain⟨zs,e4,t⟩:=hS.lst e3;obtain⟨w,e5,r⟩:=t.get h4;exact GP pins s σ H x _ v us Q I rx rs {a,zs,i,k,w,r1.ref,by rw[q2.int],e4,h1,h2,by rw[t.len];exact h3,e5,hR.put hS e3 h r<|t.erase k}
def Ld:ER:=λx ds S R=>∃(es:List D)(d:D)(j:Nat),ds=[d]/\xw S x es/\i9 d=true/\es.all i9=true/\(∃z,es[j]?=some z/\eqV (j6 z) (j6 d)=true)/\(∀m u,m<j->es[m]?=some u->eqV (j6 u) (j6 d)=false)/\R (.int j) S
theorem qQ:K_ K "list.index" Ld:=by rintro X hK pins s σ H x xs v us Q I rx rs ⟨d,ds,S,R,r1,r2,hS,⟨es,y,j,e2,e3,f1,f2,⟨z,e4,e5⟩,h4,h⟩,hR⟩;subst hK e2;obtain⟨w0,rfl,q2⟩:=r2.one;obtain⟨a,zs,rfl,q,t⟩:=e3.at hS r1;obtain⟨g1,g2⟩:=qP f1 q2;obtain⟨g3,g4⟩:=lV f2 t;subst g1 g3;refine EM pins s σ H _ _ v us Q I rx rs {a,_,_,j6 z,j,rfl,rfl,q,g2,g4,by rw[zi,e4];rfl,e5,λm u hm e=>?_,hR.now hS h<|aN _};rw[zi]at e;cases q2:es[m]? with|none=>(rw[q2]at e;cases e)|some u'=>rw[q2]at e;cases e;exact h4 m u' hm q2
def Le:ER:=λx ds S R=>∃z y,x=.str z/\ds=[.str y]/\R (.bl<|PySem.Txt.startswith z y) S
theorem Hk:K_ K "str.startswith" Le:=by rintro X hK pins s σ H x xs v us Q I rx rs ⟨d,ds,S,R,r1,r2,hS,⟨z,y,e1,e2,h⟩,hR⟩;subst e1 e2;obtain⟨w0,rfl,q2⟩:=r2.one;exact sY pins s σ H _ _ v us Q I rx rs {z,y,r1.str,by rw[q2.str],hR.now hS h<|bW _}
def TJ(S:aw)(R:KD):D->Prop|.str z=>z.length<=sizeLine/\R (.int z.length) S|.tup es=>R (.int es.length) S|.kt es=>R (.int es.length) S|.jO es=>R (.int es.length) S|.ref a=>(∃es,S a=some (.lst es)/\R (.int es.length) S)\/∃kvs,S a=some (.c_ kvs)/\R (.int kvs.length) S|_=>False
inductive TK (ds:List D) (S:aw) (R:KD):Prop where
 |mk (x:D) (h:ds=[x]) (r:TJ S R x)
def Ym:List D->aw->KD->Prop:=λds S R=>TK ds S R
theorem aK:gA K (.builtin "len") Ym:=by rintro X hK hc pins s σ H xs us Q I rx ⟨ds,S,R,r,hS,⟨x,e,h⟩,hR⟩;subst hK e;obtain⟨w,rfl,r'⟩:=r.one;cases x with|str z=>(cases r'.str;exact iY pins s σ H _ us Q I rx {_,_,rfl,⟨h.1,rfl⟩,hR.now hS h.2<|aN _})|tup es=>(obtain⟨a,xs,rfl,q,t⟩:=r'.tup;exact iY pins s σ H _ us Q I rx {_,_,rfl,.inr {xs,.of q,t.len.symm},hR.now hS h<|aN _})|kt es=>(obtain⟨a,xs,rfl,q,t⟩:=r'.kt;exact iY pins s σ H _ us Q I rx {_,_,rfl,.inr {xs,.inr q,t.len.symm},hR.now hS h<|aN _})|jO es=>(obtain⟨a,xs,rfl,q,t⟩:=r'.jO;exact iY pins s σ H _ us Q I rx {_,_,rfl,.inl ⟨xs,q.sq,t.len.symm⟩,hR.now hS h<|aN _})|ref a=>(cases r'.ref;rcases h with⟨es,e,h⟩|⟨kvs,e,h⟩;obtain⟨xs,e1,t⟩:=hS.lst e;exact iY pins s σ H _ us Q I rx {_,_,rfl,.inl {xs,.of e1,t.len.symm},hR.now hS h<|aN _};obtain⟨xs,e1,t⟩:=hS.c_ e;exact EB pins s σ H _ us Q I rx {a,xs,rfl,e1,by rw[t.len];exact hR.now hS h<|aN _})|_=>exact h.elim
def Pq(S:aw):D->Kd->Prop|.av,k=>k=.av|.bl _,k=>k=.bl|.int _,k=>k=.int|.str _,k=>k=.str|.ref a,k=>(k=.lst/\∃ds,S a=some (.lst ds))\/(k=.c_/\∃ds,S a=some (.c_ ds))|.tup _,k=>k=.tup|_,_=>False
theorem TL(h:Pq S d k)(hS:Rs K S H)(r:Rv K H d v):qG H v k:=by cases d with|av=>(cases h;rw[r.av];exact .av)|bl b=>(cases h;rw[r.bl];exact .bl b)|int b=>(cases h;rw[r.int];exact .int b)|str b=>(cases h;rw[r.str];exact .str b)|tup b=>(cases h;obtain⟨a,xs,rfl,q,_⟩:=r.tup;exact .tup q)|ref a=>(rw[r.ref];rcases h with⟨rfl,ds,h⟩|⟨rfl,ds,h⟩;obtain⟨xs,e,_⟩:=hS.lst h;exact .lst e;obtain⟨xs,e,_⟩:=hS.c_ h;exact .c_ e)|_=>exact h.elim
inductive TM (ds:List D) (S:aw) (R:KD):Prop where
 |mk (x:D) (n:String) (k:Kd) (g:Kd->Bool) (e:ds=[x,.ty n]) (a:u9 n=some g) (b:Pq S x k) (r:R (.bl<|g k) S)
def Yn:List D->aw->KD->Prop:=λds S R=>TM ds S R
theorem RvAll.two(h:RvAll K H [d,e] xs):∃v u,xs=[v,u]/\Rv K H d v/\Rv K H e u:=by obtain⟨y,ys,rfl,h1,h2⟩:=h.cons;obtain⟨u,rfl,h3⟩:=h2.one;exact⟨y,u,rfl,h1,h3⟩
theorem cF:gA K (.builtin "isinstance") Yn:=by rintro X hK hc pins s σ H xs us Q I rx ⟨ds,S,R,r,hS,⟨x,n,k,g,e,h1,h2,h⟩,hR⟩;subst hK e;obtain⟨v,u,rfl,r1,r2⟩:=r.two;rw[r2.ty]at rx;exact G8 pins s σ H _ us Q I rx {v,n,k,g,rfl,h1,TL h2 hS r1,hR.now hS h<|bW _}
inductive TN (ds:List D) (S:aw) (f:List Bool->Bool) (R:KD):Prop where
 |mk (x:D) (bs:List Bool) (e:ds=[x]) (h:xw S x<|bs.map D.bl) (r:R (.bl<|f bs) S)
def TQ:List D->aw->KD->Prop:=λds S R=>TN ds S (λbs=>bs.all id) R
theorem i_:gA K (.builtin "all") TQ:=by rintro X hK hc pins s σ H xs us Q I rx ⟨ds,S,R,r,hS,⟨x,bs,e,h1,h⟩,hR⟩;subst hK e;obtain⟨v,rfl,r1⟩:=r.one;obtain⟨a,zs,rfl,q,t⟩:=h1.at hS r1;rw[t.bools]at q;exact sT hc pins s σ H _ us Q I rx {a,bs,rfl,q,hR.now hS h<|bW _}
def Yo:List D->aw->KD->Prop:=λds S R=>∃(x:D)(bs:List Bool),ds=[x]/\xw S x (bs.map D.bl)/\R (.bl<|bs.any id) S
theorem MY:gA K (.builtin "any") Yo:=by rintro X hK hc pins s σ H xs us Q I rx ⟨ds,S,R,r,hS,⟨x,bs,e,h1,h⟩,hR⟩;subst hK e;obtain⟨v,rfl,r1⟩:=r.one;obtain⟨a,zs,rfl,q,t⟩:=h1.at hS r1;rw[t.bools]at q;exact sU hc pins s σ H _ us Q I rx {a,bs,rfl,q,hR.now hS h<|bW _}
def intD:List D->aw->KD->Prop:=λds S R=>(∃i,ds=[.int i]/\R (.int i) S)\/∃k,ds=[.bl k]/\R (.int<|if k then 1 else 0) S
theorem C7:gA K (.type "int") intD:=by rintro X hK hc pins s σ H xs us Q I rx ⟨ds,S,R,r,hS,h,hR⟩;rcases h with⟨i,rfl,h⟩|⟨k,rfl,h⟩;obtain⟨v,rfl,r1⟩:=r.one;exact t9 pins s σ H _ us Q I rx<|.inl {i,by rw[r1.int],hR.now hS h<|aN _};obtain⟨v,rfl,r1⟩:=r.one;exact t9 pins s σ H _ us Q I rx<|.inr {k,by rw[r1.bl],hR.now hS h<|aN _}
inductive TR (ds:List D) (S:aw) (R:KD):Prop where
 |mk (x:D) (es:List D) (e:ds=[x]) (h:xw S x es\/x=.tup es) (r:R (.tup es) S)
def Pr:List D->aw->KD->Prop:=λds S R=>TR ds S R
theorem fS:gA K (.type "tuple") Pr:=by rintro X hK hc pins s σ H xs us Q I rx ⟨ds,S,R,r,hS,⟨x,es,e,h1,h⟩,hR⟩;subst hK e;obtain⟨v,rfl,r1⟩:=r.one;rcases h1 with h1|rfl;obtain⟨a,zs,rfl,q,t⟩:=h1.at hS r1;exact kr pins s σ H _ us Q I rx {a,zs,rfl,.inl {q,λp hp=>hR.Tv hS hp h t}};obtain⟨a,zs,rfl,q,t⟩:=r1.tup;exact kr pins s σ H _ us Q I rx {a,zs,rfl,.inr {.of q,hR.now hS h<|nr q t}}
def minD(f:Int->Int->Bool):List D->aw->KD->Prop:=λds S R=>∃i j,ds=[.int i,.int j]/\R (.int<|if f j i then j else i) S
theorem MZ:gA K (.builtin "min") (minD λa b=>decide<|a<b):=by rintro X hK hc pins s σ H xs us Q I rx ⟨ds,S,R,r,hS,⟨i,j,e,h⟩,hR⟩;subst e;obtain⟨v,u,rfl,r1,r2⟩:=r.two;refine Ep hc pins s σ H _ us Q I rx {i,j,by rw[r1.int,r2.int],?_};have:=hR.now hS h<|aN _;simpa using this
theorem M0:gA K (.builtin "max") (minD λa b=>decide<|b<a):=by rintro X hK hc pins s σ H xs us Q I rx ⟨ds,S,R,r,hS,⟨i,j,e,h⟩,hR⟩;subst e;obtain⟨v,u,rfl,r1,r2⟩:=r.two;refine Eo hc pins s σ H _ us Q I rx {i,j,by rw[r1.int,r2.int],?_};have:=hR.now hS h<|aN _;simpa using this
end
abbrev ja:=List D->aw->KD->KX->Prop
def mV(K:Frag)(sp:ja):Sp:=λvs H Q e=>∃ds S R Z,RvAll K H ds vs/\Rs K S H/\sp ds S R Z/\Cn K H R Q/\EO K H Z e
section
variable{K:Frag}{X:Cx}{k:Nat}{f C:Addr}{fd:FuncData}{ps:List Str}{sp:Sp}{pq:List V}{ds:List Value}{x m:Str}{p pos apos:Pos}{e o:Expr}{es:List Expr}{b:Bool}{y:Ev X b}
theorem p_(F:bF X.prog X.w X.K X.mg X.base (fc X.prog X.w X.mg) k f fd ps sp)(hr:bJ k X.A)(hb:Binds X.K fd ps ds)(hd:Vals pq ds) (I:Inv y.cx p2 σ H s) (r:Vals vs us) (h:sp (vs++pq) H Q<|y.E σ):wpAny (model X.prog X.w) X.A (call (.ref f) us) (EP y.cx p2 σ Q) y.xe s:=by
 have r2:Vals (vs++pq) (us++ds):=r.append hd;have hl:(us++ds).length=ps.length:=by rw[<-r2.length];exact F.len _ _ _ _ h
 refine wpAny_call<|yU (F.run X.A X.stack s H {us,[]} (us++ds) (vs++pq) Q (y.E σ) hr I.Sh (hb s us I.mY hl) r2 h) λres s' hq=>?_;cases res with|error e=>exact y.ok.call p2 σ H s e s' I hq|ok fl=>cases fl with|ret u=>exact I.after hq|next=>exact False.elim hq|brk=>exact False.elim hq|cont=>exact False.elim hq
theorem Hl{t:TA}(F:bF X.prog X.w X.K X.mg X.base (fc X.prog X.w X.mg) k f fd ps sp)(hr:bJ k X.A)(hg:Gl X x)(hm:X.mg x=some (.ref f))(hk:keepIn X.K (.ref f)=true)(hb:Binds X.K fd ps ds)(hd:Vals pq ds) (ha:PA y.cx (e::es) t) (lN:(x==("__debug__": Str))=false) (he:starEach (e::es) X.env=(false,eval e X.env)::starEach es X.env) (cP:(backTo pos<|starEach es X.env).any (·.1)=false): PE y.cx (.Call (.Name x p) (e::es) [] pos) (λσ H Q=>t σ H λvs H1=>sp (vs++pq) H1 Q<|y.E σ):=by intro p2 s σ H Q I h;refine wpAny_Call_Name_kw<|pV I hg hm ?_ lN;refine callWith_K (h₀:=X.base) I.ok.mod.NX hk (bw (ha pos p2 s σ H _ I h) λus s1 ⟨vs,H1,I1,r,q⟩=>{I1.mY,?_}) he cP;exact p_ F hr hb hd I1 r q
theorem Hm{pl:Sem Bool}{ta:TE}{t:TA}(he:PE y.cx o ta)(c:qx X.K C)(hm:Meth X.K C m f)(F:bF X.prog X.w X.K X.mg X.base (fc X.prog X.w X.mg) k f fd ps sp)(hr:bJ k X.A)(hb:Binds X.K fd ps ds)(hd:Vals pq ds)(ha:PA y.cx (e::es) t)
  (w4:starEach (e::es) X.env=(false,eval e X.env)::starEach es X.env) (cP:(backTo pos<|starEach es X.env).any (·.1)=false)
  (ht:eval (.Call (.Attribute o m apos) (e::es) [] pos) X.env=(do
   let ov <-eval o X.env
   standAt apos.atName
   let (f,first) <-holding [ov] (getMethod ov m pl)
   callWith pos f first (backTo pos<|starEach (e::es) X.env) (backToKw pos<|keywordEach [] X.env))):
  PE y.cx (.Call (.Attribute o m apos) (e::es) [] pos) (λσ H Q=>ta σ H λx H1=>∃a dx fs,x=.ref a/\H1 a=some (.ins C dx fs)/\fs.lookup m=none/\t σ H1 λvs H2=>sp (x::(vs++pq)) H2 Q<|y.E σ):=by
 intro p2 s σ H Q I h
 refine methodCall_KW (pl:=pl) (bw (he p2 s σ H _ I h) λu s1 ⟨x,H1,I1,rx,a,dx,fs,ex,ea,l,q⟩=>?_) ht
 subst ex
 obtain rfl:u=Value.ref a:=rx
 refine qy I1 ea c hm l ?_
 refine callWith_K (first:=[.ref a]) (h₀:=X.base) I.ok.mod.NX hm.kp (bw (ha pos p2 s1 σ H1 _ I1 q) λus s2 ⟨vs,H2,I2,r,q2⟩=>{I2.mY,?_}) w4 cP
 exact p_ (us:=.ref a::us) (vs:=.ref a::vs) F hr hb hd I2 (.cons rfl r) q2
theorem ES(he:PE y.cx o ta)(c:qx X.K C)(hm:Meth X.K C m f)(F:bF X.prog X.w X.K X.mg X.base (fc X.prog X.w X.mg) k f fd ps sp)(hr:bJ k X.A)(hb:Binds X.K fd ps ds)(hd:Vals pq ds)
  (ht:eval (.Call (.Attribute o m apos) [] [] pos) X.env=(do
   let ov <-eval o X.env
   standAt apos.atName
   let (f,first) <-holding [ov] (getMethod ov m pl)
   callWith pos f first (backTo pos<|starEach [] X.env) (backToKw pos<|keywordEach [] X.env))):
  PE y.cx (.Call (.Attribute o m apos) [] [] pos) (λσ H Q=>ta σ H λx H1=>∃a dx fs,x=.ref a/\H1 a=some (.ins C dx fs)/\fs.lookup m=none/\sp (x::pq) H1 Q (y.E σ)):=by
 intro p2 s σ H Q I h
 refine methodCall_KW (pl:=pl) (bw (he p2 s σ H _ I h) λu s1 ⟨x,H1,I1,rx,a,dx,fs,ex,ea,l,q⟩=>?_) ht
 subst ex
 obtain rfl:u=Value.ref a:=rx
 refine qy I1 ea c hm l ?_
 exact PySem.W.callWith_K0 (first:=[.ref a]) I1.mY hm.kp<|p_ (us:=[.ref a]) (vs:=[.ref a]) F hr hb hd I1 (.cons rfl .nil) q
theorem ET(M:Mk X.K C f)(F:bF X.prog X.w X.K X.mg X.base (fc X.prog X.w X.mg) k f fd ps sp)(hr:bJ (k+1) X.A)(hb:Binds X.K fd ps ds)(hd:Vals pq ds) (I:Inv y.cx p2 σ H s) (r:Vals vs us) (h:∀x dx,H x=none->H dx=none->dx≠x->sp (.ref x::(vs++pq)) (upd (upd H dx<|.own x) x<|.ins C dx []) (λv H2=>v=.av/\Q (.ref x) H2) (y.E σ)): wpAny (model X.prog X.w) X.A (call (.ref C) us) (EP y.cx p2 σ Q) y.xe s:=by
 have hq:=h (s.heap.objs.size+1) s.heap.objs.size (I.aJ.fresh<|yS _) (I.aJ.fresh<|zr _)<|zA<|Nat.lt_succ_self _;have I2:=Inv.made (C:=C) I;have r2:Vals (V.ref (s.heap.objs.size+1)::(vs++pq)) (Value.ref (s.heap.objs.size+1)::(us++ds)):=.cons rfl<|r.append hd;have hl:(Value.ref (s.heap.objs.size+1)::us++ds).length=ps.length:=by have e:=r2.length;rw[F.len _ _ _ _ hq]at e;exact e.symm
 refine wpAny_call<|GH (f:=f) I.mY M.makes M.init (beq_iff_eq.mp M.fn)<|yU (F.run _ X.stack _ _ {Value.ref (s.heap.objs.size+1)::us,[]} (Value.ref (s.heap.objs.size+1)::(us++ds)) _ _ (y.E σ) (hr.make C us []) (I2.Sh.make C us []) (hb _ (Value.ref (s.heap.objs.size+1)::us) I2.mY hl) r2 hq) λr s' Ge=>?_;cases r with|error e=>exact y.ok.call p2 σ _ _ e s' I2 Ge|ok fl=>cases fl with|ret u=>(obtain⟨v,H',I3,rv,ev,q3⟩:=I2.after Ge;subst ev;exact{rv,{V.ref<|s.heap.objs.size+1,H',I3,rfl,q3}})|next=>exact False.elim Ge|brk=>exact False.elim Ge|cont=>exact False.elim Ge
theorem Hn{t:TA}(M:Mk X.K C f)(F:bF X.prog X.w X.K X.mg X.base (fc X.prog X.w X.mg) k f fd ps sp)(hr:bJ (k+1) X.A)(hg:Gl X x)(hm:X.mg x=some (.ref C))(hb:Binds X.K fd ps ds)(hd:Vals pq ds) (ha:PA y.cx (e::es) t) (lN:(x==("__debug__": Str))=false) (he:starEach (e::es) X.env=(false,eval e X.env)::starEach es X.env) (cP:(backTo pos<|starEach es X.env).any (·.1)=false): PE y.cx (.Call (.Name x p) (e::es) [] pos) (λσ H Q=>t σ H λvs H1=>∀x dx,H1 x=none->H1 dx=none->dx≠x->sp (.ref x::(vs++pq)) (upd (upd H1 dx<|.own x) x<|.ins C dx []) (λv H2=>v=.av/\Q (.ref x) H2) (y.E σ)):=by intro p2 s σ H Q I h;refine wpAny_Call_Name_kw<|pV I hg hm ?_ lN;refine callWith_K (h₀:=X.base) I.ok.mod.NX M.kp (bw (ha pos p2 s σ H _ I h) λus s1 ⟨vs,H1,I1,r,q⟩=>{I1.mY,?_}) he cP;exact ET M F hr hb hd I1 r q
end
section
variable{K:Frag}{X:Cx}{k:Nat}{f C:Addr}{fd:FuncData}{ps:List Str}{sp:ja}{xA:List D}{pq:List V}{ds:List Value}{x m:Str}{p pos apos:Pos}{e o:Expr}{es:List Expr}
structure Pt(K:Frag)(xA:List D)(pq:List V)(ds:List Value):Prop where
 v:Vals pq ds
 d:∀H,RvAll K H xA pq
theorem d0:Pt K [] [] []:={.nil,λ_=>bx}
theorem d1:Pt K [.av] [.av] [.none]:={.cons rfl .nil,λ_=>aO fe bx}
theorem d2:Pt K [.av,.av] [.av,.av] [.none,.none]:={.cons rfl<|.cons rfl .nil,λ_=>aO fe<|aO fe bx}
def M4(sp:ja)(xA:List D)(t:gX):TD:=λσ S R Z=>t σ S (λds S1=>sp (ds++xA) S1 R Z) Z
theorem cf{t:gX}(F:bF X.prog X.w K X.mg X.base (fc X.prog X.w X.mg) k f fd ps<|mV K sp)(hr:bJ k X.A)(hm:X.mg x=some (.ref f))(hk:keepIn K (.ref f)=true)(hb:Binds K fd ps ds)(hd:Pt K xA pq ds)(ha:DA K X (e::es) t) (hg:autoParam (Gl X x) qQJ) (lN:autoParam ((x==("__debug__": Str))=false) qQZ) (he:autoParam (starEach (e::es) X.env=(false,eval e X.env)::starEach es X.env) qQJ) (cP:autoParam ((backTo pos<|starEach es X.env).any (·.1)=false) qQJ) (hK:autoParam (X.K=K) qQJ): DE K X (.Call (.Name x p) (e::es) [] pos) (M4 sp xA t):=by
 subst hK
 exact⟨λy=>(Hl F hr hg hm hk hb hd.v (ha.of y) lN he cP).mono <| by rintro τ H Q ⟨σ,S,R,Z,aA,hS,q,hR,hZ⟩;exact
  ⟨σ,S,_,Z,aA,hS,q,λes S1 xs H1 r1 v1 s1 k1=>⟨es++xA,S1,R,Z,v1.app<|hd.d _,s1,r1,hR.kp k1,hZ.kp k1⟩,hZ⟩⟩
inductive MeR (C:Addr) (m:Str) (x:D) (S:aw) (p:Prop):Prop where
 |mk (a:Addr) (fs:List<|Str×D) (e1:x=.ref a) (e2:S a=some (.ins C fs)) (e3:fs.lookup m=none) (r:p)
def C8(C:Addr)(m:Str)(sp:ja)(xA:List D)(ta:TD)(t:gX):TD:=λσ S R Z=>ta σ S (λx S1=>MeR C m x S1<|t σ S1 (λds S2=>sp (x::(ds++xA)) S2 R Z) Z) Z
theorem Yp{t:gX}(he:DE K X o ta)(c:qx K C)(hm:Meth K C m f)(F:bF X.prog X.w K X.mg X.base (fc X.prog X.w X.mg) k f fd ps<|mV K sp)(hr:bJ k X.A)(hb:Binds K fd ps ds)(hd:Pt K xA pq ds)(ha:DA K X (e::es) t)
  (w4:autoParam (starEach (e::es) X.env=(false,eval e X.env)::starEach es X.env) qQJ) (cP:autoParam ((backTo pos<|starEach es X.env).any (·.1)=false) qQJ)
  (ht:autoParam (eval (.Call (.Attribute o m apos) (e::es) [] pos) X.env=(do
   let ov <-eval o X.env
   standAt apos.atName
   let (f,first) <-holding [ov] (getMethod ov m pl)
   callWith pos f first (backTo pos<|starEach (e::es) X.env) (backToKw pos<|keywordEach [] X.env))) qQJ) (hK:autoParam (X.K=K) qQJ):
  DE K X (.Call (.Attribute o m apos) (e::es) [] pos) (C8 C m sp xA ta t):=by
 subst hK
 exact⟨λy=>(Hm (he.of y) c hm F hr hb hd.v (ha.of y) w4 cP ht).mono <| by rintro τ H Q ⟨σ,S,R,Z,aA,hS,q,hR,hZ⟩;exact
  ⟨σ,S,_,Z,aA,hS,q,by
   rintro d S1 x H1 ⟨a,fs,e1,e2,e3,r1⟩ v1 s1 k1
   subst e1
   obtain⟨dx,vs,e4,t4⟩:=s1.ins e2
   exact{a,dx,vs,v1.ref,e4,(t4.look m).2 e3,σ,S1,_,Z,aA.ts k1,s1,r1,λes S2 xs H2 r2 v2 s2 k2=>{_,S2,R,Z,aO (Rv.ts k2 _ v1)<|v2.app<|hd.d _,s2,r2,hR.kp<|k1.trans k2,hZ.kp<|k1.trans k2},hZ.kp k1},hZ⟩⟩
theorem TU(he:DE K X o ta)(c:qx K C)(hm:Meth K C m f)(F:bF X.prog X.w K X.mg X.base (fc X.prog X.w X.mg) k f fd ps<|mV K sp)(hr:bJ k X.A)(hb:Binds K fd ps ds)(hd:Pt K xA pq ds)
  (ht:autoParam (eval (.Call (.Attribute o m apos) [] [] pos) X.env=(do
   let ov <-eval o X.env
   standAt apos.atName
   let (f,first) <-holding [ov] (getMethod ov m pl)
   callWith pos f first (backTo pos<|starEach [] X.env) (backToKw pos<|keywordEach [] X.env))) qQJ) (hK:autoParam (X.K=K) qQJ):
  DE K X (.Call (.Attribute o m apos) [] [] pos) (C8 C m sp xA ta K8):=by
 subst hK
 exact⟨λy=>(ES (he.of y) c hm F hr hb hd.v ht).mono <| by rintro τ H Q ⟨σ,S,R,Z,aA,hS,q,hR,hZ⟩;exact
  ⟨σ,S,_,Z,aA,hS,q,by
   rintro d S1 x H1 ⟨a,fs,e1,e2,e3,r1⟩ v1 s1 k1
   subst e1
   obtain⟨dx,vs,e4,t4⟩:=s1.ins e2
   exact{a,dx,vs,v1.ref,e4,(t4.look m).2 e3,_,S1,R,Z,aO v1<|hd.d _,s1,r1,hR.kp k1,hZ.kp k1},hZ⟩⟩
def TV(C:Addr)(sp:ja)(xA:List D)(t:gX):TD:=λσ S R Z=>t σ S (λds S1=>∀x,S1 x=none->sp (.ref x::(ds++xA)) (S1.set x<|.ins C []) (λd S2=>d=.av/\R (.ref x) S2) Z) Z
theorem mk{t:gX}(M:Mk K C f)(F:bF X.prog X.w K X.mg X.base (fc X.prog X.w X.mg) k f fd ps<|mV K sp)(hr:bJ (k+1) X.A)(hm:X.mg x=some (.ref C))(hb:Binds K fd ps ds)(hd:Pt K xA pq ds)(ha:DA K X (e::es) t) (hg:autoParam (Gl X x) qQJ) (lN:autoParam ((x==("__debug__": Str))=false) qQZ) (he:autoParam (starEach (e::es) X.env=(false,eval e X.env)::starEach es X.env) qQJ) (cP:autoParam ((backTo pos<|starEach es X.env).any (·.1)=false) qQJ) (hK:autoParam (X.K=K) qQJ): DE K X (.Call (.Name x p) (e::es) [] pos) (TV C sp xA t):=by
 subst hK
 exact⟨λy=>(Hn M F hr hg hm hb hd.v (ha.of y) lN he cP).mono <| by rintro τ H Q ⟨σ,S,R,Z,aA,hS,q,hR,hZ⟩;exact
  ⟨σ,S,_,Z,aA,hS,q,λes S1 xs H1 r1 v1 s1 k1 x dx hx hdx ne=>by
   have Lg:upd H1 dx (.own x) x=none:=by rw[ax ne.symm];exact hx
   have k2:Kp X.K H1 (upd (upd H1 dx<|.own x) x<|.ins C dx []):=(Kp.new hdx).trans<|Kp.new Lg
   exact{_,_,_,Z,aO (fg x)<|RvAll.ts k2 _<|v1.app<|hd.d _,(s1.grow hdx).new (c:=.ins C []) Lg {dx,[],aE,.nil},r1 x<|s1.fresh hx,by rintro d S2 v H2 ⟨e,r2⟩ v2 s2 k3;exact by subst e;exact{v2.av,hR _ _ _ _ r2 (fg x) s2<|(k1.trans k2).trans k3},(hZ.kp k1).kp k2},hZ⟩⟩
inductive FlR (C:Addr) (f:Str) (x:D) (S:aw) (R:KD):Prop where
 |mk (a:Addr) (fs:List<|Str×D) (d:D) (e1:x=.ref a) (e2:S a=some (.ins C fs)) (e3:fs.lookup f=some d) (r:R d S)
def Yq(C:Addr)(f:Str)(ta:TD):TD:=λσ S R Z=>ta σ S (λx S1=>FlR C f x S1 R) Z
theorem fl{f:Str}{ta:TD}(c:qx K C)(n:iZ K C f)(he:DE K X e ta)(hb:autoParam (attributeBase e f X.env (eval e X.env)=eval e X.env) qQJ)(hK:autoParam (X.K=K) qQJ):DE K X (.Attribute e f pos) (Yq C f ta):=by
 subst hK
 exact⟨λy=>(OB (X:=y.cx) (he.of y) hb).mono <| by rintro τ H Q ⟨σ,S,R,Z,aA,hS,q,hR,hZ⟩;exact
  ⟨σ,S,_,Z,aA,hS,q,by
   rintro d S1 x H1 ⟨a,fs,y,e1,e2,e3,r1⟩ v1 s1 k1
   subst e1
   obtain⟨dx,vs,e4,t4⟩:=s1.ins e2
   obtain⟨v,e5,r5⟩:=(t4.look f).1 y e3
   exact{a,C,dx,vs,v,v1.ref,e4,c,n,e5,(hR.kp k1).now s1 r1 r5},hZ⟩⟩
end
structure uu where
 nx:SD->aw->Prop
 rt:KD
 bk:SD->aw->Prop:=λ_ _=>False
 ct:SD->aw->Prop:=λ_ _=>False
abbrev lI:=uu->SD->aw->(SD->KX)->Prop
def M5(K:Frag)(H:Hp)(R:SD->aw->Prop)(Q:St->Hp->Prop):Prop:=∀σ S τ H',R σ S->hG K H' σ τ->Rs K S H'->Kp K H H'->Q τ H'
structure VZ(K:Frag)(H:Hp)(De:uu)(Dv:Ends):Prop where
 nx:M5 K H De.nx Dv.nx
 rt:Cn K H De.rt Dv.rt
 bk:M5 K H De.bk Dv.bk
 ct:M5 K H De.ct Dv.ct
def xB(K:Frag)(H:Hp)(Z:SD->KX)(E:St->XK):Prop:=∀σ τ C S H',Z σ C S->hG K H' σ τ->Rs K S H'->Kp K H H'->E τ (.ref C) none H'
section
variable{K:Frag}{H H1:Hp}{De:uu}{Dv:Ends}{Z:SD->KX}{E:St->XK}{σ:SD}{τ:St}{S:aw}
theorem M5.kp(h:M5 K H R Q)(k:Kp K H H1):M5 K H1 R Q:=λσ S τ H' r a b c=>h σ S τ H' r a b<|k.trans c
theorem VZ.kp(h:VZ K H De Dv)(k:Kp K H H1):VZ K H1 De Dv:={h.nx.kp k,h.rt.kp k,h.bk.kp k,h.ct.kp k}
theorem xB.kp(h:xB K H Z E)(k:Kp K H H1):xB K H1 Z E:=λσ τ C S H' r a b c=>h σ τ C S H' r a b<|k.trans c
theorem xB.at(h:xB K H Z E)(r:hG K H σ τ):EO K H (Z σ) (E τ):=λC S H' z s k=>h σ τ C S H' z (r.ts k) s k
theorem xB.on(h:xB K H Z E)(k:Kp K H H1)(r:hG K H1 σ τ):EO K H1 (Z σ) (E τ):=(h.kp k).at r
end
def Tl(K:Frag)(E:St->XK)(t:lI):TS:=λDv τ H=>∃σ S De Z,hG K H σ τ/\Rs K S H/\t De σ S Z/\VZ K H De Dv/\xB K H Z E
structure DS(K:Frag)(X:Cx)(b:Bool)(st:Stmt)(t:lI):Prop where
 of:∀y:Ev X b,PS y.cx st<|Tl K y.E t
structure Gf(K:Frag)(X:Cx)(b:Bool)(st:List Stmt)(t:lI):Prop where
 of:∀y:Ev X b,CG y.cx st<|Tl K y.E t
theorem PS.mono{t t':TS}(h:PS X e t)(i:∀D τ H,t' D τ H->t D τ H):PS X e t':=λpins s τ H D I q=>h pins s τ H D I<|i D τ H q
theorem CG.mono{t t':TS}(h:CG X e t)(i:∀D τ H,t' D τ H->t D τ H):CG X e t':=λpins s τ H D I q=>h pins s τ H D I<|i D τ H q
section
variable{K:Frag}{X:Cx}{b:Bool}{pos:Pos}
def TY:lI:=λDe σ S _=>De.nx σ S
def Yr(t u:lI):lI:=λDe σ S Z=>t {De with nx:=λaB S'=>u De aB S' Z} σ S Z
theorem s0:Gf K X b [] TY:=⟨λy=>(JZ (X:=y.cx)).mono <| by rintro D τ H ⟨σ,S,De,Z,aA,hS,q,hD,hZ⟩;exact hD.nx _ _ _ _ q aA hS<|.refl _⟩
theorem sc{st:Stmt}{r:List Stmt}{t u:lI}(h1:DS K X b st t)(h2:Gf K X b r u):Gf K X b (st::r) (Yr t u):=
 ⟨λy=>(Gu (h1.of y)<|h2.of y).mono <| by rintro D τ H ⟨σ,S,De,Z,aA,hS,q,hD,hZ⟩;exact
  ⟨σ,S,_,Z,aA,hS,q,⟨λwM S1 Ys H1 r1 a b c=>⟨wM,S1,De,Z,a,b,r1,hD.kp c,hZ.kp c⟩,hD.rt,hD.bk,hD.ct⟩,hZ⟩⟩
theorem s1{st:Stmt}{t:lI}(h:DS K X b st t):Gf K X b [st] t:=⟨λy=>J1<|h.of y⟩
def TZ(t:TD):lI:=λDe σ S Z=>t σ S (λ_ S1=>De.nx σ S1)<|Z σ
theorem se{t:TD}(h:DE K X e t)(hs:autoParam (swapsWith e none pos.line X.env=pure false) qQJ):DS K X b (.Expr e pos) (TZ t):=⟨λy=>(J2 (X:=y.cx) (h.of y) hs).mono <| by rintro D τ H ⟨σ,S,De,Z,aA,hS,q,hD,hZ⟩;exact{σ,S,_,_,aA,hS,q,λd S1 v H1 r1 _ s1 k1=>hD.nx _ _ _ _ r1 (aA.ts k1) s1 k1,hZ.at aA}⟩
def Yt(t:TD):lI:=λDe σ S Z=>t σ S De.rt<|Z σ
theorem sr{t:TD}(h:DE K X e t):DS K X b (.Return (some e) pos) (Yt t):=⟨λy=>(Oa<|h.of y).mono <| by rintro D τ H ⟨σ,S,De,Z,aA,hS,q,hD,hZ⟩;exact{σ,S,_,_,aA,hS,q,hD.rt,hZ.at aA}⟩
def dIf(c:lT)(t u:lI):lI:=λDe σ S Z=>c σ S (λb S1=>if b=true then t De σ S1 Z else u De σ S1 Z)<|Z σ
theorem si{t u:lI}(hc:DT K X c tc)(ha:Gf K X b a t)(hb:Gf K X b a' u):DS K X b (.If c a a' pos) (dIf tc t u):=
 ⟨λy=>(RX (hc.of y) (ha.of y)<|hb.of y).mono <| by rintro D τ H ⟨σ,S,De,Z,aA,hS,q,hD,hZ⟩;exact
  ⟨σ,S,_,_,aA,hS,q,λc S1 H1 r1 s1 k1=>by
   cases c with
   |true=>rw[if_pos rfl]at r1⊢;exact{σ,S1,De,Z,aA.ts k1,s1,r1,hD.kp k1,hZ.kp k1}
   |false=>rw[if_neg zd]at r1⊢;exact{σ,S1,De,Z,aA.ts k1,s1,r1,hD.kp k1,hZ.kp k1},hZ.at aA⟩⟩
abbrev xC:=D->SD->aw->(SD->aw->Prop)->Prop
def Tg(K:Frag)(g:xC):TG:=λv τ H Q=>∃d σ S R,Rv K H d v/\hG K H σ τ/\Rs K S H/\g d σ S R/\M5 K H R Q
structure DG(K:Frag)(X:Cx)(e:Expr)(g:xC):Prop where
 of:∀Y:Cx,Y.K=X.K->Y.N=X.N->Y.env=X.env->Y.fn=X.fn->Y.calm=X.calm->PG Y e (Tg K g)
theorem PG.mono{t t':TG}(h:PG X e t)(i:∀v τ H Q,t' v τ H Q->t v τ H Q):PG X e t':=λpins s τ H v u Q I r q=>h pins s τ H v u Q I r<|i v τ H Q q
def V0(i:Nat):xC:=λd σ S R=>R (σ.set i<|some d) S
theorem gn(hN:X.N.Nodup)(hi:autoParam (X.N[i]?=some x) qQJ)(hx:autoParam (Loc X.env.scope x) qJ1)(hf:autoParam (X.fn x=true\/X.env.scope.names.lookup x=some .local) qQ8):DG K X (.Name x pos) (V0 i):=⟨λY _ e2 e3 e4 _=>(pW (X:=Y) (by rw[e2];exact hN) (by rw[e2];exact hi) (by rw[e3];exact hx)<|by rw[e3,e4];exact hf).mono <| by rintro v τ H Q ⟨d,σ,S,R,rv,aA,hS,q,hR⟩;exact hR _ S _ H q (aA.set i rv) hS<|.refl _⟩
abbrev EU:=List D->SD->aw->(SD->aw->Prop)->Prop
def Tgs(K:Frag)(g:EU):MC:=λvs τ H Q=>∃ds σ S R,RvAll K H ds vs/\hG K H σ τ/\Rs K S H/\g ds σ S R/\M5 K H R Q
structure V1(K:Frag)(X:Cx)(es:List Expr)(g:EU):Prop where
 of:∀Y:Cx,Y.K=X.K->Y.N=X.N->Y.env=X.env->Y.fn=X.fn->Y.calm=X.calm->MD Y es (Tgs K g)
theorem MD.mono{t t':MC}(h:MD X e t)(i:∀v τ H Q,t' v τ H Q->t v τ H Q):MD X e t':=λpins s τ H v u Q I r q=>h pins s τ H v u Q I r<|i v τ H Q q
def M6:EU:=λds σ S R=>ds=[]/\R σ S
def Bx(g:xC)(u:EU):EU:=λds σ S R=>∃d r,ds=d::r/\g d σ S λwM S1=>u r wM S1 R
theorem g0:V1 K X [] M6:=⟨λY _ _ _ _ _=>(CJ (X:=Y)).mono <| by rintro vs τ H Q ⟨ds,σ,S,R,rv,aA,hS,⟨e,q⟩,hR⟩;exact by subst e;exact{rv.nil,hR _ _ _ _ q aA hS<|.refl _}⟩
theorem gc(h1:DG K X e g)(h2:V1 K X es u)(hs:autoParam (∀env:Env,(assignEach (e::es) env).map (·.2)=assign e env::(assignEach es env).map (·.2)) qQ0):V1 K X (e::es) (Bx g u):=⟨λY a b c d f=>(qt (h1.of Y a b c d f) (h2.of Y a b c d f)<|hs _).mono <| by rintro vs τ H Q ⟨ds,σ,S,R,rv,aA,hS,⟨d,r,e,q⟩,hR⟩;subst e;obtain⟨y,ys,e1,r1,r2⟩:=rv.cons;exact{y,ys,e1,d,σ,S,_,r1,aA,hS,q,λwM S1 Ys H1 q1 a b c=>{r,wM,S1,R,RvAll.ts c _ r2,a,b,q1,hR.kp c}}⟩
def M7(n:Nat)(g:EU):xC:=λd σ S R=>∃ds,d=.tup ds/\ds.length=n/\g ds σ S R
theorem gt(h:V1 K X es g)(hn:autoParam (∀env:Env,(assignEach es env).length=n) qQ0)(w4:autoParam (∀env:Env,(assignEach es env).findIdx? (·.1)=none) qQ0)(hK:autoParam (X.K=K) qQJ)(hc:autoParam (X.calm=true) qQJ):DG K X (.Tuple es j pos) (M7 n g):=⟨λY a b c d f=>(Gv (X:=Y) (by rw[f];exact hc) (h.of Y a b c d f) (hn _)<|w4 _).mono <| by rintro v τ H Q ⟨d,σ,S,R,rv,aA,hS,⟨ds,e,hl,q⟩,hR⟩;subst e;obtain⟨p,xs,e1,e2,t⟩:=rv.tup;exact{p,xs,e1,.of e2,by rw[t.len];exact hl,ds,σ,S,R,t,aA,hS,q,hR}⟩
def T4(i:Nat)(t:TD):lI:=λDe σ S Z=>t σ S (λd S1=>De.nx (σ.set i<|some d) S1)<|Z σ
theorem cG{t:TD}(hN:X.N.Nodup)(h:DE K X e t)(hi:autoParam (X.N[i]?=some x) qQJ)(hx:autoParam (Loc X.env.scope x) qJ1)(hs:autoParam (swapsWith e (some<|.Name x pos') pos.line X.env=pure false) qQJ) (hf:autoParam (X.fn x=true\/X.env.scope.names.lookup x=some .local) qQ8):DS K X b (.Assign [.Name x pos'] e pos) (T4 i t):=⟨λy=>(Oe (X:=y.cx) (i:=i) hN hi hx (h.of y) hs hf).mono <| by rintro D τ H ⟨σ,S,De,Z,aA,hS,q,hD,hZ⟩;exact{σ,S,_,_,aA,hS,q,λd S1 v H1 r1 v1 s1 k1=>hD.nx _ _ _ _ r1 ((aA.ts k1).set i v1) s1 k1,hZ.at aA}⟩
def Yu(t:TD)(g:xC):lI:=λDe σ S Z=>t σ S (λd S1=>g d σ S1 De.nx)<|Z σ
theorem sa{t:TD}(h:DE K X e t)(hg:DG K X tg g)(hs:autoParam (swapsWithSole [tg] e pos.line X.env=pure false) qQJ)(hw:autoParam (swappedStores [tg] e X.env=pure none) qQJ)(h1:autoParam ((assignEach [tg] X.env).map (·.2)=[assign tg X.env]) qQJ): DS K X b (.Assign [tg] e pos) (Yu t g):=⟨λy=>(Gw (X:=y.cx) (h.of y) (hg.of _ rfl rfl rfl rfl rfl) hs hw h1).mono <| by rintro D τ H ⟨σ,S,De,Z,aA,hS,q,hD,hZ⟩;exact{σ,S,_,_,aA,hS,q,λd S1 v H1 r1 v1 s1 k1=>{d,σ,S1,_,v1,aA.ts k1,s1,r1,hD.nx.kp k1},hZ.at aA}⟩
def Yv(td ty tv:TD):lI:=λDe σ S Z=>tv σ S (λv S1=>td σ S1 (λx S2=>ty σ S2 (λy S3=>∃a kvs k,x=.ref a/\S3 a=some (.c_ kvs)/\Bw y=some k/\kvs.length<sizeLine/\De.nx σ (S3.set a<|.c_<|dput kvs k v))<|Z σ)<|Z σ)<|Z σ
theorem sd{o i value:Expr}{td ty tv:TD}{pos':Pos}(hu:X.A.units+64<cLine)(ho:DE K X o td)(hi:DE K X i ty)(hv:DE K X value tv)(hs:autoParam (swapsWith value (some<|.Subscript o i pos') pos.line X.env=pure false) qQJ):DS K X b (.Assign [.Subscript o i pos'] value pos) (Yv td ty tv):=
 ⟨λy=>(Ko (X:=y.cx) (by show X.A.units+1<cLine;lia) (ho.of y) (hi.of y) (hv.of y) hs).mono <| by rintro D τ H ⟨σ,S,De,Z,aA,hS,q,hD,hZ⟩;exact
  ⟨σ,S,_,_,aA,hS,q,λv S1 vv H1 r1 v1 s1 k1=>⟨σ,S1,_,_,aA.ts k1,s1,r1,λx S2 xv H2 r2 v2 s2 k2=>⟨σ,S2,_,_,aA.ts<|k1.trans k2,s2,r2,by
   rintro y S3 yv H3 ⟨a,kvs,k,e1,e2,e3,hl,r3⟩ v3 s3 k3
   subst e1
   obtain⟨vs,e4,t⟩:=s3.c_ e2
   have kk:=s3.g_ (o:=.dK<|putK vs k vv) e2
   refine{a,_,(Rv.ts k3 _ v2).ref,by rw[nv e3 v3];exact GS.k e4<|by rw[t.len];exact hl,?_}
   exact hD.nx _ _ _ _ r3 (aA.ts<|((k1.trans k2).trans k3).trans kk) (s3.put (c:=.c_ _) e2 {_,aE,(t.put k<|Rv.ts (k2.trans k3) _ v1).ts kk})<|((k1.trans k2).trans k3).trans kk,hZ.on (k1.trans k2)<|aA.ts<|k1.trans k2⟩,hZ.on k1<|aA.ts k1⟩,hZ.at aA⟩⟩
end
section
variable{X:Cx}{pins:List (Addr×Obj)}{σ:St}{H:Hp}{s:Shared}{A:Around}{E:Value->Shared->Prop}{a:Addr}{kvs:List (Key×V)}{k:Key}{u:Value}
theorem Pu(I:Inv X pins σ H s)(e:H a=some (.dK kvs))(ry:RelV (kV k) u)(rz:RelV z r)(hl:kvs.length<sizeLine) (h1:∀v w' s',fO kvs k=some v->Inv X pins σ H s'->RelV v w'->Q w' s') (h2:fO kvs k=none->∀s',Inv X pins σ (upd H a<|.dK<|putK kvs k z) s'->Q r s'): wpAny (model X.prog X.w) A (call (.builtin "dict.setdefault") [.ref a,u,r]) Q E s:=by
 obtain⟨zz,hd,vs,rel,dd⟩:=CV I.aJ e;have hp:=ox kvs k z;refine call_meetsIn PySem.F.slot_dict_setdefault dd.typeIs PySem.F.entry_dict_setdefault (PySem.F.args_dict_setdefault_3 _ _ _) (PySem.kt_meets_setdefault (aF X.prog X.w) a (ku ry) hd r) {vs,dd,by rw[<-rel.length];exact zz,λw' hw=>?_,λhn h' MN hs=>?_};cases q:fO kvs k with|none=>(have:=fL.none_of (o:=valueAt vs k) (by rw[<-q];exact rel.val k);rw[this]at hw;cases hw)|some v=>obtain⟨w2,T5,rw2⟩:=fL.some_of (v:=v) (o:=valueAt vs k) (by rw[<-q];exact rel.val k);rw[T5]at hw;cases hw;exact h1 v _ _ q (I.tok _) rw2
 cases q:fO kvs k with|some v=>(obtain⟨w2,T5,rw2⟩:=fL.some_of (v:=v) (o:=valueAt vs k) (by rw[<-q];exact rel.val k);rw[T5]at hn;cases hn)|none=>have he:∃q,h'.get? a=some q:=(by obtain⟨q,_,_,hq,_⟩:=MN;exact⟨q,hq⟩);exact h2 q _<|u5 I (by rw[e];exact True.intro) hs he<|A8 (by lia) hd (rel.put k rz) MN
end
section
variable{X:Cx}{o e f:Expr}{apos aL:Pos}{td ty tx:TE}
def T6(td ty tx:TE):TE:=λσ H Q=>td σ H λx H1=>∃a,x=.ref a/\Q3 H1 a/\ty σ H1 λy H2=>tx σ H2 λz H3=>∃kvs k,H3 a=some (.dK kvs)/\y=kV k/\kvs.length<sizeLine/\(∀v,fO kvs k=some v->Q v H3)/\(fO kvs k=none->Q z (upd H3 a<|.dK<|putK kvs k z))
theorem Ho(ho:PE X o td)(he:PE X e ty)(hf:PE X f tx)(m:M2 X o "setdefault" apos e f aL):PE X (.Call (.Attribute o "setdefault" apos) [e,f] [] aL) (T6 td ty tx):=by intro pins s σ H Q I h;refine wpAny_Call_method m.base m.F8 m.line PySem.F.plainAttrs_dict PySem.F.slot_dict_setdefault PySem.F.type_dict_setdefault<|bw (ho pins s σ H _ I h) λu s1 ⟨x,H1,I1,rx,a,ex,d,q1⟩=>?_;subst ex;obtain rfl:u=Value.ref a:=rx;obtain⟨t1,t2,_⟩:=u6 I1 d;refine{t1,t2,?_};rw[m.trees];refine Calls.callWith_builtin rfl<|Calls.evalArgs_plain<|yE<|bw (he pins s1 σ H1 _ I1 q1) λiv s2 ⟨y,H2,I2,ry,q2⟩=>yE<|bw (hf pins s2 σ H2 _ I2 q2) λfv s3 ⟨z,H3,I3,rz,kvs,k,ea,ey,hl,q3,q4⟩=>Calls.spliced_nil ?_;subst ey;exact Pu I3 ea ry rz hl (λv w' s4 l I4 m7=>{v,H3,I4,m7,q3 v l}) λl s4 I4=>{z,_,I4,rz,q4 l}
end
section
variable{K:Frag}{X:Cx}{b:Bool}{o e f:Expr}{apos aL pos:Pos}{td ty tx:TD}
theorem vi(hS:Rs K S H)(e:S a=some (.c_ kvs)):Q3 H a:=by obtain⟨vs,e1,_⟩:=hS.c_ e;exact .inl {vs,.inl e1}
def T7(td ty:TD):TD:=λσ S R Z=>td σ S (λx S1=>∃a kvs,x=.ref a/\S1 a=some (.c_ kvs)/\ty σ S1 (λy S2=>∃kvs k,S2 a=some (.c_ kvs)/\Bw y=some k/\R ((bY kvs k).getD .av) S2) Z) Z
theorem Hq(hS:Rs K S H)(e:S a=some (.c_ kvs))(r:Rv K H d v):∃o,pz H a (kV k) o/\Rv K H ((bY kvs k).getD d) (o.getD v):=by obtain⟨o,g,h1,h2⟩:=vg (k:=k) hS e;refine{o,g,?_};cases q:bY kvs k with|none=>(rw[q]at h1;cases o with|none=>exact r|some _=>cases h1)|some d'=>obtain⟨v',rfl,r'⟩:=h2 d' q;exact r'
theorem mg1(hu:X.A.units+64<cLine)(ho:DE K X o td)(he:DE K X e ty)(m:autoParam (M1 X o "get" apos e aL) qQ4):DE K X (.Call (.Attribute o "get" apos) [e] [] aL) (T7 td ty):=
 ⟨λy=>(GW (X:=y.cx) (by show X.A.units+1<cLine;lia) (ho.of y) (he.of y) ⟨m.base,m.F8,m.line,m.trees⟩).mono <| by rintro τ H Q ⟨σ,S,R,Z,aA,hS,q,hR,hZ⟩;exact
  ⟨σ,S,_,Z,aA,hS,q,by
   rintro x S1 xv H1 ⟨a,kvs,e1,e2,r1⟩ v1 s1 k1
   subst e1
   exact⟨a,v1.ref,vi s1 e2,σ,S1,_,Z,aA.ts k1,s1,r1,by
    rintro y S2 yv H2 ⟨kvs,k,e3,e4,r2⟩ v2 s2 k2
    obtain⟨o,g,r⟩:=Hq (k:=k) s2 e3 fe
    exact{o,by rw[nv e4 v2];exact g,(hR.kp<|k1.trans k2).now s2 r2 r},hZ.kp k1⟩,hZ⟩⟩
def T8(td ty tx:TD):TD:=λσ S R Z=>td σ S (λx S1=>∃a kvs,x=.ref a/\S1 a=some (.c_ kvs)/\ty σ S1 (λy S2=>tx σ S2 (λz S3=>∃kvs k,S3 a=some (.c_ kvs)/\Bw y=some k/\R ((bY kvs k).getD z) S3) Z) Z) Z
theorem mg2(hu:X.A.units+64<cLine)(ho:DE K X o td)(he:DE K X e ty)(hf:DE K X f tx)(m:autoParam (M2 X o "get" apos e f aL) qQ4):DE K X (.Call (.Attribute o "get" apos) [e,f] [] aL) (T8 td ty tx):=
 ⟨λy=>(GX (X:=y.cx) (by show X.A.units+1<cLine;lia) (ho.of y) (he.of y) (hf.of y) ⟨m.base,m.F8,m.line,m.trees⟩).mono <| by rintro τ H Q ⟨σ,S,R,Z,aA,hS,q,hR,hZ⟩;exact
  ⟨σ,S,_,Z,aA,hS,q,by
   rintro x S1 xv H1 ⟨a,kvs,e1,e2,r1⟩ v1 s1 k1
   subst e1
   exact⟨a,v1.ref,vi s1 e2,σ,S1,_,Z,aA.ts k1,s1,r1,λy S2 yv H2 r2 v2 s2 k2=>⟨σ,S2,_,Z,aA.ts<|k1.trans k2,s2,r2,by
    rintro z S3 zv H3 ⟨kvs,k,e3,e4,r3⟩ v3 s3 k3
    obtain⟨o,g,r⟩:=Hq (k:=k) s3 e3 v3
    exact{o,by rw[nv e4 v2];exact g,(hR.kp<|(k1.trans k2).trans k3).now s3 r3 r},hZ.kp<|k1.trans k2⟩,hZ.kp k1⟩,hZ⟩⟩
def T9(td ty:TD):TD:=λσ S R Z=>td σ S (λx S1=>∃a kvs,x=.ref a/\S1 a=some (.c_ kvs)/\ty σ S1 (λy S2=>∃kvs k d,S2 a=some (.c_ kvs)/\Bw y=some k/\bY kvs k=some d/\R d (S2.set a<|.c_<|xy kvs k)) Z) Z
theorem mp1(ho:DE K X o td)(he:DE K X e ty)(m:autoParam (M1 X o "pop" apos e aL) qQ4):DE K X (.Call (.Attribute o "pop" apos) [e] [] aL) (T9 td ty):=
 ⟨λy=>(GY (X:=y.cx) (ho.of y) (he.of y) ⟨m.base,m.F8,m.line,m.trees⟩).mono <| by rintro τ H Q ⟨σ,S,R,Z,aA,hS,q,hR,hZ⟩;exact
  ⟨σ,S,_,Z,aA,hS,q,by
   rintro x S1 xv H1 ⟨a,kvs,e1,e2,r1⟩ v1 s1 k1
   subst e1
   exact⟨a,v1.ref,vi s1 e2,σ,S1,_,Z,aA.ts k1,s1,r1,by
    rintro y S2 yv H2 ⟨kvs,k,d,e3,e4,e5,r2⟩ v2 s2 k2
    obtain⟨vs,e6,t⟩:=s2.c_ e3
    obtain⟨v,e7,r7⟩:=(t.val k).1 d e5
    have kk:=s2.g_ (o:=.dK<|ow vs k) e3
    exact{vs,k,v,e6,nv e4 v2,e7,hR _ _ _ _ r2 (Rv.ts kk _ r7) (s2.put (c:=.c_ _) e3 {_,aE,(t.drop k).ts kk})<|(k1.trans k2).trans kk},hZ.kp k1⟩,hZ⟩⟩
def T_(td ty tx:TD):TD:=λσ S R Z=>td σ S (λx S1=>∃a kvs,x=.ref a/\S1 a=some (.c_ kvs)/\ty σ S1 (λy S2=>tx σ S2 (λz S3=>∃kvs k,S3 a=some (.c_ kvs)/\Bw y=some k/\kvs.length<sizeLine/\(∀d,bY kvs k=some d->R d S3)/\(bY kvs k=none->R z (S3.set a<|.c_<|dput kvs k z))) Z) Z) Z
theorem ms2(ho:DE K X o td)(he:DE K X e ty)(hf:DE K X f tx)(m:autoParam (M2 X o "setdefault" apos e f aL) qQ4):DE K X (.Call (.Attribute o "setdefault" apos) [e,f] [] aL) (T_ td ty tx):=
 ⟨λy=>(Ho (X:=y.cx) (ho.of y) (he.of y) (hf.of y) ⟨m.base,m.F8,m.line,m.trees⟩).mono <| by rintro τ H Q ⟨σ,S,R,Z,aA,hS,q,hR,hZ⟩;exact
  ⟨σ,S,_,Z,aA,hS,q,by
   rintro x S1 xv H1 ⟨a,kvs,e1,e2,r1⟩ v1 s1 k1
   subst e1
   exact⟨a,v1.ref,vi s1 e2,σ,S1,_,Z,aA.ts k1,s1,r1,λy S2 yv H2 r2 v2 s2 k2=>⟨σ,S2,_,Z,aA.ts<|k1.trans k2,s2,r2,by
    rintro z S3 zv H3 ⟨kvs,k,e3,e4,hl,r3,r4⟩ v3 s3 k3
    obtain⟨vs,e6,t⟩:=s3.c_ e3
    have kk:=s3.g_ (o:=.dK<|putK vs k zv) e3
    have hR3:=hR.kp<|(k1.trans k2).trans k3
    refine{vs,k,e6,nv e4<|Rv.ts k3 _ v2,by rw[t.len];exact hl,λv hv=>?_,λhn=>?_}
    ·cases q:bY kvs k with
     |none=>rw[(t.val k).2 q]at hv;cases hv
     |some d =>
      obtain⟨v',e7,r7⟩:=(t.val k).1 d q
      rw[e7]at hv;cases hv
      exact hR3.now s3 (r3 d q) r7
    ·cases q:bY kvs k with
     |some d=>obtain⟨v',e7,r7⟩:=(t.val k).1 d q;rw[e7]at hn;cases hn
     |none=>exact hR3 _ _ _ _ (r4 q) (Rv.ts kk _ v3) (s3.put (c:=.c_ _) e3 {_,aE,(t.put k v3).ts kk}) kk,hZ.kp<|k1.trans k2⟩,hZ.kp k1⟩,hZ⟩⟩
noncomputable def By(f:Str)(d:D):List (Str×D)->List (Str×D)|[]=>[(f,d)]| (g,x)::r=>if g=f then (g,d)::r else (g,x)::By f d r
theorem bX.By{H:Hp}{f:Str}{d:D}{v:V}(rd:Rv K H d v):∀{ks:List (Str×D)}{vs:List (Str×V)},bX K H ks vs->bX K H (By f d ks) (putF f v vs)|_,_,.nil=>.cons ⟨rfl,rd⟩ .nil| (g,x)::r,(g',y)::r',.cons h t=>by obtain⟨e,h⟩:=h;dsimp only at e;subst e;show bX K H (if g=f then (g,d)::r else (g,x)::L2.By f d r) (if g=f then (g,v)::r' else (g,y)::putF f v r');by_cases q:g=f;rw[if_pos q,if_pos q];exact .cons ⟨rfl,rd⟩ t;rw[if_neg q,if_neg q];exact .cons ⟨rfl,h⟩<|bX.By rd t
def Ua(C:Addr)(f:Str)(ta tv:TD):lI:=λDe σ S Z=>tv σ S (λy S1=>ta σ S1 (λx S2=>∃a fs,x=.ref a/\S2 a=some (.ins C fs)/\fs.length<1000/\De.nx σ (S2.set a<|.ins C<|By f y fs))<|Z σ)<|Z σ
theorem sf{C:Addr}{f:Str}{value:Expr}{ta tv:TD}{pos':Pos}(c:qx K C)(n:iZ K C f)(ha:DE K X o ta)(hv:DE K X value tv)(hs:autoParam (swapsWith value (some<|.Attribute o f pos') pos.line X.env=pure false) qQJ)(hK:autoParam (X.K=K) qQJ): DS K X b (.Assign [.Attribute o f pos'] value pos) (Ua C f ta tv):=by
 subst hK
 exact⟨λy=>(OC (X:=y.cx) (ha.of y) (hv.of y) hs).mono <| by rintro D τ H ⟨σ,S,De,Z,aA,hS,q,hD,hZ⟩;exact
  ⟨σ,S,_,_,aA,hS,q,λy S1 yv H1 r1 v1 s1 k1=>⟨σ,S1,_,_,aA.ts k1,s1,r1,by
   rintro x S2 xv H2 ⟨a,fs,e1,e2,hl,r2⟩ v2 s2 k2
   subst e1
   obtain⟨dx,vs,e4,t4⟩:=s2.ins e2
   have kk:=s2.g_ (o:=.ins C dx<|putF f yv vs) e2
   exact{a,C,dx,vs,v2.ref,e4,c,n,by rw[t4.len];exact hl,hD.nx _ _ _ _ r2 (aA.ts<|(k1.trans k2).trans kk) (s2.put (c:=.ins C _) e2 {dx,_,aE,(bX.By (Rv.ts k2 _ v1) t4).ts kk})<|(k1.trans k2).trans kk},hZ.on k1<|aA.ts k1⟩,hZ.at aA⟩⟩
def Pw(C:Addr)(t:gX):lI:=λ_ σ S Z=>t σ S (λds S1=>ds.length<=sizeLine/\Z σ C S1)<|Z σ
end
section
variable{K:Frag}{X:Cx}{C:Addr}{x:Str}{e:Expr}{es:List Expr}{np aL pos:Pos}
theorem EV{t:TA}{y:Ev X true}(hc:X.calm=true)(c:XC X.K C)(hg:Gl X x)(hm:X.mg x=some (.ref C))(ha:PA y.cx (e::es) t)(lN:(x==("__debug__": Str))=false) (he:starEach (e::es) X.env=(false,eval e X.env)::starEach es X.env) (cP:(backTo aL<|starEach es X.env).any (·.1)=false): PS y.cx (.Raise (some<|.Call (.Name x np) (e::es) [] aL) none pos) (λ_ σ H=>t σ H λvs H1=>vs.length<=sizeLine/\y.E σ (.ref C) none H1):=by intro pins s σ H D I h;obtain⟨bm,N,nm,q,bs,hdct,sn,sub,ab,col,dd,k0,k1,k2,k3,k5,mN,hC,hN,VT,T⟩:=c.at I.mod.NX;have lP:bm.contains (.type "BaseException")=true:=T.hasType (by decide);refine wpAny_Raise_call_subT (C:=C) (nm:=nm) (q:=q) (N:=N) (bs:=bs) (bm:=bm) (hdct:=hdct) (sn:=sn) (sub:=sub) (ab:=ab) (col:=col) (dd:=dd) (k0:=k0) (k1:=k1) (k2:=k2) (k3:=k3) (k5:=k5) PySem.F.excBase_ValueError (mN:=mN) lP (I.ok.hd hc) (by show((backTo aL<|starEach (e::es) X.env).any (·.1))=false;rw[he];show(false||(backTo aL<|starEach es X.env).any (·.1))=false;rw[cP];rfl) VT<|pV I hg hm {rfl,?_} lN;have h1:=ha aL pins s σ H _ I h;have V2:starEach (e::es) y.cx.env=(false,eval e X.env)::starEach es X.env:=he;rw[V2]at h1⊢;exact Calls.evalArgs_plain<|bw h1 <| by rintro us s2 ⟨vs,H2,I2,r,z,q2⟩;exact{rfl,by show us.length<=sizeLine;rw[<-r.length];exact z,I2.bk _ _ hC,hN.keeps I2.bk,T.keeps I2.bk,λh' a hx=>y.ok.own rfl pins σ H2 s2 h' a _ _ I2 hx q2}
theorem qR{t:gX}(c:XC K C)(hm:X.mg x=some (.ref C))(ha:DA K X (e::es) t)(hg:autoParam (Gl X x) qQJ)(lN:autoParam ((x==("__debug__": Str))=false) qQZ) (he:autoParam (starEach (e::es) X.env=(false,eval e X.env)::starEach es X.env) qQJ) (cP:autoParam ((backTo aL<|starEach es X.env).any (·.1)=false) qQJ) (hc:autoParam (X.calm=true) qQJ) (hK:autoParam (X.K=K) qQJ): DS K X true (.Raise (some<|.Call (.Name x np) (e::es) [] aL) none pos) (Pw C t):=by subst hK;exact⟨λy=>(EV (y:=y) hc c hg hm (ha.of y) lN he cP).mono λD τ H ⟨σ,S,De,Z,aA,hS,q,hD,hZ⟩=>{σ,S,_,_,aA,hS,q,λds S1 vs H1 ⟨hl,r1⟩ v1 s1 k1=>{by rw[v1.len];exact hl,hZ.at aA C S1 H1 r1 s1 k1},hZ.at aA}⟩
end
structure oB where
 xs:List D
 ok:aw->Prop
def Ub(K:Frag)(H0:Hp)(J:It)(I:oB):Prop:=∀i S H,Kp K H0 H->Rs K S H->I.ok S->(∀d,I.xs[i]?=some d->J.go i H/\∀x H',J.RZ i H x H'->Rv K H' d x/\Kp K H H'/\Rs K S H')/\(I.xs.length<=i->J.stop i H)
abbrev AH:=SD->aw->(oB->aw->Prop)->KX->Prop
def Ti(K:Frag)(E:St->XK)(t:AH):TI:=λτ H R=>∃σ S RI Z,hG K H σ τ/\Rs K S H/\t σ S RI Z/\(∀I S' J H',RI I S'->Ub K H' J I->Rs K S' H'->Kp K H H'->R J H')/\EO K H Z (E τ)
structure DI(K:Frag)(X:Cx)(tg it:Expr)(t:AH):Prop where
 of:∀{b:Bool}(y:Ev X b),PI y.cx tg it<|Ti K y.E t
theorem PI.mono{t t':TI}(h:PI X tg it t)(i:∀τ H R,t' τ H R->t τ H R):PI X tg it t':=λpins s τ H R I q=>h pins s τ H R I<|i τ H R q
section
variable{K:Frag}{X:Cx}{tg l:Expr}
def Yw(t:TD):AH:=λσ S R Z=>t σ S (λx S1=>∃ds,xw S1 x ds/\R {ds,λS=>xw S x ds} S1) Z
theorem il{t:TD}(h:DE K X l t)(hK:autoParam (X.K=K) qQJ):DI K X tg l (Yw t):=by subst hK;exact⟨λy=>(J5 (X:=y.cx)<|h.of y).mono <| by rintro τ H R ⟨σ,S,RI,Z,aA,hS,q,hR,hZ⟩;exact{σ,S,_,Z,aA,hS,q,by rintro x S1 v H1 ⟨ds,h1,r1⟩ v1 s1 k1;obtain⟨a,xs,rfl,hq,t⟩:=h1.at s1 v1;refine{a,rfl,⟨xs,hq⟩,hR _ S1 _ H1 r1 (λi S2 H2 k2 s2 V3=>?_) s1 k1};obtain⟨a',Px,e',Ge,t'⟩:=xw.at V3 s2<|Rv.ts k2 _ v1;cases e';refine{λd hd=>?_,λhl=>{Px,Ge,by rw[t'.len];exact hl}};obtain⟨v,e1,r⟩:=t'.get hd;refine{⟨Px,v,Ge,e1⟩,λx' H' ⟨e2,e3⟩=>?_};subst e2;have:=e3 Px Ge;rw[e1]at this;cases this;exact{r,.refl _,s2},hZ}⟩
def Uc(t:TD):AH:=λσ S R Z=>t σ S (λx S1=>∃ds,(x=.tup ds\/x=.kt ds)/\R {ds,λ_=>True} S1) Z
theorem Py{H:Hp}{x:D}{ds:List D}{v:V}(h:x=.tup ds\/x=.kt ds)(r:Rv K H x v):∃a xs,v=.ref a/\(∀H',Kp K H H'->iw K H' a xs)/\RvAll K H ds xs:=by rcases h with rfl|rfl;obtain⟨a,xs,rfl,q,t⟩:=r.tup;exact{a,xs,rfl,λH' k=>.of<|k.t _ _ q,t};obtain⟨a,xs,rfl,q,t⟩:=r.kt;exact{a,xs,rfl,λH' k=>.inr q,t}
theorem Gg{t:TD}(h:DE K X l t)(hK:autoParam (X.K=K) qQJ):DI K X tg l (Uc t):=by subst hK;exact⟨λy=>(Ol (X:=y.cx)<|h.of y).mono <| by rintro τ H R ⟨σ,S,RI,Z,aA,hS,q,hR,hZ⟩;exact{σ,S,_,Z,aA,hS,q,by rintro x S1 v H1 ⟨ds,h1,r1⟩ v1 s1 k1;obtain⟨a,xs,rfl,hq,t⟩:=Py h1 v1;refine{a,rfl,{xs,hq _<|.refl _},hR _ S1 _ H1 r1 (λi S2 H2 k2 s2 _=>?_) s1 k1};have Ri:=hq H2 k2;refine{λd hd=>?_,λhl=>{xs,Ri,by rw[t.len];exact hl}};obtain⟨v,e1,r⟩:=(RvAll.ts k2 _ t).get hd;refine{⟨xs,v,Ri,e1⟩,λx' H' ⟨e2,e3⟩=>?_};subst e2;have:=e3 xs Ri;rw[e1]at this;cases this;exact{r,.refl _,s2},hZ}⟩
noncomputable def df(lo:Int)(n:Nat):List D:=(List.range n).map λi=>D.int<|lo+(i:Nat)
theorem bK{lo:Int}{n:Nat} : (df lo n).length=n:=by unfold df;rw[zb,List.length_range]
theorem cy{lo:Int}{n i:Nat}{d:D}(h:(df lo n)[i]?=some d):i<n/\d=.int (lo+i):=by unfold df at h;rw[zi]at h;by_cases q:i<n;rw[List.getElem?_range q]at h;exact{q,(zT h).symm};rw[List.getElem?_eq_none<|by rw[List.length_range];omega]at h;cases h
theorem Pz{H0:Hp}{lo:Int}{n:Nat} : Ub K H0 (VJ lo n) {df lo n,λ_=>True}:=λi S H k s _=>{λd hd=>by obtain⟨h1,rfl⟩:=cy hd;exact{h1,by rintro x H' ⟨e1,e2⟩;exact by subst e1 e2;exact{aN _,.refl _,s}},λhl=>by rw[bK]at hl;exact hl}
def Yx(t:gX):AH:=λσ S R Z=>t σ S (λds S1=>∃j:Int,ds=[.int j]/\-(2^62)<=j/\j<2^62/\R {df 0 j.toNat,λ_=>True} S1) Z
theorem JI{t:gX}(hm:X.mg "range"= none)(ha:DA K X [a] t)(hg:autoParam (Gl X "range") qQJ)(hs:autoParam (starEach [a] X.env=[(false,eval a X.env)]) qQJ):DI K X tg (.Call (.Name "range" p) [a] [] pos) (Yx t):=⟨λy=>(Ej (X:=y.cx) hg hm (ha.of y) hs).mono <| by rintro τ H R ⟨σ,S,RI,Z,aA,hS,q,hR,hZ⟩;exact{σ,S,_,Z,aA,hS,q,by rintro ds S1 vs H1 ⟨j,e,h1,h2,r1⟩ v1 s1 k1;subst e;obtain⟨v,rfl,r⟩:=v1.one;exact{j,by rw[r.int],h1,h2,hR _ S1 _ H1 r1 Pz s1 k1},hZ}⟩
end
section
variable{K:Frag}{X:Cx}{tg iter:Expr}{pos:Pos}
def Yy(ti:AH)(g:xC)(tb:lI):lI:=λDe σ S Z=>ti σ S (λI S1=>∃P:Nat->SD->aw->Prop,P 0 σ S1/\(∀i σ S,P i σ S->I.ok S)/\(∀i d σ S,I.xs[i]?=some d->P i σ S->g d σ S λpX S2=>tb {De with nx:=P<|i+1,ct:=P<|i+1,bk:=De.nx} pX S2 Z)/\∀σ S,P I.xs.length σ S->De.nx σ S)<|Z σ
theorem C9(hi:DI K X tg iter ti)(hg:DG K X tg g)(hb:Gf K X true body tb)(hs:autoParam (∀x,foldedSetIterable iter X.env x=pure x) qQ0)(hc:autoParam (X.calm=true) qQJ):DS K X true (.For tg iter body [] pos) (Yy ti g tb):=
 ⟨λy=>(Om (X:=y.cx) (y.ok.loop rfl) hc (hi.of y) (hg.of _ rfl rfl rfl rfl rfl) (hb.of y) hs).mono <| by rintro D τ H ⟨σ,S,De,Z,aA,hS,q,hD,hZ⟩;exact
  ⟨σ,S,_,_,aA,hS,q,by
   rintro I S1 J H1 ⟨P,p0,Yz,YA,pend⟩ hJ s1 k1
   refine{λi m τ H=>m=I.xs.length-i/\i<=I.xs.length/\∃σ S,hG K H σ τ/\Rs K S H/\P i σ S/\Kp K H1 H,!{zV _,σ,S1,aA.ts k1,s1,p0,.refl _},?_}
   rintro i m τ2 H2 ⟨rfl,Ud,pX,S2,a2,s2,p2,k2⟩
   have ok:=hJ i S2 H2 k2 s2<|Yz _ _ _ p2
   by_cases eL:i<I.xs.length
   ·obtain⟨go,yl⟩:=ok.1 _ (zg eL)
    refine .inr {go,λRb H'=>i+1<=I.xs.length/\∃σ S,hG K H' σ Rb/\Rs K S H'/\P (i+1) σ S/\Kp K H1 H',λaB H' h'=>{_,by omega,rfl,h'},λx H' hy=>?_}
    obtain⟨rx,k3,s3⟩:=yl x H' hy
    refine{_,pX,S2,_,rx,a2.ts k3,s3,YA i _ pX S2 (zg eL) p2,λV4 S4 τ4 H4 r4 a4 s4 k4=>?_}
    have kk:=(k2.trans k3).trans k4
    exact{V4,S4,_,Z,a4,s4,r4,{λPB S5 YB H5 r5 a5 s5 k5=>{eL,PB,S5,a5,s5,r5,kk.trans k5},hD.rt.kp<|k1.trans kk,(hD.nx.kp<|k1.trans kk),λPB S5 YB H5 r5 a5 s5 k5=>{eL,PB,S5,a5,s5,r5,kk.trans k5}},hZ.kp<|k1.trans kk}
   ·have e:i=I.xs.length:=by omega
    subst e
    exact .inl {ok.2<|zr _,hD.nx _ _ _ _ (pend _ _ p2) a2 s2<|k1.trans k2},hZ.at aA⟩⟩
end
noncomputable def lW(σ:SD)(src:List<|Option Nat):SD:=src.map λo=>match o with|some j=>(σ[j]?).join|none=>none
theorem hG.pick{K:Frag}{H:Hp}{σ:SD}{τ:St}(h:hG K H σ τ):∀src:List (Option Nat),hG K H (lW σ src) (pick τ src)|[]=>.nil|o::r=>.cons (λd e=>by cases o with|none=>(cases e)|some j=>dsimp only at e⊢;cases q:σ[j]? with|none=>(rw[q]at e;cases e)|some o'=>rw[q]at e;obtain rfl:o'=some d:=e;obtain⟨v,e1,r1⟩:=h.get q;exact{v,by rw[e1];rfl,r1})<|hG.pick h r
def Zf:KX:=λ_ _=>False
def xD(σ:SD)(src:List<|Option Nat)(g:xC)(tc:lT)(te:TD)(R:KD)(I:oB)(S1:aw):Prop:=∃P:Nat->List D->aw->Prop,P 0 [] S1/\(∀i out S,P i out S->I.ok S)/\(∀i d out S,I.xs[i]?=some d->P i out S->out.length<sizeLine/\g d (lW σ src) S λfM S3=>tc fM S3 (λb S4=>if b=true then te fM S4 (λv S5=>P (i+1) (out++[v]) S5) Zf else P (i+1) out S4) Zf)/\∀out S2,P I.xs.length out S2->∀p,S2 p=none->R (.ref p) (S2.set p<|.lst out)
def C_(ti:AH)(src:List<|Option Nat)(g:xC)(tc:lT)(te:TD):TD:=λσ S R Z=>ti σ S (λI S1=>xD σ src g tc te R I S1) Z
theorem EO.f{K:Frag}{H:Hp}{e:XK} : EO K H Zf e:=λ_ _ _ z=>z.elim
theorem T.comp{K:Frag}{E E':St->XK}{ti:AH}{src:List<|Option Nat}{g:TG}{gd:xC}{tc:lT}{te:TD}{τ:St}{H:Hp}{Q:VK}(hg:∀v τ H Q,Tg K gd v τ H Q->g v τ H Q) (h:T K E (C_ ti src gd tc te) τ H Q):G1 (Ti K E ti) src g (Tt K E' tc) (T K E' te) τ H Q:=by
 obtain⟨σ,S,R,Z,aA,hS,q,hR,hZ⟩:=h;refine{σ,S,_,Z,aA,hS,q,λI S1 J H1 ⟨P,p0,Yz,YA,pend⟩ hJ s1 k1=>?_,hZ};refine{λi m out H=>m=I.xs.length-i/\i<=I.xs.length/\∃ds S,RvAll K H ds out/\Rs K S H/\P i ds S/\Kp K H1 H,!{zV _,[],S1,bx,s1,p0,.refl _},?_};rintro i m out H2 ⟨rfl,Ud,ds,S2,v2,s2,p2,k2⟩;have ok:=hJ i S2 H2 k2 s2<|Yz _ _ _ p2;by_cases eL:i<I.xs.length;obtain⟨go,yl⟩:=ok.1 _<|zg eL;obtain⟨hz,st⟩:=YA i _ ds S2 (zg eL) p2;refine .inr {go,by rw[v2.len];exact hz,λx H' hy=>?_};obtain⟨rx,k3,s3⟩:=yl x H' hy;refine hg _ _ _ _ {_,_,S2,_,rx,(((aA.ts k1).ts k2).ts k3).pick src,s3,st,λV4 S4 τ4 H4 r4 a4 s4 k4=>?_};refine{V4,S4,_,Zf,a4,s4,r4,λc S5 H5 r5 s5 k5=>?_,.f};cases c with|true=>rw[if_pos rfl]at r5⊢;exact{V4,S5,_,Zf,a4.ts k5,s5,r5,λd S6 v H6 r6 v6 s6 k6=>{_,by omega,rfl,eL,ds++[d],S6,(RvAll.ts (((k3.trans k4).trans k5).trans k6) _ v2).app<|aO v6 bx,s6,r6,(((k2.trans k3).trans k4).trans k5).trans k6},.f}|false=>rw[if_neg zd]at r5⊢;exact{_,by omega,rfl,eL,ds,S5,RvAll.ts ((k3.trans k4).trans k5) _ v2,s5,r5,((k2.trans k3).trans k4).trans k5}
 have e:i=I.xs.length:=by omega
 subst e;exact .inl {ok.2<|zr _,λp hp=>(hR.kp<|k1.trans k2).new s2 hp (pend _ _ p2 p) v2}
noncomputable def Ev.none(X:Cx)(h:X.xe=λ_ _=>False):Ev X false:={X.pn,X.xe,λ_=>E0,{by rintro p2 τ H s e s' _ ⟨_,_,_,_,_,_,_,_,_,z⟩;exact z.elim,λe=>(by cases e),λe=>(by cases e)}}
section
variable{K:Frag}{X:Cx}{b:Bool}{N:List Str}{src:List (Option Nat)}{scope:Scope}{tg iter elt:Expr}{ifs:List Expr}{pos:Pos}{ti:AH}{g:TG}{gd:xC}{tc:lT}{te:TD}
structure V5(K:Frag)(X:Cx)(ifs:List Expr)(t:lT):Prop where
 of:∀{b:Bool}(y:Ev X b),Q4 y.cx ifs<|Tt K y.E t
def lX:lT:=λ_ S R _=>R true S
theorem oE:V5 K X [] lX:=⟨λy pins s τ H Q I ⟨σ,S,R,Z,aA,hS,q,hR,hZ⟩=>Ks pins s τ H Q I<|hR true S H q hS<|.refl _⟩
theorem if1{t:lT}(h:DT K X c t):V5 K X [c] t:=⟨λy=>Kt<|h.of y⟩
theorem sZ(S:bI X N src scope)(hit:DI K X tg iter ti)(hg:∀C s H ex pn,PG (iz X N scope C s H ex pn) tg g)(hx:A9 g src)(YC:∀v τ H Q,Tg K gd v τ H Q->g v τ H Q) (hi:∀C s H ex pn,V5 K (iz X N scope C s H ex pn) ifs tc) (he:∀C s H ex pn,DE K (iz X N scope C s H ex pn) elt te) (hs:autoParam (∀x,foldedSetIterable iter X.env x=pure x) qQ0) (hc:autoParam (X.calm=true) qQJ):DE K X (.ListComp elt [{tg,iter,ifs,0}] scope pos) (C_ ti src gd tc te):=⟨λy=>(Kv (X:=y.cx) (tc:=Tt K (λ_=>E0) tc) (te:=T K (λ_=>E0) te) ⟨S.kind,S.gp,S.loc,S.AF,S.len,S.src⟩ hc (hit.of y) hg hx (λC s H ex pn=>(hi C s H ex pn).of<|.none _ rfl) (λC s H ex pn=>(he C s H ex pn).of<|.none _ rfl) hs).mono λ_ _ _ h=>h.comp YC⟩
theorem Hr(hN:X.N.Nodup)(S:bI X N src scope)(hit:DI K X tg iter ti)(hg:∀C s H ex pn,PG (iz X N scope C s H ex pn) tg g)(hx:A9 g src)(YC:∀v τ H Q,Tg K gd v τ H Q->g v τ H Q) (hi:∀C s H ex pn,V5 K (iz X N scope C s H ex pn) ifs tc) (he:∀C s H ex pn,DE K (iz X N scope C s H ex pn) elt te) (XG:autoParam (X.N[i]?=some x) qQJ) (xm:autoParam (X.env.scope.names.lookup x=some .local) qQJ) (XH:autoParam (swapsWith (.ListComp elt [{tg,iter,ifs,0}] scope pos) (some<|.Name x pos') Kw.line X.env=pure true) qQJ) (hs:autoParam (∀x,foldedSetIterable iter X.env x=pure x) qQ0) (hc:autoParam (X.calm=true) qQJ):DS K X b (.Assign [.Name x pos'] (.ListComp elt [{tg,iter,ifs,0}] scope pos) Kw) (T4 i<|C_ ti src gd tc te):=⟨λy=>(A_ (X:=y.cx) (i:=i) (tc:=Tt K (λ_=>E0) tc) (te:=T K (λ_=>E0) te) hN XG xm ⟨S.kind,S.gp,S.loc,S.AF,S.len,S.src⟩ hc (hit.of y) hg hx (λC s H ex pn=>(hi C s H ex pn).of<|.none _ rfl) (λC s H ex pn=>(he C s H ex pn).of<|.none _ rfl) XH hs).mono <| by rintro D τ H ⟨σ,S,De,Z,aA,hS,q,hD,hZ⟩;exact T.comp YC {σ,S,_,_,aA,hS,q,λd S1 v H1 r1 v1 s1 k1=>hD.nx _ _ _ _ r1 ((aA.ts k1).set i v1) s1 k1,hZ.at aA}⟩
theorem aR:∀v τ H Q,Tg K (V0 i) v τ H Q->iy i v τ H Q:=by rintro v τ H Q ⟨d,σ,S,R,rv,aA,hS,q,hR⟩;exact hR _ S _ H q (aA.set i rv) hS<|.refl _
end
structure vj(K:Frag)(x qual:Str)(st:Stmt)(f:Addr)(fd:FuncData):Prop where
 ex:∃(oc:Value)(od:Option Addr)(dV kV doc pm:Value)(an:Option Addr)(fN ct:Value)(OG:Array (Option Value)),
  fd=fnOf x qual (bp st) (ba st) (ae st) dV kV doc pm an fN ct/\K.lookup f=some {oc,od,.func fd,OG}/\codeIn K fN qual=true
noncomputable def jb(N:List Str)(ds:List D):SD:=ds.map some++List.replicate (N.length-ds.length) none
section
variable{i:Nat}{P:Program}{w:World}{K:Frag}{mg:Str->Option Value}{base:Heap}
theorem vj.okD{x qual:Str}{st:Stmt}{f:Addr}{fd:FuncData}{N ps:List Str}{k:Nat}{sp:ja}(F:vj K x qual st f fd)(S:fQ N ps<|ae st)(len:∀ds S R Z,sp ds S R Z->ds.length=ps.length) (lM:∀(fN:Value)(A:Around)(outer:List Env)(s:Shared)(H:Hp)(E:XK)(ds:List D)(S:aw)(R:KD)(Z:KX),bJ k (A.deeper<|envOfC qual (ae st) s.heap.objs.size f fN)->sp ds S R Z->∃t,Gf K (j0 (fc P w mg) P w K mg base N qual (ae st) f fN A outer s H E) true (ba st) t/\t {nx:=λ_ S'=>R .av S',rt:=R} (jb N ds) S λ_=>Z):bF P w K mg base (fc P w mg) (k+1) f fd ps (mV K sp):=by
 obtain⟨oc,od,dV,kV,doc,pm,an,fN,ct,OG,rfl,lk,oo⟩:=F.ex;have cP:ps.length<=N.length:=by have:=congrArg List.length S.pre;rw[ym]at this;lia
 refine ML lk oo S (by rintro vs H Q E ⟨ds,S',R,Z,v,_,h,_⟩;exact by rw[v.len];exact len _ _ _ _ h) λA outer s H vs Q E hr ⟨ds,S',R,Z,v,hS,h,hR,hZ⟩=>?_;obtain⟨t,ht,q⟩:=lM fN A outer s H E ds S' R Z hr h;have L:cX (j0 (fc P w mg) P w K mg base N qual (ae st) f fN A outer s H E) E:=uo;let y:Ev (j0 (fc P w mg) P w K mg base N qual (ae st) f fN A outer s H E) true:={_,(j0 (fc P w mg) P w K mg base N qual (ae st) f fN A outer s H E).xe,λ_=>E,{λp2 τ H1 s1 e s' I h=>MR L p2 τ H1 s1 e s' I h,λ_ p2 τ H1 s1 h' a cls args I hx he=>oz L I hx he,λ_=>PassesOwn.leaving}};refine{Tl K (λ_=>E) t,ht.of y,jb N ds,S',_,λ_=>Z,?_,hS,q,{λσ S1 τ H1 r a b c=>hR.kp c |>.now b r fe,hR,λ_ _ _ _ z=>z.elim,λ_ _ _ _ z=>z.elim},λσ τ C S1 H1 z a b c=>hZ C S1 H1 z b c};unfold jb start;refine(qN v).app ?_;rw[v.len];exact qM _ _<|by rw[List.length_replicate]
theorem bF.Lh(F:bF P w K mg base (fc P w mg) k f fd ps<|mV K sp)(h:∀ds S R Z,VM ds S R Z->sp ds S R Z):bF P w K mg base (fc P w mg) k f fd ps (mV K VM):=F.imp <| by rintro vs H Q E ⟨ds,S,R,Z,a,b,c,d⟩;exact{ds,S,R,Z,a,b,h _ _ _ _ c,d}
theorem bF.calm(F:bF P w K mg base (fc P w mg) k f fd ps sp):bF P w K mg base VO k f fd ps λvs H Q _=>sp vs H Q E0:=by refine{λvs H Q E h=>F.len vs H Q E0 h,λA outer s H args us vs Q E hr e0 hb r h=>yU (F.run A outer s H args us vs Q E0 hr e0 hb r h) λres s' q=>?_};cases res with|error e=>(obtain⟨_,_,_,_,_,_,_,_,_,z⟩:=q;exact z.elim)|ok fl=>cases fl<;>exact q
noncomputable def uu.less(De:uu)(i:Nat):uu:={nx:=λσ S=>De.nx (σ.set i none) S,rt:=De.rt,bk:=λσ S=>De.bk (σ.set i none) S,ct:=λσ S=>De.ct (σ.set i none) S}
end
theorem uv{P:Program}{w:World} : ∀{ss:List Str}{vs:List Value},vs.length=ss.length->(∀(j:Nat)(v:Value),vs[j]?=some v->∃x,ss[j]?=some x/\keyIs (.inr x) v=true)->StrsAre vs ss|[],[],_,_=>.nil|[],_::_,h,_=>by simp at h|_::_,[],h,_=>by simp at h|x::ss,v::vs,h,k=>by obtain⟨x',e,q⟩:=k 0 v rfl;cases e;rcases bB q with⟨i,t,e,_⟩|⟨y,t,e,rfl⟩;cases e;cases e;exact .cons x t<|uv (P:=P) (w:=w) (by simpa using h) λj v e=>k (j+1) v<|by simpa using e
theorem uw:∀{vs:List Value}{ss:List Str},StrsAre vs ss->Vals (ss.map V.str) vs|_,_,.nil=>.nil|_,_,.cons y t h=>.cons ⟨t,rfl⟩<|uw h
theorem KV.YD{κ:Type}{kvs:List<|κ×V}{vs:List<|κ×Value}(h:KV kvs vs):vs.map (·.1)=kvs.map (·.1):=by unfold KV at h;induction h with|nil=>rfl|cons r t ih=>rw[zx,zx,ih,r.1]
theorem Hs{prog:Program}{w:World}{A:Around}{E:Value->Shared->Prop}{s:Shared}{T:String}{r d:Addr}{n:Nat}{P:Nat->Value->Prop}{OK:Heap->Prop}{R:List Value->Shared->Prop}(K:PySem.W.KdlSrc prog w T r d n P OK)(hh:A.handled=none)(aJ:OK s.heap)(hn:n<=sizeLine) (h:∀(h':Heap) (tk:Nat) (acc:Array Value),(∀b o,s.heap.get? b=some o->h'.get? b=some o)->s.heap.objs.size<=h'.objs.size->ItemsOf P acc n->R acc.toList {s with heap:=h',toks:=tk}): wpAny (model prog w) A (collect<|.ref r) R E s:=by have eL:=K.there _ aJ;unfold collect;refine zc<|wpAny_runValue<|yP entry_proto_collect' ?_;rw[Around.under_plainId PySem.F.plain_proto_collect _];show wpAny _ A.in1 (newList [] >>=λl=>again<|.builtin "list.__iadd__" {[l,.ref r],[]}) _ _ s;refine zc<|yi ?_;refine zo {plainId_quiet PySem.F.plain_list_iadd _,yP entry_list_iadd' ?_};rw[Around.under_plainId PySem.F.plain_list_iadd _];have Ue:(s.heap.push {cls:=.type "list",data:=.seq ([]:List Value).toArray}).get? s.heap.objs.size=some {cls:=.type "list",data:=.seq #[]}:=zk _ rfl;show wpAny _ A.in1 (Builtin.List.listExtendWith (.ref s.heap.objs.size) (.ref r)<|.ref s.heap.objs.size) _ _ _;have key:=PySem.W.kdl_extend (A:=A) (s:={s with heap:=s.heap.push {cls:=.type "list",data:=.seq ([]:List Value).toArray}}) (R:=λ(q:Result) (s':Shared)=>∃(h':Heap) (tk:Nat) (xE:Array Value) (c':Nat),q=.ok (.ret<|.ref s.heap.objs.size)/\s'={s with heap:=h',toks:=tk}/\(∀b o,s.heap.get? b=some o->h'.get? b=some o)/\h'.get? s.heap.objs.size=some {cls:=.type "list",dict:=none,data:=.seq xE c',slots:=#[]}/\ItemsOf P xE n) K hh (K.keep _ _ aJ λb _ o e=>za _ e) s.heap.objs.size (yr eL.1) (yr eL.2) (.ref s.heap.objs.size) 0 Ue (λh' tk xE c' hk qd qE=>{h',tk,xE,c',rfl,rfl,λb o e=>hk b o (zA<|zt e)<|za _ e,qd,qE}) hn;refine yI key (λfin s' x=>?_) λe s' x=>?_;{cases fin with|done f=>(obtain⟨h',tk,xE,c',e,rfl,hk,qd,qE⟩:=x;cases e;show wpAny _ A (load s.heap.objs.size >>=_) _ _ _;exact zc<|wpAny_load qd<|zo<|h h' tk xE hk (yK<|zt qd) qE)|again c₁=>refine{x.1,yU x.2 λq bS y=>?_};obtain⟨h',tk,xE,c',rfl,rfl,hk,qd,qE⟩:=y;show wpAny _ A (load s.heap.objs.size >>=_) _ _ _;exact zc<|wpAny_load qd<|zo<|h h' tk xE hk (yK<|zt qd) qE};obtain⟨_,_,_,_,e',_⟩:=x;cases e'
theorem vk{X:Cx}(hc:X.calm=true):ee X (.builtin "sorted") (λxs H Q=>∃(a:Addr)(kvs:List (Key×V))(ss:List Str),xs=[.ref a]/\H a=some (.dK kvs)/\kvs.map (·.1)=ss.map Sum.inr/\kvs.length<64/\∀Dc,Dc.Perm ss->sortedS Dc=true->∀l,H l=none->Q (.ref l) (upd H l<|.lst<|Dc.map V.str)):=by
 intro pins s σ H xs us Q I r h;obtain⟨a,kvs,ss,rfl,e,hk,hl,q⟩:=h;obtain⟨u,rfl,ru⟩:=vals1 r;cases ru;obtain⟨z,hd,vs,rel,dd⟩:=CV I.aJ e;obtain⟨ep,V6⟩:=dd.dictAt;have hlen:vs.length<64:=by rw[<-rel.length];exact hl
 have hh:=I.ok.hd hc;refine PySem.Calls.call_function_entry kind_sorted plain_sorted entry_sorted (args_sorted1 _) ?_;unfold Builtin.«sorted»;refine zc (m:=checkCount "sorted" 1 1 _)<|zo ?_;refine zc<|Hs (A:=X.A.in1) (PySem.W.kdl_dict (knd:=aF X.prog X.w) (kvs:=vs) (ep:=ep) hd) hh V6 (by rw[yg];omega) λh' tk acc hkp hB qE=>?_;have FZ:acc.toList.length=vs.length:=by rw[zX];exact qE.1
 refine zc<|wpAny_newList ?_ (by rw[FZ,yg];omega);have hS:StrsAre acc.toList ss:=by have hkv:=rel.YD;refine uv (P:=X.prog) (w:=X.w) (by rw[FZ,<-rel.length];have:=congrArg List.length hk;simpa using this) λj v ev=>?_;obtain⟨k,x,e1,e2⟩:=qE.2 j v (by rw[<-Array.getElem?_toList];exact ev);have e3:(vs.map (·.1))[j]?=some k:=(by rw[zi,e1];rfl);rw[hkv,hk,zi]at e3;cases q2:ss[j]? with|none=>(rw[q2]at e3;cases e3)|some y=>rw[q2]at e3;cases e3;exact⟨y,rfl,e2⟩
 have FY:(h'.push<|seqObj "list" acc.toList.toArray 0).get? h'.objs.size=some (seqObj "list" acc.toList.toArray 0):=zk _ rfl;show wpAny _ _ _ _ _ {s with heap:=h'.push<|seqObj "list" acc.toList.toArray 0,toks:=tk};refine zc<|yH<|yF slot_list_sort {_,FY,rfl} entry_list_sort (list_sort_treeK (s:={s with heap:=h'.push<|seqObj "list" acc.toList.toArray 0,toks:=tk}) strKind_oneLt FY hS.keysOf (λnA nB rest e=>keyKind_strs<|by rw[<-e];exact hS) (by rw[FZ];exact hlen) λeK hp hs=>!⟨?_⟩)<|args_list_sort _;refine zo !⟨?_⟩;obtain⟨Dc,h1,h2,h3⟩:=sorted_out_str hS hp hs;obtain⟨e1,he1⟩:=sortedHeap_at (vs:=acc.toList) (n:=0) (out:=(arrOf eK).map (·.2)) FY;have Ug:Dc.length<=sizeLine:=by rw[h2.length_eq,yg];have:=congrArg List.length hk;rw[zb,zb]at this;omega
 refine{.ref h'.objs.size,_,I.laid (a:=h'.objs.size) (o:=.lst<|Dc.map V.str) (λb u hb=>?_) hB {by rw[zb];exact Ug,_,e1,uw h1,he1},rfl,q Dc h2 h3 _<|I.aJ.fresh hB};have eL:=zt<|hkp b u hb;rw[sortedHeap_old (zA eL)<|by rw[yc];exact Nat.lt_succ_of_lt eL,za _<|hkp b u hb]
section
variable{K:Frag}
def Li:List D->aw->KD->Prop:=λds S R=>∃(a:Addr)(kvs:List (Key×D))(ss:List Str),ds=[.ref a]/\S a=some (.c_ kvs)/\kvs.map (·.1)=ss.map Sum.inr/\kvs.length<64/\∀Dc,Dc.Perm ss->sortedS Dc=true->∀p,S p=none->R (.ref p) (S.set p<|.lst<|Dc.map D.str)
theorem bX.keys{κ:Type}{H:Hp}{ks:List<|κ×D}{vs:List<|κ×V}(h:bX K H ks vs):vs.map (·.1)=ks.map (·.1):=by unfold bX at h;induction h with|nil=>rfl|cons r t ih=>rw[zx,zx,ih,r.1]
theorem xG:gA K (.builtin "sorted") Li:=by rintro X hK hc pins s σ H xs us Q I rx ⟨ds,S,R,r,hS,⟨a,kvs,ss,e,e1,hk,hl,h⟩,hR⟩;subst e;obtain⟨v,rfl,r1⟩:=r.one;obtain⟨vs,e2,t⟩:=hS.c_ e1;exact vk hc pins s σ H _ us Q I rx {a,vs,ss,by rw[r1.ref],e2,by rw[t.keys];exact hk,by rw[t.len];exact hl,λDc p1 p2 l hl=>hR.new hS hl (h Dc p1 p2 l)<|vf Dc}
end
def M8(K:Frag)(a:Addr)(n:Nat):It:={λi H=>∃xs x,iW K H a xs/\xs.length=n/\i<n/\xs[n-1-i]?=some x,λi H x H'=>H'=H/\∀xs,iW K H a xs->xs.length=n->xs[n-1-i]?=some x,λi _=>n<=i}
theorem Ht{P:Program}{w:World}{K:Frag}{tg:Expr}(a it:Addr)(n:Nat):Turn P w K tg (M8 K a n) [it] it (λi h=>i<=n/\h.IsRevIter it a ((n:Int)-1-(i:Int))) where
 mem:=by simp
 obj:=λi h st b hb=>by
  have e:b=it:=by simpa using hb
  subst e
  obtain⟨_,o,e,c,d⟩:=st
  exact{o,e,λv z=>by rw[d]at z;cases z}
 keep:=λi h h' st k=>{st.1,st.2.at λo e=>k it (by simp) o e}
 item:=by
  intro X hP hw hK hc i pins s σ H E I hf st hg
  subst hP hw hK
  obtain⟨xs,x,hq,hn,hi,hx⟩:=hg
  obtain⟨az,rv,p,hz⟩:=I.list hq
  obtain⟨u,hu,ru⟩:=rv.get hx
  obtain⟨f0,f1,f2,f3,f4,f5⟩:=hf it<|by simp
  have e:(n:Int)-1-(i:Int)=((n-1-i:Nat):Int):=by lia
  have hit:=st.2
  rw[e]at hit
  refine wpAny_pyNext_rev_item hit p.isList (x:=u) (by simpa using hu) λh' eK sb=>?_
  have I1:Inv X pins σ H {s with heap:=h'}:=I.turned (t':=s.toks) (λb o hb e=>(sb.2 b hb).trans e) f0 f1 f3 f4 f5
  obtain⟨o,e1,c,d⟩:=id eK
  refine{u,rfl,t6 (s:={s with heap:=h'}) e1 c d (by decide) {x,H,I1,ru,{rfl,λys hy _=>by rw[I.wZ hy hq];exact hx},{hi,?_},λb hb=>(hf b hb).1}}
  have e2:(n:Int)-1-((i+1:Nat):Int)=((n-1-i:Nat):Int)-1:=by lia
  rw[e2];exact eK
 done:=by
  intro X hP hw hK hc i pins s σ H E I hf st hg
  subst hP hw hK
  obtain⟨f0,f1,f2,f3,f4,f5⟩:=hf it<|by simp
  have hg:n<=i:=hg
  have e:(n:Int)-1-(i:Int) = -1:=by have:=st.1;lia
  have hit:=st.2
  rw[e]at hit
  exact wpAny_pyNext_rev_end (I.ok.hd hc) hit λh' eb=>{rfl,I.turned (t':=s.toks) (λb o hb e=>eb b o hb e) f0 f1 f3 f4 f5}
 self:=λ_ _ _ _ _ st h=>wpAny_pyIter_revIter st.2 h
def YE(K:Frag)(ta:TA):TI:=λσ H R=>ta σ H λvs H1=>∃a xs,vs=[.ref a]/\iW K H1 a xs/\R (M8 K a xs.length) H1
theorem PC{X:Cx}{tg a:Expr}{ta:TA}{p pos:Pos}(hg:Gl X "reversed")(hm:X.mg "reversed"= none)(ha:PA X [a] ta)(hs:starEach [a] X.env=[(false,eval a X.env)]):PI X tg (.Call (.Name "reversed" p) [a] [] pos) (YE X.K ta):=by
 intro pins s σ H R I h;refine Call_<|gk I hg hm boot_reversed<|PyProof.Rows.callWith_type1 (bw (ha pos pins s σ H _ I h) λus s1 ⟨vs,H1,I1,r1,q1⟩=>?_) hs rfl;obtain⟨l,xs,e,q,hR⟩:=q1;subst e;obtain⟨u,rfl,ru⟩:=vals1 r1;cases ru;obtain⟨az,rv,pl,hz⟩:=I1.list q;have hn:az.toArray.size=xs.length:=by rw[zp,rv.length]
 refine call_reversed_list pl.isList ?_;rw[hn];have st:(s1.heap.push<|revObj l<|(xs.length:Int)-1).IsRevIter s1.heap.objs.size l ((xs.length:Int)-1-((0:Nat):Int)):={_,zk _ rfl,rfl,by show Data.fields _=Data.fields _;simp};have I2:Inv X pins σ H1 {s1 with heap:=s1.heap.push<|revObj l<|(xs.length:Int)-1}:=I1.kept (t':=s1.toks) λb o e=>za _ e;refine wpAny_pyIter_revIter st {_,_,_,_,H1,rfl,I2,Ht l s1.heap.objs.size xs.length,{zV _,st},λb hb=>?_,hR};have hb:b=s1.heap.objs.size:=by simpa using hb
 subst hb;exact I1.pj (zr _)<|I1.aJ.fresh<|zr _
section
variable{K:Frag}{X:Cx}{tg:Expr}
def Uh(t:gX):AH:=λσ S R Z=>t σ S (λds S1=>∃x es,ds=[x]/\xw S1 x es/\R {es.reverse,λS=>xw S x es} S1) Z
theorem irv{t:gX}(hm:X.mg "reversed"= none)(ha:DA K X [a] t)(hg:autoParam (Gl X "reversed") qQJ)(hs:autoParam (starEach [a] X.env=[(false,eval a X.env)]) qQJ)(hK:autoParam (X.K=K) qQJ):DI K X tg (.Call (.Name "reversed" p) [a] [] pos) (Uh t):=by subst hK;exact⟨λy=>(PC (X:=y.cx) hg hm (ha.of y) hs).mono <| by rintro τ H R ⟨σ,S,RI,Z,aA,hS,q,hR,hZ⟩;exact{σ,S,_,Z,aA,hS,q,by rintro ds S1 vs H1 ⟨x,es,e,h1,r1⟩ v1 s1 k1;subst e;obtain⟨v,rfl,r⟩:=v1.one;obtain⟨a,xs,rfl,hq,t⟩:=h1.at s1 r;refine{a,xs,rfl,hq,hR _ S1 _ H1 r1 (λi S2 H2 k2 s2 V3=>?_) s1 k1};obtain⟨a',Px,e',Ge,t'⟩:=xw.at V3 s2<|Rv.ts k2 _ r;cases e';have hl:xs.length=es.length:=t.len;have Z4:Px.length=es.length:=t'.len;refine{λd hd=>?_,λh=>by rw[yD]at h;show xs.length<=i;lia};have hi:i<es.length:=(by have:=(ze.mp hd).1;rwa [yD]at this);rw[List.getElem?_reverse hi]at hd;obtain⟨v,e1,r⟩:=t'.get hd;rw[<-hl]at e1;refine{{Px,v,Ge,by lia,by lia,e1},λx' H' ⟨e2,e3⟩=>?_};subst e2;have:=e3 Px Ge (by lia);rw[e1]at this;cases this;exact{r,.refl _,s2},hZ}⟩
noncomputable def cE(xs ys:List D):List D:=List.zipWith (λa b=>D.tup [a,b]) xs ys
def Ui(t:gX):AH:=λσ S R Z=>t σ S (λds S1=>∃xs ys,ds=[.tup xs,.tup ys]/\xs.length=ys.length/\R {cE xs ys,λ_=>True} S1) Z
theorem jP:∀v τ H Q,Tg K (M7 2<|Bx (V0 i)<|Bx (V0 j) M6) v τ H Q->J4 K 2 (qr (iy i)<|qr (iy j) J3) v τ H Q:=by rintro v τ H Q ⟨d,σ,S,R,rv,aA,hS,⟨ds,e,hl,a,r,e1,b,r',e2,e3,q⟩,hR⟩;subst e e1 e2 e3;obtain⟨p,xs,rfl,hp,t⟩:=rv.tup;obtain⟨v1,v2,rfl,r1,r2⟩:=t.two;exact{p,_,rfl,.of hp,rfl,v1,[v2],rfl,v2,[],rfl,rfl,hR _ S _ H q ((aA.set i r1).set j r2) hS<|.refl _}
end
section
variable{K:Frag}{X:Cx}{b:Bool}{pos:Pos}
def Uj(tl ti tv:TD):lI:=λDe σ S Z=>tv σ S (λv S1=>tl σ S1 (λx S2=>ti σ S2 (λy S3=>∃a es i j,x=.ref a/\y=.int i/\S3 a=some (.lst es)/\GI es.length i=some j/\De.nx σ (S3.set a<|.lst<|es.set j v))<|Z σ)<|Z σ)<|Z σ
theorem sls{o i value:Expr}{tl ti tv:TD}{pos':Pos}(ho:DE K X o tl)(hi:DE K X i ti)(hv:DE K X value tv)
  (ha:autoParam (∀v,assign (.Subscript o i pos') X.env v=(do
   let ov <-holding [v] (eval o X.env)
   let iv <-holding [v,ov] (eval i X.env)
   standAt pos'
   holding [v,ov,iv] (setItem ov iv v)
   release [v,ov,iv] [])) qQ0)
  (hs:autoParam (swapsWithSole [.Subscript o i pos'] value pos.line X.env=pure false) qQJ) (hw:autoParam (swappedStores [.Subscript o i pos'] value X.env=pure none) qQJ) (h1:autoParam ((assignEach [.Subscript o i pos'] X.env).map (·.2)=[assign (.Subscript o i pos') X.env]) qQJ):
  DS K X b (.Assign [.Subscript o i pos'] value pos) (Uj tl ti tv):=
 ⟨λy=>(Gw (X:=y.cx) (hv.of y) (Oc (ho.of y) (hi.of y) set_list ha) hs hw h1).mono <| by rintro D τ H ⟨σ,S,De,Z,aA,hS,q,hD,hZ⟩;exact
  ⟨σ,S,_,_,aA,hS,q,λv S1 vv H1 r1 v1 s1 k1=>⟨σ,S1,_,_,aA.ts k1,s1,r1,λx S2 xv H2 r2 v2 s2 k2=>⟨σ,S2,_,_,aA.ts<|k1.trans k2,s2,r2,by
   rintro y S3 yv H3 ⟨a,es,i,j,e1,e2,e3,e4,r3⟩ v3 s3 k3
   subst e1 e2
   obtain⟨xs,e5,t⟩:=s3.lst e3
   have kk:=s3.g_ (o:=.lst<|xs.set j vv) e3
   refine{a,xs,i,j,(Rv.ts k3 _ v2).ref,v3.int,e5,by rw[t.len];exact e4,?_}
   exact hD.nx _ _ _ _ r3 (aA.ts<|((k1.trans k2).trans k3).trans kk) (s3.put (c:=.lst _) e3 {_,aE,RvAll.ts kk _<|t.set j<|Rv.ts (k2.trans k3) _ v1})<|((k1.trans k2).trans k3).trans kk,hZ.on (k1.trans k2)<|aA.ts<|k1.trans k2⟩,hZ.on k1<|aA.ts k1⟩,hZ.at aA⟩⟩
noncomputable def fi(z:Str):List D:=z.cps.toList.map λc=>D.str ⟨#[c]⟩
def M9(t:TD):AH:=λσ S R Z=>t σ S (λx S1=>∃z,x=.str z/\R {fi z,λ_=>True} S1) Z
theorem PD{t:TD}(h:DE K X l t):DI K X tg l (M9 t):=⟨λy=>(O4 (X:=y.cx)<|h.of y).mono <| by rintro τ H R ⟨σ,S,RI,Z,aA,hS,q,hR,hZ⟩;exact⟨σ,S,_,Z,aA,hS,q,by
 rintro x S1 v H1 ⟨z,e,r1⟩ v1 s1 k1;subst e;refine{z,v1.str,hR _ S1 _ H1 r1 (λi S2 H2 k2 s2 _=>{λd hd=>?_,λhl=>?_}) s1 k1};unfold fi at hd;rw[zi,Array.getElem?_toList]at hd;cases q:z.cps[i]? with|none=>(rw[q]at hd;cases hd)|some c=>rw[q]at hd;cases hd;refine{(Array.getElem?_eq_some_iff.mp q).1,λx' H' ⟨e1,c',e2,e3⟩=>?_};rw[q]at e2;cases e2;subst e1 e3;exact{i7 _,.refl _,s2}
 unfold fi at hl;rw[zb,zX]at hl;exact hl,hZ⟩⟩
def Lj(t:TD):TD:=λσ S R Z=>t σ S (λx S1=>∃ss:List Str,xw S1 x (ss.map D.str)/\ss.length<4000/\R (.int (iB ss).length) S1) Z
theorem lse{t:TD}(h:DE K X e t)(hm:X.mg "len"= none)(hm':X.mg "set"= none)(hp:autoParam (isPlain e=true) qQJ)(hg:autoParam (Gl X "len") qQJ)(YF:autoParam (Gl X "set") qQJ)(he:autoParam (starEach [e] X.env=[(false,eval e X.env)]) qQJ) (he2:autoParam (starEach [Expr.Call (.Name "set" p') [e] [] pos'] X.env=[(false,eval (.Call (.Name "set" p') [e] [] pos') X.env)]) qQJ) (hK:autoParam (X.K=K) qQJ) (hc:autoParam (X.calm=true) qQJ): DE K X (.Call (.Name "len" p) [.Call (.Name "set" p') [e] [] pos'] [] pos) (Lj t):=by subst hK;refine⟨λy=>(w9 (X:=y.cx) (EI (X:=y.cx) rfl rfl) hg hm aC (XI (ud (X:=y.cx) (EH (X:=y.cx) rfl rfl rfl hc) YF hm' O8 (XI (h.of y) AZ hp) (by decide) (by decide) he rfl) AZ rfl) (by decide) (by decide) he2 rfl).mono λτ H Q ⟨σ,S,R,Z,aA,hS,q,hR,hZ⟩=>?_⟩;refine{σ,S,_,Z,aA,hS,q,λx S1 v H1 ⟨ss,h1,hl,r1⟩ v1 s1 k1=>?_,hZ};obtain⟨a,xs,rfl,hq,t⟩:=h1.at s1 v1;rw[t.strs]at hq;exact{a,ss,rfl,hq,hl,λl hl=>{l,ss,rfl,aE,hR _ _ _ _ r1 (aN _) (s1.grow hl)<|k1.trans<|.new hl}}
end
theorem eW:bootBuiltins "sorted"= some (.builtin "sorted"):=by trivial
def Sub(S S':aw):Prop:=∀b c,S b=some c->S' b=some c
theorem Sub.refl(S:aw):Sub S S:=λ_ _ h=>h
theorem Sub.trans(a:Sub S S1)(b:Sub S1 S2):Sub S S2:=λp c h=>b p c<|a p c h
theorem Sub.new(h:S p=none):Sub S (S.set p c):=λb c' hb=>by rw[ag<|gq hb h];exact hb
theorem Rs.sub{K:Frag}{S S':aw}{H:Hp}(h:Rs K S' H)(s:Sub S S'):Rs K S H:=λa c e=>h a c<|s a c e
inductive Fo (S':aw) (p:aw->Prop):Prop where
 |mk (S:aw) (h:Sub S S') (r:p S):Fo S' p
theorem fo(h:p S):Fo S p:={S,.refl S,h}
section
variable{P:Program}{w:World}{K:Frag}{mg:Str->Option Value}{base:Heap}
theorem vj.ok{x qual:Str}{st:Stmt}{f:Addr}{fd:FuncData}{N ps:List Str}{k:Nat}{sp:ja}(F:vj K x qual st f fd)(S:fQ N ps<|ae st)(len:∀ds S R Z,sp ds S R Z->ds.length=ps.length) (lM:∀(fN:Value)(A:Around)(outer:List Env)(s:Shared)(H:Hp)(E:XK)(ds:List D)(S:aw)(R:KD)(Z:KX),bJ k (A.deeper<|envOfC qual (ae st) s.heap.objs.size f fN)->sp ds S R Z->∃t,Gf K (j0 (fc P w mg) P w K mg base N qual (ae st) f fN A outer s H E) true (ba st) t/\t {nx:=λ_ S'=>Fo S'<|R .av,rt:=λd S'=>Fo S'<|R d} (jb N ds) S λ_ C S'=>Fo S'<|Z C):bF P w K mg base (fc P w mg) (k+1) f fd ps (mV K sp):=by
 have F2:bF P w K mg base (fc P w mg) (k+1) f fd ps (mV K λds S R' Z'=>∃R Z,sp ds S R Z/\R'=(λd S'=>Fo S'<|R d)/\Z'=λC S'=>Fo S'<|Z C):=by refine F.okD S (by rintro ds S R Z ⟨R0,Z0,h,_⟩;exact len _ _ _ _ h) λfN A outer s H E ds S R Z hr ⟨R0,Z0,h,e1,e2⟩=>?_;subst e1 e2;exact lM fN A outer s H E ds S R0 Z0 hr h
 refine F2.imp <| by rintro vs H Q E ⟨ds,S,R,Z,v,hS,h,hR,hZ⟩;exact{ds,S,_,_,v,hS,⟨R,Z,h,rfl,rfl⟩,by rintro d S' u H' ⟨S2,sb,r⟩ rv rs kp;exact hR d S2 u H' r rv (rs.sub sb) kp,by rintro C S' H' ⟨S2,sb,r⟩ rs kp;exact hZ C S2 H' r (rs.sub sb) kp}
end
section
variable{K:Frag}{X:Cx}{b:Bool}
def Uk(t:lI):lI:=λDe σ S Z=>∃P:SD->aw->Prop,t {De with nx:=λaB S'=>Fo S'<|P aB} σ S Z/\∀aB S',P aB S'->De.nx aB S'
theorem ux{st:Stmt}{t:lI}(h:DS K X b st t):DS K X b st (Uk t):=⟨λy=>(h.of y).mono <| by rintro D τ H ⟨σ,S,De,Z,aA,hS,⟨P,q,hP⟩,hD,hZ⟩;exact{σ,S,_,Z,aA,hS,q,{by rintro wM S1 Ys H1 ⟨S2,sb,r1⟩ a b c;exact hD.nx _ _ _ _ (hP _ _ r1) a (b.sub sb) c,hD.rt,hD.bk,hD.ct},hZ}⟩
def dFo(t:TD):TD:=λσ S R Z=>t σ S (λd S'=>Fo S'<|R d) Z
theorem s_{t:TD}(h:DE K X e t):DE K X e (dFo t):=⟨λy=>(h.of y).mono <| by rintro τ H Q ⟨σ,S,R,Z,aA,hS,q,hR,hZ⟩;exact{σ,S,_,Z,aA,hS,q,by rintro d S' v H' ⟨S2,sb,r⟩ rv rs kp;exact hR d S2 v H' r rv (rs.sub sb) kp,hZ}⟩
theorem oF(nd:N.Nodup)(h0:autoParam (N[0]?=some a) qQJ)(hx:autoParam (∀C s H ex pn,Loc (iz X N scope C s H ex pn).env.scope a/\(iz X N scope C s H ex pn).env.scope.names.lookup a=some .local) qJQ): ∀C s H ex pn,PG (iz X N scope C s H ex pn) (.Name a p) (iy 0):=λC s H ex pn=>pW (i:=0) nd h0 (hx C s H ex pn).1<|.inr (hx C s H ex pn).2
theorem Rj(nd:N.Nodup)(h0:autoParam (N[0]?=some a) qQJ)(h1:autoParam (N[1]?=some c) qQJ) (hx:autoParam (∀C s H ex pn,Loc (iz X N scope C s H ex pn).env.scope a/\(iz X N scope C s H ex pn).env.scope.names.lookup a=some .local) qJQ) (hy:autoParam (∀C s H ex pn,Loc (iz X N scope C s H ex pn).env.scope c/\(iz X N scope C s H ex pn).env.scope.names.lookup c=some .local) qJQ) (hl:∀env:Env,(assignEach [.Name a p,.Name c p'] env).length=2/\(assignEach [.Name a p,.Name c p'] env).findIdx? (·.1)=none/\(assignEach [.Name a p,.Name c p'] env).map (·.2)=assign (.Name a p) env::(assignEach [.Name c p'] env).map (·.2)/\(assignEach [.Name c p'] env).map (·.2)=assign (.Name c p') env::(assignEach [] env).map (·.2):=by intro _;exact⟨rfl,rfl,rfl,rfl⟩) (hK:autoParam (X.K=K) qQJ) (hc:autoParam (X.calm=true) qQJ): ∀C s H ex pn,PG (iz X N scope C s H ex pn) (.Tuple [.Name a p,.Name c p'] j p2) (J4 K 2<|qr (iy 0)<|qr (iy 1) J3):=λC s H ex pn=>by subst hK;have e:=hl (iz X N scope C s H ex pn).env;exact Gv (X:=iz X N scope C s H ex pn) hc (qt (pW (i:=0) nd h0 (hx C s H ex pn).1<|.inr (hx C s H ex pn).2) (qt (pW (i:=1) nd h1 (hy C s H ex pn).1<|.inr (hy C s H ex pn).2) CJ e.2.2.2) e.2.2.1) e.1 e.2.1
end
theorem qS:∀{ss:List Str}{az:List Value},Vals (ss.map V.str) az->StrsAre az ss|[],_,.nil=>.nil|z::ss,_,.cons r t=>by obtain⟨tk,rfl⟩:=r;exact .cons z tk<|qS t
section
variable{K:Frag}
def PF:ER:=λx ds S R=>∃a es,x=.ref a/\ds=[]/\S a=some (.lst es)/\R .av (S.set a<|.lst [])
theorem Lk:K_ K "list.clear" PF:=by rintro X hK pins s σ H x xs v us Q I rx rs ⟨d,ds,S,R,r1,r2,hS,⟨a,es,e1,e2,e3,h⟩,hR⟩;subst e1 e2;obtain⟨zs,e4,t⟩:=hS.lst e3;exact GQ pins s σ H x _ v us Q I rx rs {a,zs,r1.ref,r2.nil,e4,hR.put hS e3 h fe bx}
end
end L2
namespace HT
open PySem PySem.Spec PyProof.Rows
end HT
namespace L2
open PySem PySem.Spec PyProof.Rows
section
variable{K:Frag}
theorem Hu(r:Rv K H d v):∀n:Nat,RvAll K H (List.replicate n d) (List.replicate n v)|0=>bx|n+1=>aO r<|Hu r n
end
inductive Hv (S:aw):List D->List PyData->Prop where
 |nil:Hv S [] []
 |cons {d:D}{p:PyData}{ds:List D}{ps:List PyData} : Dl S d p->Hv S ds ps->Hv S (d::ds) (p::ps)
section
variable{K:Frag}
noncomputable def Dd(p:Str×D):D:=.tup [.str p.1,p.2]
noncomputable def fj(l:List<|Str×D):List (Key×D):=l.foldl (λc p=>dput c (.inr p.1) p.2) []
theorem Df:∀{kvs:List (Str×D)}{ys:List V},RvAll K H (kvs.map Dd) ys->∃kv:List (Str×V),Prs H ys kv/\∀c c',bX K H c c'->bX K H (kvs.foldl (λc p=>dput c (.inr p.1) p.2) c) (kv.foldl (λc p=>putK c (.inr p.1) p.2) c')|[],ys,h=>(by rw[h.nil];exact{[],{rfl,λi x p e=>(by cases i<;>cases e)},λc c' h=>h})|p::kvs,ys,h=>by obtain⟨y,ys,rfl,r1,r2⟩:=h.cons;obtain⟨b,zs,rfl,hb,tz⟩:=Rv.tup<|show Rv K H (.tup [.str p.1,p.2]) y from r1;obtain⟨v,u,rfl,rv,ru⟩:=tz.two;have ev:=rv.str;subst ev;obtain⟨kv,⟨hl,hp⟩,hf⟩:=Df r2;refine{(p.1,u)::kv,{by rw[zQ,zQ,hl],λi x q e1 e2=>?_},λc c' h=>hf _ _<|h.put (.inr p.1) ru};cases i with|zero=>(cases e1;cases e2;exact⟨b,rfl,hb⟩)|succ i=>exact hp i x q e1 e2
def Ul:List D->aw->KD->Prop:=λds S R=>∃kvs:List (Str×D),ds=[.tup<|kvs.map Dd]/\∀p,S p=none->R (.ref p) (S.set p<|.c_<|fj kvs)
theorem Hw:gA K (.type "dict") Ul:=by rintro X hK hc pins s σ H xs us Q I rx ⟨ds,S,R,r,hS,⟨kvs,e,h⟩,hR⟩;subst hK e;obtain⟨v,rfl,r1⟩:=r.one;obtain⟨a,ys,rfl,q,t⟩:=r1.tup;obtain⟨kv,hp,hf⟩:=Df t;refine Be hc pins s σ H _ us Q I rx {a,ys,kv,rfl,q,hp,λl hl=>?_};have kn:Kp X.K H (upd H l<|.dK<|CY kv):=.new hl;exact hR _ _ _ _ (h l<|hS.fresh hl) (fg l) (hS.new (c:=.c_<|fj kvs) hl {_,aE,(hf [] [] .nil).ts kn}) kn
theorem xH(kvs:List<|Key×D)(k k':Key)(d:D):bY (dput kvs k d) k'=if k'=k then some d else bY kvs k':=by
 unfold dput;by_cases hk:(kvs.any λkv=>decide<|kv.1=k)=true;rw[if_pos hk];unfold bY;induction kvs with|nil=>(cases hk)|cons r kvs ih=>rw[zx,yb,yb];by_cases e:r.1=k;rw[if_pos e];by_cases e2:k'=k;rw[if_pos e2,show decide (r.1=k')=true from zw (e.trans e2.symm)];rfl;rw[if_neg e2,show decide (r.1=k')=false from zu λq=>e2<|q.symm.trans e];by_cases dy:(kvs.any λkv=>decide<|kv.1=k)=true;have:=ih dy;rw[if_neg e2]at this;exact this;have em:kvs.map (λkv=>if kv.1=k then (kv.1,d) else kv)=kvs:=(by(conv=>rhs;rw[<-List.map_id kvs]);refine zS λx hx=>?_;rw[if_neg λq=>dy<|List.any_eq_true.mpr {x,hx,zw q}];rfl);rw[em];rw[if_neg e];have dy:(kvs.any λkv=>decide<|kv.1=k)=true:=(by rw[yQ,zu e,yV]at hk;exact hk);by_cases e3:r.1=k';rw[zw e3,if_neg λq=>e<|e3.trans q];rw[zu e3];exact ih dy
 rw[if_neg hk];unfold bY;rw[List.find?_append];have hn:∀x∈kvs,x.1≠k:=λx hx q=>hk<|List.any_eq_true.mpr {x,hx,zw q};by_cases e:k'=k;subst e;rw[if_pos rfl,List.find?_eq_none.mpr λx hx=>by simp[hn x hx]];simp;rw[if_neg e];have:([(k,d)].find? λkv=>decide<|kv.1=k')=none:=by rw[yb,show decide (k=k')=false from zu λq=>e q.symm];rfl
 rw[this,Option.or_none]
theorem uy(l:List<|Str×D)(z:Str):(bY (fj l)<|.inr z).isSome=l.any λp=>decide (p.1=z):=by
 have all:∀(l:List (Str×D))(c:List (Key×D)),(bY (l.foldl (λc p=>dput c (.inr p.1) p.2) c)<|.inr z).isSome=((bY c<|.inr z).isSome||l.any λp=>decide<|p.1=z):=by intro l;induction l with|nil=>intro c;simp|cons p l ih=>intro c;rw[yJ,ih,xH,yQ];by_cases e:p.1=z;rw[if_pos<|by rw[e],zw e];simp;rw[if_neg λq=>e (yO q).symm,zu e];simp
 exact(all l []).trans<|by rfl
def Um(a:Addr)(kvs:List<|Str×V):ur:=λx y S R=>∃z,x=.str z/\y=.ref a/\R (.bl (kvs.lookup z).isSome) S
theorem YG{X:Cx}{a b:Expr}{ta tb:TD}{pos:Pos}{w:World}{ad:Addr}{kvs:List<|Str×V}(d:JH w K ad kvs)(ha:DE K X a ta)(hb:DE K X b tb)(hw:autoParam (X.w=w) qQJ)(hm:autoParam (behindInMarks .In b=false) qQ2)(hK:autoParam (X.K=K) qQJ): DE K X (.Compare a [.In] [b] pos) (Pn (Um ad kvs) ta tb):=by refine⟨λy=>(CO (X:=y.cx) (r:=Lr K<|Um ad kvs) ?_ (ha.of y) (hb.of y) hm).mono λ_ _ _ h=>h.op⟩;rintro pins s σ H x y' v u Q I rx ry ⟨d',e,S,R,r1,r2,hS,⟨z,e1,e2,h⟩,hR⟩;subst e1 e2;exact Hd (X:=y.cx) hw hK pins s σ H x y' v u Q I rx ry {z,ad,kvs,r1.str,r2.ref,d,hR.now hS h<|bW _}
end
structure Uo(k:Nat)(A:Around):Prop where
 dp:A.depth+3*k+5<recursionLimit
 un:A.units+16*k+200<cLine
structure FnH(P:Program)(w:World)(K:Frag)(mg:Str->Option Value)(base:Heap)(k:Nat)(f:Addr)(fd:FuncData)(ps:List Str)(sp:ja):Prop where
 len:∀ds S R Z,sp ds S R Z->ds.length=ps.length
 run:∀(A:Around)(outer:List Env)(s:Shared)(H:Hp)(args:Args)(us:List Value)(vs:List V)(Q:VK),Uo k A->w5 P w K mg base A outer s H->BindsTo s fd args (ps.zip us)->Vals vs us->mV K sp vs H Q E0 ->
  codeAny (model P w) A (.call (.ref f) args) (CR (fc P w mg) outer P w H s Q E0) s
def PEg(pre:Nat)(X:Cx)(e:Expr)(t:TE):Prop:=∀(pins:List (Addr×Obj))(s:Shared)(σ:St)(H:Hp)(Q:VK),Inv X pins σ H s->pre<=s.toks->t σ H Q->wpAny (model X.prog X.w) X.A (eval e X.env) (λu s'=>EP X pins σ Q u s'/\1<=s'.toks) X.xe s
structure DEg(pre:Nat)(K:Frag)(X:Cx)(e:Expr)(t:TD):Prop where
 of:∀{b:Bool}(y:Ev X b),PEg pre y.cx e<|T K y.E t
theorem YH{a b:Str}(h:a.cps.toList=b.cps.toList):a=b:=by obtain⟨⟨x⟩⟩:=a;obtain⟨⟨y⟩⟩:=b;cases h;rfl
end L2
namespace HT
open PySem PySem.Spec PyProof.Rows
end HT
namespace L2
open PySem PySem.Spec PyProof.Rows
section
variable{K:Frag}{X:Cx}
def Up:ER:=λx ds S R=>∃a es fs,x=.ref a/\ds=[.tup fs]/\S a=some (.lst es)/\es.length+fs.length<=sizeLine/\R .av (S.set a<|.lst<|es++fs)
theorem EW:K_ K "list.extend" Up:=by rintro X hK pins s σ H x xs v us Q I rx rs ⟨d,ds,S,R,r1,r2,hS,⟨a,es,fs,e1,e2,e3,hl,h⟩,hR⟩;subst e1 e2;obtain⟨w0,rfl,q2⟩:=r2.one;obtain⟨zs,e5,t⟩:=hS.lst e3;obtain⟨p,ys,rfl,q,t2⟩:=q2.tup;exact Bu pins s σ H x _ v us Q I rx rs {a,p,zs,ys,r1.ref,rfl,e5,q,by rw[t.len,t2.len];exact hl,hR.put hS e3 h fe<|t.app t2}
end
section
variable{K:Frag}{X:Cx}{E:XK}
structure DEx(K:Frag)(X:Cx)(E:XK)(e:Expr)(t:TD):Prop where
 of:∀(y:Ev X true),y.E=(λ_=>E)->cX y.cx E->PE y.cx e (T K y.E t)
structure DAx(K:Frag)(X:Cx)(E:XK)(es:List Expr)(t:gX):Prop where
 of:∀(y:Ev X true),y.E=(λ_=>E)->cX y.cx E->PA y.cx es (Ta K y.E t)
structure DSx(K:Frag)(X:Cx)(E:XK)(b:List Stmt)(t:lI):Prop where
 of:∀(y:Ev X true),y.E=(λ_=>E)->cX y.cx E->CG y.cx b (Tl K y.E t)
variable{N:List Str}{src:List (Option Nat)}{scope:Scope}{tg iter elt:Expr}{ifs:List Expr}{ti:AH}{g:TG}{gd:xC}{tc:lT}{te:TD}
end
open PySem.Builtin PySem.Builtin.Str
structure M3(X:Cx)(o:Expr)(m:Str)(apos:Pos)(e f g:Expr)(aL:Pos):Prop where
 base:attributeBase o m X.env (eval o X.env)=eval o X.env
 F8:((backTo aL<|starEach [e,f,g] X.env).all (λx=>!x.1)&&(backToKw aL<|keywordEach [] X.env).all (λx=>x.1.isSome)
  && decide (([e,f,g]:List Expr).length+([]:List Keyword).length+(if ([]:List Keyword).isEmpty then 0 else 1)<30))=true
 line:(apos.endLine==aL.line)=true
 trees:backTo aL (starEach [e,f,g] X.env)=[(false,eval e X.env),(false,eval f X.env),(false,eval g X.env)]
section
variable{X:Cx}{t:TE}
def PAg(pre:Nat)(X:Cx)(es:List Expr)(t:TA):Prop:=∀(pos:Pos)(pins:List (Addr×Obj))(s:Shared)(σ:St)(H:Hp)(Q:List V->Hp->Prop),Inv X pins σ H s->pre<=s.toks->t σ H Q->wpAny (model X.prog X.w) X.A (spliced<|backTo pos<|starEach es X.env) (AP X pins σ Q) X.xe s
end
section
variable{K:Frag}{X:Cx}
structure DAg(pre:Nat)(K:Frag)(X:Cx)(es:List Expr)(t:gX):Prop where
 of:∀{b:Bool}(y:Ev X b),PAg pre y.cx es<|Ta K y.E t
end
structure Gh(a₀:Array Keyed)(g:Nat->Nat)(xs:Array Keyed):Prop where
 at_:∀k,k<a₀.size->xs[k]?=a₀[g k]?
 lt:∀k,k<a₀.size->g k<a₀.size
 inj:∀i j,i<a₀.size->j<a₀.size->g i=g j->i=j
def Log(κ:KeyKind)(a₀:Array Keyed)(i j:Nat):Prop:=κ.klt (KK κ a₀ i) (KK κ a₀ j)\/(KK κ a₀ i=KK κ a₀ j/\i<j)
def Bz(κ:KeyKind)(a₀:Array Keyed)(g:Nat->Nat)(k:Nat):Prop:=∀i j,i<j->j<k->Log κ a₀ (g i) (g j)
def V7(κ:KeyKind)(a₀:Array Keyed)(g:Nat->Nat)(k:Nat):Prop:=∀i j,i<j->j<k->Log κ a₀ (g j) (g i)
def EX(g:Nat->Nat)(m n:Nat):Prop:=∀k,m<=k->k<n->g k=k
noncomputable def Hx(g:Nat->Nat)(i j k:Nat):Nat:=if i<=k/\k<j then g (i+j-1-k) else g k
noncomputable def Ll(g:Nat->Nat)(src l k:Nat):Nat:=if k=l then g src else if l<k/\k<=src then g (k-1) else g k
section
variable{κ:KeyKind}{a₀ xs:Array Keyed}{g:Nat->Nat}
theorem Log.kle(h:Log κ a₀ i j):κ.kle (KK κ a₀ i) (KK κ a₀ j):=by rcases h with h|⟨h,_⟩;exact KeyOrd.kle_of_klt h;rw[h];exact KeyOrd.kle_refl _
theorem M_(h:κ.kle (KK κ a₀ i)<|KK κ a₀ j)(hl:i<j):Log κ a₀ i j:=by cases q:κ.blt (KK κ a₀ i) (KK κ a₀ j) with|true=>exact .inl q|false=>exact .inr {KeyOrd.kle_antisymm h q,hl}
theorem Gh.low(h:Gh a₀ g xs)(t:EX g m a₀.size)(hm:m<=a₀.size)(hi:i<m):g i<m:=by refine Nat.lt_of_not_le λq=>?_;have h1:=h.lt i (by lia);have h2:=h.inj (g i) i h1 (by lia)<|t (g i) q h1;lia
theorem Gh.key(h:Gh a₀ g xs)(hk:k<a₀.size):KK κ xs k=KK κ a₀ (g k):=KK_congr<|h.at_ k hk
theorem Gh.mirror(h:Gh a₀ g xs)(hs:xs.size=a₀.size)(hj:j<=a₀.size):Gh a₀ (Hx g i j) (mirror xs i j<|(j-i)/2) where
 at_:=λk hk=>by
  rw[getElem?_mirror_all<|by lia]
  unfold Hx
  by_cases q:i<=k/\k<j
  ·rw[if_pos q,if_pos q];exact h.at_ _<|by lia
  ·rw[if_neg q,if_neg q];exact h.at_ _ hk
 lt:=λk hk=>by
  unfold Hx
  by_cases q:i<=k/\k<j
  ·rw[if_pos q];exact h.lt _<|by lia
  ·rw[if_neg q];exact h.lt _ hk
 inj:=λa b ha hb e=>by
  unfold Hx at e
  by_cases q:i<=a/\a<j<;>by_cases r:i<=b/\b<j
  ·rw[if_pos q,if_pos r]at e;have:=h.inj _ _ (by lia) (by lia) e;lia
  ·rw[if_pos q,if_neg r]at e;have:=h.inj _ _ (by lia) (by lia) e;lia
  ·rw[if_neg q,if_pos r]at e;have:=h.inj _ _ (by lia) (by lia) e;lia
  ·rw[if_neg q,if_neg r]at e;exact h.inj _ _ ha hb e
theorem Gh.bubble(h:Gh a₀ g xs)(hs:xs.size=a₀.size)(hl:l<=src)(hj:src<a₀.size):Gh a₀ (Ll g src l) (bubble xs src<|src-l) where
 at_:=λk hk=>by
  rw[getElem?_bubble (by lia) _<|by lia,show src-(src-l)=l by lia]
  unfold Ll
  by_cases q:k=l
  ·rw[if_pos q,if_pos q];exact h.at_ _ hj
  ·rw[if_neg q,if_neg q]
   by_cases r:l<k/\k<=src
   ·rw[if_pos r,if_pos r];exact h.at_ _<|by lia
   ·rw[if_neg r,if_neg r];exact h.at_ _ hk
 lt:=λk hk=>by
  unfold Ll
  by_cases q:k=l
  ·rw[if_pos q];exact h.lt _ hj
  ·rw[if_neg q]
   by_cases r:l<k/\k<=src
   ·rw[if_pos r];exact h.lt _<|by lia
   ·rw[if_neg r];exact h.lt _ hk
 inj:=λa b ha hb e=>by
  unfold Ll at e
  repeat' split at e
  all_goals (have:=h.inj _ _ (by lia) (by lia) e;lia)
theorem hU(h:i<=k/\k<j):Hx g i j k=g (i+j-1-k):=by unfold Hx;rw[if_pos h]
theorem fT(h:¬(i<=k/\k<j)):Hx g i j k=g k:=by unfold Hx;rw[if_neg h]
end
section
variable{prog:Program}{w:World}{A:Around}{E:Value->Shared->Prop}{s:Shared}{a₀:Array Keyed}{κ:KeyKind}
theorem Na{st:SortSt}{g:Nat->Nat}{a top:Nat}{Q:AscSt->SortSt->Prop}(hO:κ.OneLt)(h0:KeysOf κ a₀)(ht:top<=a₀.size)(h1:1<=a)(h2:a<=top)(B:SBase a₀ st)(G:Gh a₀ g<|arrOf st)(T:EX g a a₀.size)(U:Bz κ a₀ g a) (h:∀n,a<=n->n<=top->Bz κ a₀ g n->(n=top\/κ.klt (KK κ a₀<|g n) (KK κ a₀<|g<|n-1))->Q (none,n) st):wpS (model prog w) A E s (ascLoop a top) Q st:=by
 unfold ascLoop;refine wpS_forRange (I:=λx c t=>t=st/\c=(none,x)/\Bz κ a₀ g x) ?_ ?_ ⟨rfl,rfl,U⟩;rintro x c t Gi Lg ⟨rfl,rfl,V⟩;dsimp only;refine wpS_bind<|wpS_ltKK hO B h0 (by lia) (by lia) ?_;rw[G.key<|by lia,G.key<|by lia];cases q:κ.blt (KK κ a₀<|g x) (KK κ a₀<|g<|x-1) with|true=>exact wpS_pure (h x Gi (by lia) V<|.inr q)|false=>refine wpS_pure {rfl,rfl,λi j iX hj=>?_};rcases Nat.lt_or_ge j x with z|z;exact V i j iX z;obtain rfl:j=x:=(by lia);have lw:=G.low (m:=j) (λk hk dy=>T k (by lia) dy) (by lia) iX;rw[T j Gi<|by lia]at q⊢;refine M_ ?_ lw;rcases Nat.lt_or_ge i (j-1) with y|y;exact KeyOrd.kle_trans (V i (j-1) y<|by lia).kle q;obtain rfl:i=j-1:=(by lia);exact q
 rintro c t ⟨rfl,rfl,V⟩;rw[show max a top=top by lia]at V⊢;exact h top h2 (zr _) V<|.inl rfl
theorem Hy{st:SortSt}{g:Nat->Nat}{n top:Nat}{Q:Option Nat->SortSt->Prop}(hO:κ.OneLt)(h0:KeysOf κ a₀)(ht:top<=a₀.size)(h1:1<=n)(h2:n<=top)(B:SBase a₀ st)(G:Gh a₀ g<|arrOf st)(T:EX g n a₀.size)(D:V7 κ a₀ g n) (h:∀m g' eK,SBase a₀ eK->Gh a₀ g' (arrOf eK)->EX g' m a₀.size->1<=m->m<=top->Bz κ a₀ g' m->Q (some m) eK):wpS (model prog w) A E s (tail3 n top) Q st:=by
 unfold tail3;refine wpS_bind<|wpS_reverse ?_;have B':SBase a₀ (setArr st<|mirror (arrOf st) 0 n<|(n-0)/2):=B.setArr<|mirror_perm _ _ _ _;have G':Gh a₀ (Hx g 0 n) (arrOf<|setArr st<|mirror (arrOf st) 0 n<|(n-0)/2):=G.mirror B.size (by lia);have T':EX (Hx g 0 n) n a₀.size:=λk hk dy=>by rw[fT<|by lia];exact T k hk dy
 refine wpS_bind<|Na hO h0 ht h1 h2 B' G' T' (λi j iX hj=>?_) λm hm1 Nb V _=>wpS_pure<|h m _ _ B' G' (λk hk dy=>T' k (by lia) dy) (by lia) Nb V;rw[hU<|by lia,hU<|by lia];exact D _ _ (by lia)<|by lia
structure JJ(κ:KeyKind)(a₀:Array Keyed)(g:Nat->Nat)(x q:Nat):Prop where
 le:q+1<=x
 tl:EX g (x-(q+1)) a₀.size
 dn:∀i j,i<j->j<x->i<x-(q+1)->Log κ a₀ (g j) (g i)
 eq:∀i,x-(q+1)<=i->i<x->KK κ a₀ (g i)=KK κ a₀ (g<|x-1)
theorem JJ.full(F:JJ κ a₀ g x q)(hx:x<=a₀.size):V7 κ a₀ (Hx g (x-(q+1)) x) x:=λi j iX hj=>by have le:=F.le;by_cases hi:i<x-(q+1);rw[fT (k:=i)<|by lia];by_cases V8:j<x-(q+1);rw[fT<|by lia];exact F.dn i j iX hj hi;rw[hU<|by lia];exact F.dn i _ (by lia) (by lia) hi;rw[hU<|by lia,hU<|by lia];refine .inr {(F.eq _ (by lia)<|by lia).trans (F.eq _ (by lia)<|by lia).symm,?_};rw[F.tl _ (by lia)<|by lia,F.tl _ (by lia)<|by lia];lia
theorem JJ.Nc(F:JJ κ a₀ g x 0):V7 κ a₀ g x:=λi j iX hj=>F.dn i j iX hj<|by lia
theorem JJ.next(D:V7 κ a₀ g x)(T:EX g x a₀.size)(hx:x<a₀.size)(h1:1<=x)(hl:κ.klt (KK κ a₀<|g x)<|KK κ a₀<|g<|x-1):JJ κ a₀ g (x+1) 0 where
 le:=by lia
 tl:=λk hk dy=>T k (by lia) dy
 dn:=λi j iX hj hi=>by
  by_cases V8:j<x
  ·exact D i j iX V8
  ·obtain rfl:j=x:=by lia
   refine .inl ?_
   by_cases q:i=j-1
   ·rw[q];exact hl
   ·exact KeyOrd.klt_of_klt_of_kle hl (D i (j-1) (by lia)<|by lia).kle
 eq:=λi hi hj=>by rw[show i=x+1-1 by lia]
theorem PH{st:SortSt}{g:Nat->Nat}{n top:Nat}{Q:DescSt->SortSt->Prop}(hO:κ.OneLt)(h0:KeysOf κ a₀)(ht:top<=a₀.size)(h1:1<=n)(h2:n<=top)(B:SBase a₀ st)(G:Gh a₀ g<|arrOf st)(F:JJ κ a₀ g n 0) (h:∀m q g' eK,SBase a₀ eK->Gh a₀ g' (arrOf eK)->n<=m->m<=top->JJ κ a₀ g' m q->Q (none,m,q) eK):wpS (model prog w) A E s (descLoop n top) Q st:=by
 unfold descLoop;refine wpS_forRange (I:=λx c t=>∃q g',c=(none,x,q)/\SBase a₀ t/\Gh a₀ g' (arrOf t)/\JJ κ a₀ g' x q) ?_ ?_ {0,g,rfl,B,G,F};rintro x c t Gi Lg ⟨q,g',rfl,B',G',F'⟩;have le:=F'.le;dsimp only;refine wpS_bind<|wpS_ltKK hO B' h0 (by lia) (by lia) ?_;rw[G'.key<|by lia,G'.key<|by lia];cases hl:κ.blt (KK κ a₀<|g' x) (KK κ a₀<|g'<|x-1) with|true=>(simp only[if_true];by_cases hq:q>0;rw[if_pos hq];refine wpS_bind<|wpS_reverse<|wpS_pure {0,_,rfl,B'.setArr<|mirror_perm _ _ _ _,G'.mirror B'.size<|by lia,?_};refine .next (F'.full<|by lia) (λk hk dy=>?_) (by lia) (by lia) ?_;rw[fT<|by lia];exact F'.tl k (by lia) dy;rw[fT<|by lia,hU<|by lia,F'.eq (x-(q+1)+x-1-(x-1)) (by lia)<|by lia];exact hl;rw[if_neg hq];obtain rfl:q=0:=(by lia);exact wpS_pure {0,g',rfl,B',G',.next F'.Nc (λk hk dy=>F'.tl k (by lia) dy) (by lia) (by lia) hl})|false=>simp only[Bool.false_eq_true,if_false];refine wpS_bind<|wpS_ltKK hO B' h0 (by lia) (by lia) ?_;rw[G'.key<|by lia,G'.key<|by lia];cases hg:κ.blt (KK κ a₀<|g'<|x-1) (KK κ a₀<|g' x) with|true=>exact wpS_pure (h x q g' t B' G' Gi (by lia) F')|false=>have e:KK κ a₀ (g' x)=KK κ a₀ (g'<|x-1):=KeyOrd.kle_antisymm hg hl;refine wpS_pure {q+1,g',rfl,B',G',{by lia,λk hk dy=>F'.tl k (by lia) dy,λi j iX hj hi=>?_,λi hi hj=>?_}};by_cases V8:j<x;exact F'.dn i j iX V8 (by lia);obtain rfl:j=x:=(by lia);have:=F'.dn i (j-1) (by lia) (by lia) (by lia);rcases this with z|⟨_,z⟩;exact .inl (by rw[e];exact z);rw[F'.tl (j-1) (by lia)<|by lia]at z;have:=G'.low (m:=j-(q+1)) F'.tl (by lia) (i:=i) (by lia);lia;rw[show x+1-1=x by lia];by_cases Ud:i=x;rw[Ud];rw[e];exact F'.eq i (by lia)<|by lia
 rintro c t ⟨q,g',rfl,B',G',F'⟩;rw[show max n top=top by lia]at F'⊢;exact h top q g' t B' G' h2 (zr _) F'
theorem Hz{st:SortSt}{g:Nat->Nat}{n top:Nat}{Q:Option Nat->SortSt->Prop}(hO:κ.OneLt)(h0:KeysOf κ a₀)(ht:top<=a₀.size)(h2:n+1<=top)(B:SBase a₀ st)(G:Gh a₀ g<|arrOf st)(F:JJ κ a₀ g (n+1) 0) (h:∀m g' eK,SBase a₀ eK->Gh a₀ g' (arrOf eK)->EX g' m a₀.size->1<=m->m<=top->Bz κ a₀ g' m->Q (some m) eK):wpS (model prog w) A E s (descPart n top) Q st:=by
 unfold descPart;refine wpS_bind<|wpS_lift<|yW {rfl,?_};refine wpS_bind<|PH hO h0 ht (by lia) h2 B G F λm q g' eK B' G' hm1 Nb F'=>?_;have le:=F'.le;dsimp only;by_cases hq:q>0;rw[if_pos hq];refine wpS_bind<|wpS_reverse<|Hy hO h0 ht (by lia) Nb (B'.setArr<|mirror_perm _ _ _ _) (G'.mirror B'.size<|by lia) (λk hk dy=>?_) (F'.full<|by lia) h;rw[fT<|by lia];exact F'.tl k (by lia) dy;rw[if_neg hq];obtain rfl:q=0:=by lia
 exact Hy hO h0 ht (by lia) Nb B' G' (λk hk dy=>F'.tl k (by lia) dy) F'.Nc h
theorem Uq{st:SortSt}{g:Nat->Nat}{top:Nat}{Q:Option Nat->SortSt->Prop}(hO:κ.OneLt)(h0:KeysOf κ a₀)(ht:top<=a₀.size)(h1:1<=top)(B:SBase a₀ st)(G:Gh a₀ g<|arrOf st)(T:EX g 0 a₀.size) (h:∀m g' eK,SBase a₀ eK->Gh a₀ g' (arrOf eK)->EX g' m a₀.size->1<=m->m<=top->Bz κ a₀ g' m->Q (some m) eK):wpS (model prog w) A E s (countRun' 0 top) Q st:=by
 rw[countRun0_eq];refine wpS_bind<|Na hO h0 ht (zr 1) h1 B G (λk hk dy=>T k (by lia) dy) (λi j iX hj=>by lia) λn Nd MJ U hor=>?_;dsimp only;have Tn:∀m,EX g m a₀.size:=λm k hk dy=>T k (by lia) dy;by_cases Nf:n=top;rw[if_pos<|by simpa using Nf];exact wpS_pure<|h n g st B G (Tn n) Nd MJ U;rw[if_neg<|by simpa using Nf];have eL:=hor.resolve_left Nf;by_cases V9:n>1;rw[if_pos V9];refine wpS_bind<|wpS_ltKK hO B h0 (by lia) (by lia) ?_;rw[G.key<|by lia,G.key<|by lia];cases hr:κ.blt (KK κ a₀<|g 0) (KK κ a₀<|g<|n-1) with|true=>exact wpS_pure (h n g st B G (Tn n) Nd MJ U)|false=>simp only[Bool.false_eq_true,if_false];have all:∀k,k<n->KK κ a₀ (g k)=KK κ a₀ (g<|n-1):=λk hk=>(by have a1:κ.kle (KK κ a₀<|g 0) (KK κ a₀<|g k):=(by by_cases z:k=0;rw[z];exact KeyOrd.kle_refl _;exact(U 0 k (by lia) hk).kle);have a2:κ.kle (KK κ a₀<|g k) (KK κ a₀<|g<|n-1):=(by by_cases z:k=n-1;rw[z];exact KeyOrd.kle_refl _;exact(U k (n-1) (by lia)<|by lia).kle);exact KeyOrd.kle_antisymm a2<|KeyOrd.kle_trans hr a1);refine wpS_bind<|wpS_reverse<|Hz hO h0 ht (by lia) (B.setArr<|mirror_perm _ _ _ _) (G.mirror B.size<|by lia) ?_ h;refine .next (λi j iX hj=>?_) (λk hk dy=>by rw[fT<|by lia];exact T k (by lia) dy) (by lia) (by lia) ?_;rw[hU<|by lia,hU<|by lia];refine .inr {(all _<|by lia).trans (all _<|by lia).symm,?_};rw[T _ (by lia)<|by lia,T _ (by lia)<|by lia];lia;rw[fT<|by lia,hU<|by lia,all (0+n-1-(n-1))<|by lia];exact eL
 rw[if_neg V9];obtain rfl:n=1:=by lia
 exact Hz hO h0 ht (by lia) B G (.next (λi j iX hj=>by lia) (Tn 1) (by lia) (by lia) eL) h
theorem Ur{st:SortSt}{g:Nat->Nat}{n ok:Nat}{Q:Bool->SortSt->Prop}(hO:κ.OneLt)(h0:KeysOf κ a₀)(hn:n<=a₀.size)(aJ:ok<=n)(B:SBase a₀ st)(G:Gh a₀ g<|arrOf st)(T:EX g ok a₀.size)(U:Bz κ a₀ g ok) (h:∀g' eK,SBase a₀ eK->Gh a₀ g' (arrOf eK)->Bz κ a₀ g' n->Q true eK):wpS (model prog w) A E s (binarySort' 0 n ok) Q st:=by
 rw[binarySort'_eq];simp only[Nat.zero_add];refine wpS_bind<|wpS_mono (wpS_forRange (I:=λk c t=>c=(none,())/\∃g',SBase a₀ t/\Gh a₀ g' (arrOf t)/\EX g' k a₀.size/\Bz κ a₀ g' (min k n)) (Q:=λc t=>c=(none,())/\∃g',SBase a₀ t/\Gh a₀ g' (arrOf t)/\Bz κ a₀ g' n) ?_ ?_ ?_) ?_;rintro k c t hk1 dy ⟨rfl,g',B',G',T',V⟩;rw[show min k n=k by lia]at V;have hk:k<a₀.size:=by lia
 refine wpS_bind<|wpS_mono (wpS_forRange (I:=λx c t2=>t2=t/\∃l r,c=(none,l,r)/\l<=r/\r<=k/\r-l<=k-x/\(∀i,i<l->κ.kle (KK κ a₀<|g' i) (KK κ a₀<|g' k))/\(∀i,r<=i->i<k->κ.klt (KK κ a₀<|g' k) (KK κ a₀<|g' i))) (Q:=λc t2=>t2=t/\∃l r,c=(none,l,r)/\l<=k/\(∀i,i<l->κ.kle (KK κ a₀<|g' i) (KK κ a₀<|g' k))/\(∀i,l<=i->i<k->κ.klt (KK κ a₀<|g' k) (KK κ a₀<|g' i))) ?_ ?_ ?_) ?_;rintro x c t2 _ hxk ⟨rfl,l,r,rfl,wO,YI,hm,lo,hi⟩;dsimp only;by_cases V_:l>=r;rw[if_pos V_];obtain rfl:l=r:=by lia
 exact wpS_pure ⟨rfl,l,l,rfl,YI,lo,hi⟩;rw[if_neg V_];refine wpS_bind<|wpS_ltKK hO B' h0 hk (by lia) ?_;rw[G'.key hk,G'.key<|by lia];cases hl:κ.blt (KK κ a₀<|g' k) (KK κ a₀<|g'<|(l+r)/2) with|true=>refine wpS_pure {rfl,l,(l+r)/2,rfl,by lia,by lia,by lia,lo,λi a b=>?_};by_cases z:i=(l+r)/2;rw[z];exact hl;exact KeyOrd.klt_of_klt_of_kle hl (V _ _ (by lia) b).kle|false=>refine wpS_pure {rfl,(l+r)/2+1,r,rfl,by lia,by lia,by lia,λi a=>?_,hi};by_cases z:i=(l+r)/2;rw[z];exact hl;exact KeyOrd.kle_trans (V i ((l+r)/2) (by lia)<|by lia).kle hl
 rintro c t2 ⟨rfl,l,r,rfl,wO,YI,hm,lo,hi⟩;obtain rfl:l=r:=by lia
 exact⟨rfl,l,l,rfl,YI,lo,hi⟩;exact{rfl,0,k,rfl,by lia,by lia,by lia,λi hi=>by lia,λi a b=>by lia};rintro c t2 ⟨rfl,l,r,rfl,YJ,lo,hi⟩;show wpS _ _ _ _ (do moveDown' k l;pure (ForInStep.yield (none,()))) _ _;rw[moveDown'_eq];refine wpS_bind<|wpS_modify<|wpS_pure {rfl,_,B'.setArr<|bubble_perm _ _ _,G'.bubble B'.size YJ hk,λx Gi Lg=>?_,?_};show Ll g' k l x=x;unfold Ll;rw[if_neg<|by lia,if_neg<|by lia];exact T' x (by lia) Lg;rw[show min (k+1) n=k+1 by lia];have lw:∀i,i<k->g' i<k:=λi q=>G'.low T' (by lia) q;have ek:=T' k (zr _) hk;intro i j iX hj;show Log κ a₀ (Ll g' k l i) (Ll g' k l j);unfold Ll;by_cases i1:i=l;rw[if_pos i1,if_neg<|by lia,if_pos<|by lia];exact .inl<|hi _ (by lia) (by lia);rw[if_neg i1];by_cases j1:j=l;rw[if_pos j1,if_neg<|by lia];have h1:=lo i (by lia);have h2:=lw i (by lia);rw[ek]at h1⊢;exact M_ h1 h2;rw[if_neg j1];by_cases i2:l<i/\i<=k<;>by_cases j2:l<j/\j<=k;rw[if_pos i2,if_pos j2];exact V _ _ (by lia) (by lia);lia;rw[if_neg i2,if_pos j2];exact V _ _ (by lia) (by lia);rw[if_neg i2,if_neg j2];exact V _ _ (by lia) (by lia);rintro c t ⟨hc,g',B',G',T',V⟩;refine{hc,g',B',G',?_};rwa [show min (max (max ok 1) n) n=n by lia]at V;refine{rfl,g,B,G,λk hk dy=>T k (by lia) dy,λi j iX hj=>?_};exact U i j iX (by lia);rintro c t ⟨rfl,g',B',G',V⟩;exact wpS_pure<|h g' t B' G' V
def PJ(κ:KeyKind)(a₀:Array Keyed)(st:SortSt):Prop:=failedOf st=none/\pendingOf st=#[(0,a₀.size,0)]/\∃g,(arrOf st).size=a₀.size/\Gh a₀ g (arrOf st)/\Bz κ a₀ g a₀.size
theorem PK{st:SortSt}{Q:Unit->SortSt->Prop}(hO:κ.OneLt)(h0:KeysOf κ a₀)(B:SBase a₀ st)(e0:arrOf st=a₀)(h2:2<=a₀.size)(Gj:a₀.size<64) (h:∀eK g,failedOf eK=none->(arrOf eK).size=a₀.size->Gh a₀ g (arrOf eK)->Bz κ a₀ g a₀.size->Q () eK):wpS (model prog w) A E s sortRuns' Q st:=by
 have G:Gh a₀ (λk=>k) (arrOf st):={λk _=>by rw[e0],λk hk=>hk,λ_ _ _ _ e=>e};have fin:∀(t:SortSt)(g:Nat->Nat),SBase a₀ t->Gh a₀ g (arrOf t)->Bz κ a₀ g a₀.size->PJ κ a₀ (setPending t<|(pendingOf t).push (0,a₀.size,0)):=λt g B' G' U=>{B'.failed,by show(pendingOf t).push _=_;rw[B'.pend];rfl,g,B'.size,G',U};rw[sortRuns'_eq];refine wpS_bind<|wpS_get ?_;dsimp only;have hm:minRun' a₀.size a₀.size 0=a₀.size:=by obtain⟨f,hf⟩:∃f,a₀.size=f+1:={a₀.size-1,by lia};have:minRun' (f+1) a₀.size 0=a₀.size:=(by rw[minRun'_succ,if_pos Gj];rfl);rwa [<-hf]at this
 simp only[B.size,hm];refine wpS_bind<|wpS_mono (wpS_forRange (I:=λx c t=>(x=0/\c=(none,0)/\t=st)\/(1<=x/\c=(none,a₀.size)/\PJ κ a₀ t)) (Q:=λc t=>c=(none,a₀.size)/\PJ κ a₀ t) ?_ ?_<|.inl ⟨rfl,rfl,rfl⟩) ?_;rintro x c t _ hx (⟨rfl,rfl,rfl⟩|⟨Gi,rfl,D⟩);dsimp only;rw[if_neg<|by lia];simp only[Nat.sub_zero,Nat.min_self,Nat.zero_add];refine wpS_bind<|Uq hO h0 (zr _) (by lia) B G (λ_ _ _=>rfl) λm g' t2 B2 G2 T2 hm1 Nb U2=>?_;dsimp only;by_cases eL:m<a₀.size;rw[if_pos eL];refine wpS_bind<|wpS_lift<|yW {rfl,?_};refine wpS_bind<|Ur hO h0 (zr _) Nb B2 G2 T2 U2 λg3 t3 B3 G3 U3=>?_;simp only[Bool.not_true,Bool.false_eq_true,if_false];refine wpS_bind<|wpS_get ?_;rw[show(pendingOf t3).back?=none by rw[B3.pend];rfl];dsimp only;exact wpS_bind<|wpS_modify<|wpS_pure<|.inr {by lia,rfl,fin t3 g3 B3 G3 U3};rw[if_neg eL];obtain rfl:m=a₀.size:=by lia
 refine wpS_bind<|wpS_get ?_;rw[show(pendingOf t2).back?=none by rw[B2.pend];rfl];dsimp only;exact wpS_bind<|wpS_modify<|wpS_pure<|.inr {by lia,rfl,fin t2 g' B2 G2 U2};dsimp only;rw[if_pos<|zr _];exact wpS_pure ⟨rfl,D⟩;rintro c t (⟨hx,_,_⟩|⟨_,hc,D⟩);lia;exact⟨hc,D⟩;rintro c t ⟨rfl,D⟩;dsimp only;obtain⟨d1,d2,g,d3,d4,d5⟩:=D;refine wpS_bind<|wpS_mono (wpS_forRange (I:=λ_ c t2=>t2=t/\c=(none,())) (Q:=λc t2=>t2=t/\c=(none,())) ?_ (λ_ _ z=>z) ⟨rfl,rfl⟩) ?_;rintro x c t2 _ _ ⟨rfl,rfl⟩;refine wpS_bind<|wpS_get ?_;rw[if_pos<|by rw[d2];exact zr 1];exact wpS_pure ⟨rfl,rfl⟩;rintro c t2 ⟨rfl,rfl⟩;exact wpS_pure<|h _ g d1 d3 d4 d5
end
noncomputable abbrev Ln(X:Cx)(qual:Str)(scope:Scope)(L f:Addr)(cv:Value):Env:=envX qual scope L f cv<|clOf X.env.cells scope.names
noncomputable def Rk(X:Cx)(N:List Str)(qual:Str)(scope:Scope)(f:Addr)(cv:Value)(A:Around)(s:Shared)(H:Hp):Cx:={X with A:=A.deeper<|Ln X qual scope s.heap.objs.size f cv,N:=N,dm:=s,uX:=H,env:=Ln X qual scope s.heap.objs.size f cv,outer:=X.stack,stack:=Ln X qual scope s.heap.objs.size f cv::X.stack,ex:=[],fn:=λ_=>false,calm:=true,pn:=[],xe:=λ_ _=>False}
noncomputable abbrev xI(X:Cx)(qual:Str)(params:Arguments)(body:Expr)(scope:Scope)(pm cv lJ:Value):Obj:={cls:=.type "function",data:=.func<|kla_fn "<lambda>" qual params body scope (clOf X.env.cells scope.names) pm cv lJ}
section
variable{X:Cx}{pins:List (Addr×Obj)}{σ:St}{H:Hp}{s:Shared}{N:List Str}{src:List (Option Nat)}{scope:Scope}{params:Arguments}{body:Expr}{qual p:Str}{pm cv lJ u:Value}{f:Addr}{A:Around}{v:V}{te:TE}{Q:VK}
theorem Lo(I:Inv X pins σ H s)(S:bI X N src scope)(Lp:N[0]?=some p)(hp:scope.names.lookup p=some .local)(h0:src[0]?=some none)(wN:A.frames=some X.stack)(hh:A.handled=none)(r:RelV v u) (PL:h₁.Ns s.heap.objs.size λx=>[(p,u)].reverse.lookup x) (old:∀b o,s.heap.get? b=some o->h₁.get? b=some o): Inv (Rk X N qual scope f cv A s H) [] ((pick σ src).set 0<|some v) H {s with heap:=h₁,toks:=tk}:=by
 have iA:∀x c,(clOf X.env.cells scope.names).lookup x=some c->X.env.cells.lookup x=some c:=qC X.env.cells scope.names [] (by intro x c h;simp at h);have Kh:∀b:Addr,b∉(Rk X N qual scope f cv A s H).ex:=λb z=>absurd (show b∈([]:List Addr) from z) (by simp);have AF:∀x,scope.names.lookup x=some .free->∃c,(clOf X.env.cells scope.names).lookup x=some c:=λx hl=>by have hm:=yk hl;obtain⟨c,Kr⟩:=I.ok.has x<|S.AF _ hm rfl;exact{c,i4 X.env.cells scope.names [] x c (by intro x c h;simp at h) hm Kr}
 refine{{I.ok.mod,S.kind,rfl,rfl,zr _,λx y c h1 h2=>I.ok.inj x y c (iA _ _ h1)<|iA _ _ h2,λx hk=>?_,λx c h=>(nomatch h),λ_=>hh,Around.frames_deeper wN,.inr ⟨rfl,rfl⟩,λb z=>absurd z<|Kh b,I.bs,zH I.ok.JW I.sz,λb _ _=>Kh b,λb z=>absurd z<|Kh b,I.stack,I.pU},rfl,I.bare,Un.kept old,{_,PL,λi x w e1 e2 e3=>?_},λx c e=>?_,I.aJ.fresh<|zr _,λx c e=>I.fP x c<|iA x c e,λq hq=>absurd (show q∈([]:List (Addr×Obj)) from hq)<|by simp,I.aJ.kept old,?_};have hk:scope.names.lookup x=some .cell\/scope.names.lookup x=some .free:=hk;rcases hk with hk|hk;exact absurd rfl<|S.gp _<|yk hk;exact AF x hk;have e1:N[i]?=some x:=e1;by_cases hi:i=0;subst hi;rw[Lp]at e1;cases e1;have hl:0<(pick σ src).length:=by unfold pick;rw[zb];exact(ze.mp h0).1
 rw[List.getElem?_set_self hl]at e2;cases e2;exact{u,r,.inl {hp,by simp[yf]}};rw[List.getElem?_set_ne<|Ne.symm hi]at e2;unfold pick at e2;rw[zi]at e2;cases es:src[i]? with|none=>(rw[es]at e2;cases e2)|some o=>rw[es]at e2;cases o with|none=>(cases e2)|some j=>have e3:(σ[j]?).join=some w:=zT e2;have e4:σ[j]?=some (some w):=(by cases q:σ[j]? with|none=>(rw[q]at e3;cases e3)|some z=>rw[q]at e3;exact congrArg some e3);obtain⟨a1,a2,a3⟩:=S.src i j x es e1;obtain⟨m0,_,hl⟩:=I.loc;obtain⟨u',r',l⟩:=hl j x w a1 e4 a3;have hm:=yk a2;have hk:=S.AF _ hm rfl;rcases l with⟨k,_⟩|⟨_,c,Kr,⟨o,ho,hd⟩⟩;rcases hk with hk|hk<;>(rw[k]at hk;cases hk);exact{u',r',.inr {.inr a2,c,i4 X.env.cells scope.names [] x c (by intro x c h;simp at h) hm Kr,o,old _ _ ho,hd}}
 obtain⟨w,o,ho,hd⟩:=I.cell x c<|iA x c e;exact{w,o,old _ _ ho,hd};show((pick σ src).set 0<|some v).length=N.length;unfold pick;rw[List.length_set,zb,S.len]
theorem HA(I:Inv X pins σ H s)(S:bI X N src scope)(Lp:N[0]?=some p)(hp:scope.names.lookup p=some .local)(h0:src[0]?=some none)(wN:A.frames=some X.stack)(hh:A.handled=none)(Us:A.depth<recursionLimit)(r:RelV v u) (ho:s.heap.get? f=some (xI X qual params body scope pm cv lJ)) (oo:s.heap.CodeRec cv qual) (Lq:scope.isCoroutine=false) (BA:scope.isGenerator=false) (hb:bindArgs (kla_fn "<lambda>" qual params body scope (clOf X.env.cells scope.names) pm cv lJ) {[u],[]}=pure [(p,u)]) (he:PE (Rk X N qual scope f cv A s H) body te) (h:te ((pick σ src).set 0<|some v) H Q): codeAny (model X.prog X.w) A (.call (.ref f) {[u],[]}) (λq s'=>∃w,q=.ok (.ret w)/\CE X.stack X.prog X.w H s Q w s') s:=by refine PySem.W.kla_callFunE Us ho rfl Lq BA rfl oo ?_;show wpAny _ _ (bindArgs (kla_fn "<lambda>" qual params body scope (clOf X.env.cells scope.names) pm cv lJ) {[u],[]}) _ _ _;rw[hb];refine zo<|wpAny_newFunctionEnv S.gp (λx hx=>?_) (λh₁ PL KJ=>{I.nolimit.fresh _ KJ,?_}) S.kind;rw[zI.mp hx];exact hp;have old:∀b o,s.heap.get? b=some o->h₁.get? b=some o:=λb o e=>KJ.extBut b o (zA<|zt e)<|za _ e;show codeAny _ _ (.expr body<|Ln X qual scope s.heap.objs.size f cv) _ _;refine PySem.W.kla_codeExpr<|yI (he [] _ _ H Q (Lo I S Lp hp h0 wN hh r PL old) h) (by rintro w s' ⟨x,H',J,rv,q⟩;exact⟨w,rfl,x,H',J.os,J.bare,J.base,J.aJ,rv,q⟩) λ_ _ z=>z.elim
end
@[reducible] def intK:KeyKind where
 α:=Int
 blt a b:=decide<|a<b
 irrefl a:=by simp
 trans a b c h1 h2:=by simp only[zR]at *;lia
 negTrans a b c h:=by simp only[zR]at *;lia
 total a b h1 h2:=by simp only[yq]at *;lia
 keyOf v:=match v with|.int x _=>some x|_=>none
 dflt:=0
theorem HB:intK.OneLt:=by intro prog w A E s x y a b Q ha hb h;cases x<;>simp only[intK,reduceCtorEq,Option.some.injEq]at ha;cases y<;>simp only[intK,reduceCtorEq,Option.some.injEq]at hb;cases ha;cases hb;exact oneLt_int h
structure Wa(κ:KeyKind)(b:Bool)(key:Nat->κ.α)(n:Nat)(g:Nat->Nat):Prop where
 lt:∀k,k<n->g k<n
 inj:∀i j,i<n->j<n->g i=g j->i=j
 ord:∀i j,i<j->j<n->(if b=true then κ.klt (key<|g j) (key<|g i) else κ.klt (key<|g i) (key<|g j))\/(key (g i)=key (g j)/\g i<g j)
noncomputable def iD(κ:KeyKind)(us:List Value)(j:Nat):κ.α:=(κ.keyOf<|us.getD j .none).getD κ.dflt
theorem HC{us vs:List Value}(hl:us.length=vs.length){j:Nat}(hj:j<vs.length):(us.toArray.zip vs.toArray)[j]?=some (us.getD j .none,vs.getD j .none):=by have e:(us.zip vs)[j]?=some (us.getD j .none,vs.getD j .none):=List.getElem?_zip_eq_some.mpr {by show us[j]?=some (us.getD j .none);rw[zG,zg<|by lia];rfl,by show vs[j]?=some (vs.getD j .none);rw[zG,zg hj];rfl};rw[<-Array.getElem?_toList,ksk_zip,List.toList_toArray];exact e
theorem vm{κ:KeyKind}{us vs:List Value}(hl:us.length=vs.length){j:Nat}(hj:j<vs.length):KK κ (us.toArray.zip vs.toArray) j=iD κ us j:=by unfold KK iD;rw[HC hl hj]
theorem xJ{l m:List Value}{n:Nat}(h1:l.length=n)(h2:m.length=n)(h:∀k,k<n->l[k]?=m[k]?):l=m:=by apply List.ext_getElem?;intro k;by_cases hk:k<n;exact h k hk;rw[List.getElem?_eq_none<|by lia,List.getElem?_eq_none<|by lia]
section
variable{prog:Program}{w:World}{A:Around}{E:Value->Shared->Prop}{s:Shared}{a kS:Addr}{b:Bool}{us vs:List Value}{e e1:Nat}{P:PySem.Fin->Shared->Prop}{κ:KeyKind}
theorem Dg{st:SortSt}{keys:Array Value}(hk:s.heap.get? kS=some (seqObj "list" keys e))(ha:s.heap.get? a=some (seqObj "list" #[] e1))(PM:kS≠a)(hz:keys.size<64)(HD:(arrOf st).size<64)(SR:failedOf st=none) (h:∀h' c,(∀b o,b≠a->b≠kS->s.heap.get? b=some o->h'.get? b=some o)->h'.get? a=some (seqObj "list" (if b then ((arrOf st).map (·.2)).reverse else (arrOf st).map (·.2)) c)->P (.done<|.ret .none) {s with heap:=h'}): wpAny (model prog w) A (ksk_tail a b e1 (.ref kS) st) P E s:=by
 have s1:=yC s.heap kS<|Obj.mapSeq λ_=>(#[]:Array Value);have YK:(s.heap.update kS<|Obj.mapSeq λ_=>(#[]:Array Value)).get? a=some (seqObj "list" #[] e1):=(s1.2 a PM.symm).trans ha;have pF:∀o:Array Value,o=(if b then ((arrOf st).map (·.2)).reverse else (arrOf st).map (·.2))->o.size<64:=by rintro o rfl;cases b with|false=>rw[if_neg zd,Array.size_map];exact HD|true=>rw[if_pos rfl,Array.size_reverse,Array.size_map];exact HD
 generalize ho:(if b then ((arrOf st).map (·.2)).reverse else (arrOf st).map (·.2))=out at h pF;have pF:=pF out rfl;have s2:=yC (s.heap.update kS<|Obj.mapSeq λ_=>(#[]:Array Value)) a<|Obj.mapSeq λ_=>out;obtain⟨c2,YL⟩:∃c2,((s.heap.update kS<|Obj.mapSeq λ_=>(#[]:Array Value)).update a<|Obj.mapSeq λ_=>out).get? a=some (seqObj "list" out c2):={_,get?_update_seq YK λ_=>out};unfold ksk_tail;try dsimp only
 refine zc<|listUpdate_at hk rfl ?_ (by rw[yg];lia)<|zV _;refine zc<|wpAny_letGo ?_;refine zc<|seqEpoch_at YK rfl ?_;rw[ho];refine zc<|listUpdate_at YK rfl ?_ (zV _)<|zH (yK pF) (by rw[yg];lia);rw[SR];simp only[bne_self_eq_false,Bool.false_eq_true,if_false];exact zo<|h _ c2 (λb o h1 h2 q=>(s2.2 b h1).trans<|(s1.2 b h2).trans q) YL
theorem HE{xs:Array Keyed}{g:Nat->Nat}(hl:us.length=vs.length)(hs:xs.size=vs.length) (G:Gh (if b=true then (us.toArray.zip vs.toArray).reverse else us.toArray.zip vs.toArray) g xs) (U:Bz κ (if b=true then (us.toArray.zip vs.toArray).reverse else us.toArray.zip vs.toArray) g vs.length): ∃g',Wa κ b (iD κ us) vs.length g'/\(if b then (xs.map (·.2)).reverse else xs.map (·.2)).toList=(List.range vs.length).map λk=>vs.getD (g' k) .none:=by
 have wQ:(us.toArray.zip vs.toArray).size=vs.length:=by rw[Array.size_zip,zp,zp,hl,Nat.min_self]
 have zat:∀k,k<vs.length->(us.toArray.zip vs.toArray)[k]?=some (us.getD k .none,vs.getD k .none):=λk hk=>HC hl hk;cases b with|false=>rw[if_neg zd]at G U;refine{g,{λk hk=>by have:=G.lt k (by rw[wQ];exact hk);rwa [wQ]at this,λi j hi hj=>G.inj i j (by rw[wQ];exact hi)<|by rw[wQ];exact hj,λi j iX hj=>?_},?_};have h1:=G.lt i (by rw[wQ];lia);have h2:=G.lt j (by rw[wQ];lia);rw[wQ]at h1 h2;have:=U i j iX hj;unfold Log at this;rw[vm hl h1,vm hl h2]at this;rw[if_neg zd];exact this;rw[if_neg zd];refine xJ (n:=vs.length) (by rw[zX,Array.size_map,hs]) (by simp) λk hk=>?_;have h1:=G.lt k (by rw[wQ];lia);rw[wQ]at h1;rw[Array.getElem?_toList,Array.getElem?_map,G.at_ k<|by rw[wQ];exact hk,zat _ h1,zi,List.getElem?_range hk];rfl|true=>rw[if_pos rfl]at G U;have sI:(us.toArray.zip vs.toArray).reverse.size=vs.length:=(by rw[Array.size_reverse,wQ]);have lt:∀k,k<vs.length->g k<vs.length:=λk hk=>(by have:=G.lt k (by rw[sI];exact hk);rwa [sI]at this);have rat:∀k,k<vs.length->(us.toArray.zip vs.toArray).reverse[k]?=(us.toArray.zip vs.toArray)[vs.length-1-k]?:=λk hk=>(by rw[Array.getElem?_reverse<|by rw[wQ];exact hk,wQ]);refine{λk=>vs.length-1-g (vs.length-1-k),{λk hk=>by have:=lt (vs.length-1-k) (by lia);lia,λi j hi hj e=>?_,λi j iX hj=>?_},?_};have h1:=lt (vs.length-1-i) (by lia);have h2:=lt (vs.length-1-j) (by lia);have:=G.inj (vs.length-1-i) (vs.length-1-j) (by rw[sI];lia) (by rw[sI];lia) (by lia);lia;have h1:=lt (vs.length-1-i) (by lia);have h2:=lt (vs.length-1-j) (by lia);have:=U (vs.length-1-j) (vs.length-1-i) (by lia) (by lia);unfold Log at this;have e1:KK κ (us.toArray.zip vs.toArray).reverse (g<|vs.length-1-i)=iD κ us (vs.length-1-g (vs.length-1-i)):=(KK_congr<|rat _ h1).trans<|vm hl (by lia);have e2:KK κ (us.toArray.zip vs.toArray).reverse (g<|vs.length-1-j)=iD κ us (vs.length-1-g (vs.length-1-j)):=(KK_congr<|rat _ h2).trans<|vm hl (by lia);rw[e1,e2]at this;rw[if_pos rfl];rcases this with z|⟨z1,z2⟩;exact .inl z;exact .inr {z1.symm,by lia};rw[if_pos rfl];refine xJ (n:=vs.length) (by rw[zX,Array.size_reverse,Array.size_map,hs]) (by simp) λk hk=>?_;have h1:=lt (vs.length-1-k) (by lia);rw[Array.getElem?_toList,Array.getElem?_reverse<|by rw[Array.size_map,hs];exact hk,Array.size_map,hs,Array.getElem?_map,G.at_ _<|by rw[sI];lia,rat _ h1,zat _<|by lia,zi,List.getElem?_range hk];rfl
theorem PN(hO:κ.OneLt)(hk:s.heap.get? kS=some (seqObj "list" us.toArray e))(ha:s.heap.get? a=some (seqObj "list" #[] e1))(PM:kS≠a)(hl:us.length=vs.length)(Gj:vs.length<64)(h0:∀u∈us,∃x,κ.keyOf u=some x) (hkk:∀nA nB rest,us=nA::nB::rest->keyKind' (nA::nB::rest).toArray=pure oneType') (h:∀h' c g out,(∀b o,b≠a->b≠kS->s.heap.get? b=some o->h'.get? b=some o)->h'.get? a=some (seqObj "list" out c)->Wa κ b (iD κ us) vs.length g->out.toList=(List.range vs.length).map (λk=>vs.getD (g k) .none)->P (.done<|.ret .none) {s with heap:=h'}): wpAny (model prog w) A (ksk_end a b vs.toArray e1 (.ref kS) us.toArray) P E s:=by
 have wQ:(us.toArray.zip vs.toArray).size=vs.length:=by rw[Array.size_zip,zp,zp,hl,Nat.min_self]
 have step:∀t:Sem PySem.Fin,wpAny (model prog w) A t P E s->wpAny (model prog w) A (if b=true then (do let _ <-rule "list.sort.reverse";t) else t) P E s:=by intro t ht;split;exact zc<|yW ht;exact ht
 have hsz:(if b=true then (us.toArray.zip vs.toArray).reverse else us.toArray.zip vs.toArray).size=vs.length:=by cases b with|false=>exact wQ|true=>rw[if_pos rfl,Array.size_reverse,wQ]
 have keys:KeysOf κ (if b=true then (us.toArray.zip vs.toArray).reverse else us.toArray.zip vs.toArray):=λp hp=>by have hp:p∈us.zip vs:=(by have e2:(us.toArray.zip vs.toArray).toList=us.zip vs:=(by rw[ksk_zip]);cases b with|false=>rw[if_neg zd,e2]at hp;exact hp|true=>rw[if_pos rfl,Array.toList_reverse,e2]at hp;exact List.mem_reverse.mp hp);obtain⟨x,y⟩:=p;exact h0 _ (List.of_mem_zip hp).1
 unfold ksk_end;try dsimp only
 refine step _ ?_;by_cases h2:vs.toArray.size<2;{rw[if_pos h2,if_pos h2];refine zc<|zo ?_;rw[StateT.run_pure];refine zc<|zo ?_;(try dsimp only);rw[zp]at h2;refine Dg (st:=SortSt.mk' general' (if b=true then (us.toArray.zip vs.toArray).reverse else us.toArray.zip vs.toArray) #[] 7 none) hk ha PM (by rw[zp];lia) (by show(if b=true then (us.toArray.zip vs.toArray).reverse else us.toArray.zip vs.toArray).size<64;lia) rfl λh' c k1 k2=>?_;obtain⟨g,g1,g2⟩:=HE (κ:=κ) (b:=b) (xs:=if b=true then (us.toArray.zip vs.toArray).reverse else us.toArray.zip vs.toArray) (g:=λk=>k) hl hsz {λ_ _=>rfl,λ_ hk=>hk,λ_ _ _ _ e=>e} (λi j iX hj=>by lia);exact h h' c g _ k1 k2 g1 g2};{rw[if_neg h2,if_neg h2];rw[zp]at h2;obtain⟨nA,nB,rest,eu⟩:∃nA nB rest,us=nA::nB::rest:=(by match us,hl with|[],hl=>simp at hl;lia|[_],hl=>simp at hl;lia|nA::nB::rest,_=>exact⟨nA,nB,rest,rfl⟩);have ek:keyKind' us.toArray=pure oneType':=(by rw[eu];exact hkk _ _ _ eu);rw[ek];refine zc<|zo ?_;refine zc<|yI (PK (κ:=κ) hO (a₀:=if b=true then (us.toArray.zip vs.toArray).reverse else us.toArray.zip vs.toArray) (st:=SortSt.mk' oneType' (if b=true then (us.toArray.zip vs.toArray).reverse else us.toArray.zip vs.toArray) #[] 7 none) (Q:=λ_ eK=>failedOf eK=none/\(arrOf eK).size=vs.length/\∃g,Gh (if b=true then (us.toArray.zip vs.toArray).reverse else us.toArray.zip vs.toArray) g (arrOf eK)/\Bz κ (if b=true then (us.toArray.zip vs.toArray).reverse else us.toArray.zip vs.toArray) g vs.length) keys {Array.Perm.refl _,rfl,rfl,rfl} rfl (by lia) (by lia) λeK g q1 q2 q3 q4=>{q1,q2.trans hsz,g,q3,by rw[hsz]at q4;exact q4}) ?_ λ_ _ e=>e;rintro⟨⟨⟩,eK⟩ s' ⟨rfl,hf,YM,g,G,U⟩;(try dsimp only);have YM:(arrOf eK).size=vs.length:=YM;refine Dg hk ha PM (by rw[zp];lia) (by lia) hf λh' c k1 k2=>?_;obtain⟨g',g1,g2⟩:=HE (κ:=κ) hl YM G U;exact h h' c g' _ k1 k2 g1 g2}
end
structure Ng(X:Cx)(pins:List (Addr×Obj))(b:Addr):Prop where
 loc:b≠X.env.locals
 fs:b∉X.fs
 cell:∀x c,X.env.cells.lookup x=some c->c≠b
 pin:∀p∈X.pn++pins,p.1≠b
 new:X.dm.heap.objs.size<=b
section
variable{X:Cx}{pins:List (Addr×Obj)}{σ:St}{H:Hp}{s:Shared}
theorem Inv.Wb(I:Inv X pins σ H s)(h:s.heap.objs.size<=b):Ng X pins b:={yr<|zq I.lt h,I.RM h,λx c e=>by obtain⟨v,q⟩:=I.cell x c e;exact zA<|zq q.lt h,λp hp=>zA<|zq (zt (I.pin p hp).1) h,zH I.sz h}
theorem Inv.Ls(I:Inv X pins σ H s)(kp:∀b o,b≠a->b≠k->s.heap.get? b=some o->h'.get? b=some o)(ha:H a=none)(hk:H k=none)(Aa:Ng X pins a)(Ak:Ng X pins k):Inv X pins σ H {s with heap:=h',toks:=t'}:=by have N2:∀b u,H b=some u->b≠a/\b≠k:=λb u e=>{λz=>(by rw[z,ha]at e;cases e),λz=>(by rw[z,hk]at e;cases e)};refine I.step (g':=s.gens) (d':=s.drawn) (ch:=[a,k]) (λb hb=>?_) (λb o _ _ hc e _=>kp b o (λz=>hc<|by simp[z]) (λz=>hc<|by simp[z]) e) (λb o _ _ hc e _=>{o.slots,kp b o (λz=>hc<|by simp[z]) (λz=>hc<|by simp[z]) e}) (λ_ _ _ _ n=>n) (λb o hc e=>{o,kp b o (λz=>hc<|by simp[z]) (λz=>hc<|by simp[z]) e}) (λ_ _ e=>e) (λ_ _ _ e=>e) (λb ps e=>{#[],by rw[e];simp}) (λm hm=>?_) (λb u e=>?_) I.bare;simp only[zj,zM,or_false]at hb;rcases hb with rfl|rfl;exact{.inr Aa.new,Aa.loc,Aa.cell,Aa.pin};exact{.inr Ak.new,Ak.loc,Ak.cell,Ak.pin};obtain⟨o,es,ep,ho,r⟩:=hm;exact{o,es,ep,kp _ o (Ne.symm Aa.loc) (Ne.symm Ak.loc) ho,r};refine(I.aJ b u e).pf (λc v hc q=>?_) (λ_ q=>q) λ_ _ q=>q;rcases hc with z|z;rw[z]at q⊢;exact kp b v (N2 b u e).1 (N2 b u e).2 q;exact kp c v (N2 c _ z).1 (N2 c _ z).2 q
theorem Inv.Ut(I:Inv X pins σ H s)(ha:H a=none)(A:Ng X pins a)(new:bt X.prog X.w (upd H a o) s.heap a o):Inv X pins σ (upd H a o) s:=by refine I.step (h':=s.heap) (g':=s.gens) (d':=s.drawn) (t':=s.toks) (ch:=[a]) (λb hb=>?_) (λb o _ _ hc e _=>e) (λb o _ _ hc e _=>⟨o.slots,e⟩) (λb u hc e n=>?_) (λb o hc e=>⟨o,e⟩) (λb xs e=>?_) (λb u v e=>?_) (λb ps e=>?_) (λm hm=>hm) (λb u e=>?_) I.bare;rw[zI.mp hb];exact{.inr A.new,A.loc,A.cell,A.pin};rw[ax λz=>hc<|by simp[z]];exact n;rw[ax<|aD e ha];exact e;rw[ax<|aD e ha];exact e;exact{#[],by rw[ax<|aD e ha,e];simp};by_cases hb:b=a;subst hb;rw[aE]at e;cases e;exact new;rw[ax hb]at e;exact(I.aJ b u e).pf (λc v _ q=>q) (λc q=>by rw[ax<|aD q ha];exact q) λc xs q=>by rw[ax<|aD q ha];exact q
end
def HF(X:Cx)(pins:List<|Addr×Obj)(σ:St)(A:Around)(f:Addr)(xs:List V)(W:Nat->List V->Hp->Prop):Prop:=∀i x u ks s' H' more,Inv X (pins++more) σ H' s'->W i ks H'->xs[i]?=some x->RelV x u->codeAny (model X.prog X.w) A (.call (.ref f) {[u],[]}) (λq A2=>∃w,q=.ok (.ret w)/\CE X.stack X.prog X.w H' s' (λk H''=>W (i+1) (ks++[k]) H'') w A2) s'
structure Nh(κ:KeyKind)(us:List Value):Prop where
 all:∀u∈us,∃x,κ.keyOf u=some x
 kind:∀nA nB rest,us=nA::nB::rest->keyKind' (nA::nB::rest).toArray=pure oneType'
section
variable{X:Cx}{pins:List (Addr×Obj)}{σ:St}{H:Hp}{s:Shared}{A:Around}{E:Value->Shared->Prop}{xs:List V}{vs:List Value}{f:Addr}{b:Bool}{κ:KeyKind}{W:Nat->List V->Hp->Prop}
theorem EY{P:PySem.Fin->Shared->Prop}(hO:κ.OneLt)(I:Inv X pins σ H s)(ha:s.heap.get? a=some (seqObj "list" #[] e1))(hk:s.heap.get? kS=some (seqObj "list" #[] 0))(PM:kS≠a)(na:H a=none)(nk:H kS=none)(Aa:Ng X pins a)(Ak:Ng X pins kS) (hv:Vals xs vs) (Gj:vs.length<64) (T:HF X pins σ A f xs W) (w0:W 0 [] H) (G:∀ks us H',W vs.length ks H'->Vals ks us->ks.length=vs.length->Nh κ us) (h:∀s' H' ks us c g out,Inv X pins σ H' s'->H' a=none->s'.heap.get? a=some (seqObj "list" out c)->W vs.length ks H'->Vals ks us->ks.length=vs.length->Wa κ b (iD κ us) vs.length g->out.toList=(List.range vs.length).map (λk=>vs.getD (g k) .none)->P (.done<|.ret .none) s'): wpAny (model X.prog X.w) A (ksk_rest a (.ref f) b vs.toArray e1<|.ref kS) P E s:=by
 have nc:∀(k:Array Value) (n:Nat) (v:Option Value),(seqObj "list" k n).data≠.cell v:=λ_ _ _ z=>nomatch z;unfold ksk_rest;refine zc<|yW ?_;rw[List.forIn_toArray];refine zc<|ksk_fold (λi s'=>∃ks kA e H',Inv X pins σ H' s'/\W i ks H'/\Vals ks kA.toList/\ks.length=i/\H' a=none/\H' kS=none/\s'.heap.get? a=some (seqObj "list" #[] e1)/\s'.heap.get? kS=some (seqObj "list" kA e)) vs 0 s {[],#[],0,H,I,w0,.nil,rfl,na,nk,ha,hk} ?_ ?_;rintro j x s' hx ⟨ks,kA,e,H',I',w',v',l',Wc,YN,YO,G0⟩;simp only[Nat.zero_add]at l' w'⊢;have hj:j<vs.length:=(ze.mp hx).1;have hl:xs.length=vs.length:=hv.length;obtain⟨y,hy⟩:∃y,xs[j]?=some y:={_,zg<|by lia};obtain⟨u,hu,ru⟩:=hv.get hy;rw[hx]at hu;cases hu;have Ip:Inv X (pins++[(a,seqObj "list" #[] e1),(kS,seqObj "list" kA e)]) σ H' s':=by refine{I'.ok,I'.os,I'.bare,I'.base,I'.loc,I'.cell,I'.free,I'.fP,λp hp=>?_,I'.aJ,I'.len};rcases zP.mp hp with hp|hp;exact I'.pin p<|yn _ hp;rcases zP.mp hp with hp|hp;exact I'.pin p<|zD _ hp;simp only[zj,zM,or_false]at hp;rcases hp with rfl|rfl;exact{YO,Wc,Aa.loc,Aa.fs,nc _ _};exact{G0,YN,Ak.loc,Ak.fs,nc _ _}
 have hz:kA.size=j:=by have h1:ks.length=kA.toList.length:=v'.length;have h2:kA.toList.length=kA.size:=zX;lia
 refine zc<|wpAny_attempt<|wpAny_call<|yU (T j y x ks s' H' _ Ip w' hy ru) λr s2 hq=>?_;obtain⟨w,rfl,ce⟩:=hq;obtain⟨k,H2,I2,rk,w2⟩:=Ip.after ce;dsimp only;have pa:=I2.pin (a,seqObj "list" #[] e1)<|zD _<|zD _ (by simp);have pk:=I2.pin (kS,seqObj "list" kA e)<|zD _<|zD _ (by simp);have I3:Inv X pins σ H2 s2:={I2.ok,I2.os,I2.bare,I2.base,I2.loc,I2.cell,I2.free,I2.fP,λp hp=>I2.pin p<|by rcases zP.mp hp with z|z;exact yn _ z;exact zD _<|yn _ z,I2.aJ,I2.len};have s1:=yC s2.heap kS (Obj.mapSeq (·.push w));obtain⟨c2,YL⟩:∃c2,(s2.heap.update kS (Obj.mapSeq (·.push w))).get? kS=some (seqObj "list" (kA.push w) c2):={_,get?_update_seq pk.1 (·.push w)};refine zc<|listUpdate_at pk.1 rfl ?_ (by rw[yg];lia)<|zH (Nat.le_of_eq<|Array.size_push ..) (by rw[yg];lia);refine zo {rfl,ks++[k],kA.push w,c2,H2,I3.turned (t':=s2.toks) (it:=kS) (λb o hb q=>(s1.2 b hb).trans q) pk.2.1 Ak.loc (.inr Ak.new) Ak.cell Ak.pin,w2,?_,by simp[l'],pa.2.1,pk.2.1,(s1.2 a PM.symm).trans pa.1,YL};rw[show(kA.push w).toList=kA.toList++[w] by simp];exact v'.append<|.cons rk .nil;rintro s' ⟨ks,kA,e,H',I',w',v',l',Wc,YN,YO,G0⟩;simp only[Nat.zero_add]at l' w';refine zc<|listItems_at G0 rfl ?_;have eA:kA=kA.toList.toArray:=by simp
 have good:=G ks kA.toList H' w' v' l';have hl:kA.toList.length=vs.length:=by have h1:ks.length=kA.toList.length:=v'.length;lia
 rw[eA]at G0;show wpAny _ _ (ksk_end a b vs.toArray e1 (.ref kS) kA) _ _ _;rw[eA];refine PN (κ:=κ) hO G0 YO PM hl Gj good.all good.kind λh' c g out k1 k2 k3 k4=>?_;exact h _ H' ks kA.toList c g out (I'.Ls (t':=s'.toks) k1 Wc YN Aa Ak) Wc k2 w' v' l' k3 k4
theorem uz(hO:κ.OneLt)(I:Inv X pins σ H s)(hl:iW X.K H l xs)(Gj:xs.length<64)(Wd:argsOk "sorted" {[.ref l],kw})(We:∀x,argsOk "list.sort" {[.ref x],kw})(ht:∀x,Builtin.«list.sort» {[.ref x],kw}=ksk_tree x (.ref f) b) (T:HF X pins σ A.in1.in1 f xs W) (w0:W 0 [] H) (G:∀ks us H',W xs.length ks H'->Vals ks us->ks.length=xs.length->Nh κ us) (h:∀H' ks us g D,W xs.length ks H'->Vals ks us->ks.length=xs.length->Wa κ b (iD κ us) xs.length g->H' D=none->Q (.ref D) (upd H' D<|.lst<|(List.range xs.length).map λk=>xs.getD (g k) .av)): wpAny (model X.prog X.w) A (call (.builtin "sorted") [.ref l] kw) (EP X pins σ Q) E s:=by
 obtain⟨vs,hv,pl,_⟩:=I.list hl;have Rl:xs.length=vs.length:=hv.length;rw[Rl]at Gj G h;refine call_function_entry_kw kind_sorted plain_sorted entry_sorted Wd ?_;unfold Builtin.«sorted»;refine zc (m:=checkCount "sorted" 1 1 _)<|zo ?_;refine zc<|collect_list pl.isList ?_ (by rw[yg];lia);refine zc<|wpAny_newList ?_ (by rw[yg];lia);have hsz:((s.heap.push<|seqObj "list" #[] 0).update s.heap.objs.size (Obj.mapSeq (·++vs.toArray))).objs.size=s.heap.objs.size+1:=by rw[Heap.size_update,size_push']
 have FY:(((s.heap.push<|seqObj "list" #[] 0).update s.heap.objs.size (Obj.mapSeq (·++vs.toArray))).push<|seqObj "list" vs.toArray 0).get? (s.heap.objs.size+1)=some (seqObj "list" vs.toArray 0):=by rw[<-hsz];exact zk _ rfl
 have keep:∀b o,s.heap.get? b=some o->(((s.heap.push<|seqObj "list" #[] 0).update s.heap.objs.size (Obj.mapSeq (·++vs.toArray))).push<|seqObj "list" vs.toArray 0).get? b=some o:=λb o q=>by have eL:b<s.heap.objs.size:=zt q;rw[Heap.get?_push_ne _ _ _<|by rw[hsz];exact zA<|Nat.lt_succ_of_lt eL,Heap.get?_update_ne _ _ _ _<|zA eL,Heap.get?_push_ne _ _ _<|zA eL];exact q
 show wpAny _ _ _ _ _ {s with heap:=((s.heap.push<|seqObj "list" #[] 0).update s.heap.objs.size (Obj.mapSeq (·++vs.toArray))).push<|seqObj "list" vs.toArray 0};rw[hsz];generalize hg:((s.heap.push<|seqObj "list" #[] 0).update s.heap.objs.size (Obj.mapSeq (·++vs.toArray))).push (seqObj "list" vs.toArray 0)=h1 at FY keep⊢;have I1:Inv X pins σ H {s with heap:=h1}:=I.kept (t':=s.toks) keep;have Aa:Ng X pins (s.heap.objs.size+1):=I.Wb<|yS _;have na:H (s.heap.objs.size+1)=none:=I.aJ.fresh<|yS _;generalize s.heap.objs.size+1=a at FY Aa na⊢;refine zc<|yH<|wpAny_call_entry_kw slot_list_sort {_,FY,rfl} entry_list_sort ?_<|We _;show wpAny (model X.prog X.w) A.in1.in1 (Builtin.«list.sort» {[.ref a],kw}) _ _ _;rw[ht a];have s1:=yC h1 a<|Obj.mapSeq λ_=>(#[]:Array Value);obtain⟨e1,Rm⟩:∃e1,(h1.update a<|Obj.mapSeq λ_=>(#[]:Array Value)).get? a=some (seqObj "list" #[] e1):={_,get?_update_seq FY λ_=>#[]};have I2:Inv X pins σ H {s with heap:=h1.update a<|Obj.mapSeq λ_=>(#[]:Array Value)}:=Inv.turned (s:={s with heap:=h1}) (h':=h1.update a<|Obj.mapSeq λ_=>(#[]:Array Value)) (t':=s.toks) (it:=a) I1 (λb o hb q=>(s1.2 b hb).trans q) na Aa.loc (.inr Aa.new) Aa.cell Aa.pin;unfold ksk_tree;refine zc<|listItems_at FY rfl ?_;refine zc<|listUpdate_at FY rfl ?_ (by rw[zp,yg];lia)<|zV _;refine zc<|seqEpoch_at Rm rfl ?_;refine zc<|wpAny_newTuple ?_ (by show vs.length<=_;rw[yg];lia);refine zc<|wpAny_newList ?_<|zV _;refine yH ?_;generalize h1.update a (Obj.mapSeq λ_=>(#[]:Array Value))=h2 at Rm I2⊢;have k3:∀b u,h2.get? b=some u->((h2.push<|seqObj "tuple" vs.toArray 0).push<|seqObj "list" #[] 0).get? b=some u:=λb u q=>za _<|za _ q;have I3:Inv X pins σ H {s with heap:=(h2.push<|seqObj "tuple" vs.toArray 0).push<|seqObj "list" #[] 0}:=I2.kept (t':=s.toks) k3;have AI:h2.objs.size<=(h2.push<|seqObj "tuple" vs.toArray 0).objs.size:=by rw[size_push'];exact yS _
 refine EY (s:={s with heap:=(h2.push<|seqObj "tuple" vs.toArray 0).push<|seqObj "list" #[] 0}) (kS:=(h2.push<|seqObj "tuple" vs.toArray 0).objs.size) hO I3 (k3 _ _ Rm) (zk _ rfl) (yr<|zq (zt Rm) AI) na (I2.aJ.fresh AI) Aa (I2.Wb AI) hv Gj T w0 G λs' H' ks us c g out J n1 o1 w1 v1 l1 q1 q2=>{.none,rfl,?_};refine zo !{.ref a,_,J.Ut (o:=.lst<|(List.range vs.length).map λk=>xs.getD (g k) .av) n1 Aa {?_,out.toList,c,?_,?_},rfl,h H' ks us g a w1 v1 l1 q1 n1};rw[zb,List.length_range,yg];lia;rw[q2];have:∀(ns:List Nat),(∀k∈ns,g k<vs.length)->Vals (ns.map λk=>xs.getD (g k) .av) (ns.map λk=>vs.getD (g k) .none):=λns=>by induction ns with|nil=>exact λ_=>.nil|cons k ns ih=>intro hk;have YQ:=hk k zm;obtain⟨y,hy⟩:∃y,xs[g k]?=some y:={_,zg<|by lia};obtain⟨u,hu,ru⟩:=hv.get hy;refine .cons ?_<|ih λk dy=>hk k<|zf _ dy;show RelV (xs.getD (g k) .av) (vs.getD (g k) .none);rw[zG,hy,zG,hu];exact ru
 exact this _ λk hk=>q1.lt k<|zU.mp hk;rw[o1]
end
def Bm(mg:Str->Option Value)(base:Heap):Prop:=∃bm o,mg "__builtins__"= some (.ref bm)/\bm≠builtinsNs/\base.get? bm=some o/\o.cls=.type "module"/\o.dict=some builtinsNs/\o.data=.plain
structure YR(K:Frag)(mg:Str->Option Value)(base:Heap)(c P:Addr):Prop where
 hd:codeHdIn K c P=true
 bm:Bm mg base
theorem BB{pos p2:Pos}{c cv:Value}(l:List Value)(h:TriplesOk l)(e:codeAmong pos (l++[rawInt p2.line,rawInt p2.col,c])=some cv):codeAmong pos l=some cv\/cv=c:=by fun_induction TriplesOk l with|case1=>(simp only[List.nil_append,rawInt,codeAmong]at e;split at e;cases e;exact .inr rfl;cases e)|case2 a t b u x rest ih=>simp only[List.cons_append,codeAmong]at e⊢;split at e;rename_i hc;rw[if_pos hc];exact .inl e;rename_i hc;rw[if_neg hc];exact ih h e|case3 l h1 h2=>exact h.elim
section
variable{X:Cx}{pins:List (Addr×Obj)}{σ:St}{H:Hp}{s:Shared}
theorem Inv.tab{h':Heap}{tk:Nat}{P c:Addr}{ps Rn:Array Value}{oc fo:Obj}(I:Inv X pins σ H s)(hP:H P=some (.pT ps))(hx:Heap.ExtBut P s.heap h')(h1:s.heap.objs.size<=c)(h2:c<h'.objs.size)(hc:h'.get? c=some oc)(hp:h'.get? P=some (tabObj<|ps++Rn)): Inv X pins σ (upd (upd H P<|.pT<|ps++Rn) c<|.kL oc<|.own 0) {s with heap:=h'.push fo,toks:=tk}:=by
 have hcP:c≠P:=λz=>absurd (zq (I.aJ.lt hP)<|z ▸ h1)<|yB _;have nc:H c=none:=I.aJ.fresh h1;have other:∀b,b≠P->b≠c->upd (upd H P<|.pT<|ps++Rn) c (.kL oc<|.own 0) b=H b:=λb z1 z2=>by rw[ax z2,ax z1]
 have nP:∀b o,H b=some o->(∀q,o≠.pT q)->b≠P:=λb o e z q=>by rw[q,hP]at e;cases e;exact z _ rfl
 have YS:∀b,H b=none->b≠P:=λb e q=>by rw[q,hP]at e;cases e
 have lt:∀b o,s.heap.get? b=some o->b≠c:=λb o e=>zA<|zq (zt e) h1;refine I.un (h':=h'.push fo) {λb o e n _ _=>za _<|hx b o (YS b n) e,λb o e n _ _=>{o.slots,za _<|hx b o (YS b n) e},λb o e n _=>by rw[other b (YS b n)<|lt b o e];exact n,λb o e _=>?_,λb xs e=>by rw[other b (nP b _ e λ_=>nofun)<|aD e nc];exact e,λb o u e=>by rw[other b (nP b _ e λ_=>nofun)<|aD e nc];exact e,λb q e=>?_} λb u e=>?_;by_cases hb:b=P;rw[hb];exact{_,za _ hp};exact{o,za _<|hx b o hb e};by_cases hb:b=P;subst hb;rw[hP]at e;cases e;exact{Rn,by rw[ax<|Ne.symm hcP,aE]};exact{#[],by rw[other b hb<|aD e nc,e];simp};by_cases Ro:b=c;subst Ro;rw[aE]at e;cases e;exact{za _ hc,_,za _ hc};rw[ax Ro]at e;by_cases hb:b=P;subst hb;rw[aE]at e;cases e;exact za _ hp;rw[ax hb]at e;refine(I.aJ b u e).pf (λd v hd q=>?_) (λd q=>by rw[other d (nP d _ q λ_=>nofun)<|aD q nc];exact q) λd xs q=>by rw[other d (nP d _ q λ_=>nofun)<|aD q nc];exact q
 rcases hd with rfl|hd;exact za _<|hx d v hb q;exact za _<|hx d v (nP d _ hd λ_=>nofun) q
theorem Inv.Dh(I:Inv X pins σ H s)(ho:s.heap.get? f=some o)(hn:H f=none)(A:Ng X pins f)(d:∀v,o.data≠.cell v):Inv X (pins++[(f,o)]) σ H s:=by refine{I.ok,I.os,I.bare,I.base,I.loc,I.cell,I.free,I.fP,λp hp=>?_,I.aJ,I.len};rcases zP.mp hp with hp|hp;exact I.pin p<|yn _ hp;rcases zP.mp hp with hp|hp;exact I.pin p<|zD _ hp;rw[zI.mp hp];exact⟨ho,hn,A.loc,A.fs,d⟩
structure Uu(X:Cx)(pins:List (Addr×Obj))(σ:St)(H H':Hp)(P:Addr)(q:Str)(params:Arguments)(body:Expr)(scope:Scope)(u:Value)(s':Shared)(f:Addr)(pm cv lJ:Value):Prop where
 u:u=.ref f
 inv:Inv X (pins++[(f,xI X q params body scope pm cv lJ)]) σ H' s'
 code:∃c o vs t,cv=.ref c/\H' c=some (.kL o<|.own 0)/\o.data=.fields vs/\vs[1]?=some (.str q t)
 same:∀b,H' b=H b\/(b=P/\∃ps,H' b=some (.pT ps)/\C5 H' q ps)\/(H b=none/\∃o,H' b=some (.kL o<|.own 0))
theorem xK{M:Model}{A:Around}{E:Value->Shared->Prop}{N:List Str}{src:List<|Option Nat}{scope:Scope}{params:Arguments}{body:Expr}{pos:Pos}{c P:Addr}{q:Str}{ps:Array Value}{Q:Value->Shared->Prop}(I:Inv X pins σ H s)(S:bI X N src scope)(oG:X.env.code=.ref c)(mk:YR X.K X.mg X.base c P) (hP:H P=some (.pT ps)) (ok:C5 H q ps) (hq:X.env.qual ++ "<lambda>"= q) (HG:defaultsOf params X.env=([],[])) (h:∀u s' H' f pm cv lJ,Uu X pins σ H H' P q params body scope u s' f pm cv lJ->Q u s'):wpAny M A (eval (.Lambda params body scope pos) X.env) Q E s:=by
 have xl:closureFor scope X.env=pure (clOf X.env.cells scope.names):=gm λy hy hf=>I.ok.has y.1<|S.AF y hy hf;have Wf:s.heap.get? P=some (tabObj ps):=I.aJ P _ hP;have hg:s.heap.Ns mainGlobals X.mg:=I.mod.glob.keeps I.bk;have hC:=codeHd_of_K I.mY mk.hd;obtain⟨bm,ob,b1,b2,b3,b4,b5,b6⟩:=mk.bm;have Ni:s.heap.get? bm=some ob:=I.bk _ _ b3;have hgP:mainGlobals≠P:=λz=>by obtain⟨o,es,ep,e,d,_⟩:=id hg;rw[z,Wf]at e;cases e;cases d
 have hbG:bm≠mainGlobals:=λz=>by obtain⟨o,es,ep,e,d,_⟩:=id hg;rw[<-z,Ni]at e;cases e;rw[b6]at d;cases d
 have hbP:bm≠P:=λz=>by rw[z,Wf]at Ni;cases Ni;cases b4
 have hB:s.heap.BuiltinsAt X.mg P:=⟨bm,ob,b1,b2,hbG,hbP,Ni,b4,b5,b6⟩;have hqs:H P≠none:=by rw[hP];nofun
 refine PySem.W.kla_eval HG ?_;rw[hq];cases hf:codeAmong pos ps.toList with|none=>(refine PySem.W.kla_makeFunction xl I.ok.glob hg oG hC Wf ok.1 hf hgP hB λc' lJ h' tk hx h1 h2 hr hp=>?_;obtain⟨c2,oc,vs,t,e2,VG,hd,hv⟩:=hr;cases e2;have J:=I.tab (tk:=tk) (fo:=xI X q params body scope ((X.mg "__name__").getD .none) (.ref c') lJ) hP hx h1 h2 VG hp;have hcP:c'≠P:=λz=>absurd (zq (I.aJ.lt hP)<|z ▸ h1)<|yB _;have nc:H c'=none:=I.aJ.fresh h1;have fresh:∀b,h'.objs.size<=b->upd (upd H P<|.pT<|ps++#[rawInt pos.line,rawInt pos.col,.ref c']) c' (.kL oc<|.own 0) b=none:=λb hb=>(by have uY:s.heap.objs.size<=b:=zH (zH h1<|yK h2) hb;rw[ax<|yr<|zq h2 hb,ax<|yr<|zq (I.aJ.lt hP) uY];exact I.aJ.fresh uY);have hsz:s.heap.objs.size<=h'.objs.size:=zH h1<|yK h2;refine h _ _ _ h'.objs.size _ _ _ {rfl,J.Dh (zk _ rfl) (fresh _<|zr _) (I.Wb hsz) (λv z=>nomatch z),⟨c',oc,vs,t,rfl,aE,hd,hv⟩,λb=>?_};by_cases Ro:b=c';subst Ro;exact .inr<|.inr ⟨nc,oc,aE⟩;by_cases hb:b=P;subst hb;refine .inr<|.inl {rfl,_,by rw[ax Ro,aE],?_,λp2 cv e=>?_};rw[Array.toList_append];exact TriplesOk_snoc _ _ _ _ ok.1;rw[Array.toList_append]at e;rcases BB _ ok.1 e with e|e;obtain⟨d,o,ws,t2,z1,z2,z3⟩:=ok.2 p2 cv e;exact{d,o,ws,t2,z1,by rw[ax<|aD z2 nc,ax λz=>by rw[z,hP]at z2;cases z2];exact z2,z3};exact⟨c',oc,vs,t,e,aE,hd,hv⟩;exact .inl<|by rw[ax Ro,ax hb])|some cv=>refine PySem.W.kla_makeFunctionHit xl I.ok.glob hg oG hC Wf ok.1 hf hB λlJ h' tk hk hsz=>?_;have J:Inv X pins σ H {s with heap:=h'.push<|xI X q params body scope ((X.mg "__name__").getD .none) cv lJ,toks:=tk}:=I.kept λb u e=>za _<|hk b u e;exact h _ _ _ h'.objs.size _ _ _ {rfl,J.Dh (zk _ rfl) (I.aJ.fresh hsz) (I.Wb hsz) (λv z=>nomatch z),ok.2 pos cv hf,λb=>.inl rfl}
end
def Uv:D->D->Prop|.int a,.int b=>a<b|.str a,.str b=>a.cps.toList<b.cps.toList|_,_=>False
def xM(ks:List D):Prop:=(∃zs:List Str,ks=zs.map D.str)\/∃ns:List Int,ks=ns.map D.int
structure PQ(b:Bool)(key:Nat->D)(n:Nat)(g:Nat->Nat):Prop where
 lt:∀k,k<n->g k<n
 inj:∀i j,i<n->j<n->g i=g j->i=j
 ord:∀i j,i<j->j<n->(if b=true then Uv (key<|g j) (key<|g i) else Uv (key<|g i) (key<|g j))\/(key (g i)=key (g j)/\g i<g j)
def xN(b:Bool)(P:Addr)(q:Str)(src:List<|Option Nat)(te:TD)(σ:SD)(R:KD)(d:D)(S1:aw):Prop:=∃(l:Addr)(xs:List D)(f:D->D),d=.ref l/\S1 l=some (.lst xs)/\xs.length<64/\S1 P=some (.tab q)/\xM (xs.map f)/\(∀x,x∈xs->∀S',Sub S1 S'->∀Qk:KD,(∀S2,Sub S' S2->Qk (f x) S2)->te ((lW σ src).set 0<|some x) S' Qk Zf)/\∀g S2 p,PQ b (λj=>f<|xs.getD j .av) xs.length g->Sub S1 S2->S2 p=none->R (.ref p) (S2.set p<|.lst<|(List.range xs.length).map λk=>xs.getD (g k) .av)
def Nj(b:Bool)(P:Addr)(q:Str)(src:List<|Option Nat)(tl te:TD):TD:=λσ S R Z=>tl σ S (λd S1=>xN b P q src te σ R d S1) Z
def HH(F:D->aw->Prop):List D->aw->Prop|[d],S=>F d S|_,_=>False
theorem Di{F:D->aw->Prop}{ds:List D}{S:aw}(h:HH F ds S):∃d,ds=[d]/\F d S:=by match ds,h with|[d],h=>exact⟨d,rfl,h⟩
theorem qU:∀{ss:List Int}{az:List Value},Vals (ss.map V.int) az->IntsAre az ss|[],_,.nil=>.nil|z::ss,_,.cons r t=>by obtain⟨tk,rfl⟩:=r;exact .cons z tk<|qU t
theorem qW:∀{us:List Value}{zs:List Str},StrsAre us zs->∀j,j<zs.length->iD strKind us j=(zs.getD j "").cps.toList|_,_,.cons z t h,0,_=>rfl|_,_,.cons z t h,j+1,hj=>by have:=qW h j (by simpa using hj);unfold iD at this⊢;rw[List.getD_cons_succ,List.getD_cons_succ];exact this
theorem qX:∀{us:List Value}{zs:List Int},IntsAre us zs->∀j,j<zs.length->iD intK us j=zs.getD j 0|_,_,.cons z t h,0,_=>rfl|_,_,.cons z t h,j+1,hj=>by have:=qX h j (by simpa using hj);unfold iD at this⊢;rw[List.getD_cons_succ,List.getD_cons_succ];exact this
theorem HJ(h:StrsAre us zs):∀u∈us,∃x,strKind.keyOf u=some x:=by induction h with|nil=>(intro u hu;cases hu)|cons z t h ih=>intro u hu;rcases zj.mp hu with rfl|hu;exact{_,rfl};exact ih u hu
theorem HK(h:IntsAre us zs):∀u∈us,∃x,intK.keyOf u=some x:=by induction h with|nil=>(intro u hu;cases hu)|cons z t h ih=>intro u hu;rcases zj.mp hu with rfl|hu;exact{_,rfl};exact ih u hu
theorem HL{xs:List D}{f:D->D}{j:Nat}(hj:j<xs.length):(xs.map f)[j]?=some (f<|xs.getD j .av):=by rw[zi,zG,zg hj];rfl
theorem vo{K:Frag}{H:Hp}{ds:List D}{xs:List V}(h:RvAll K H ds xs)(g:Nat->Nat):∀(ns:List Nat),(∀k∈ns,g k<ds.length)->RvAll K H (ns.map λk=>ds.getD (g k) .av) (ns.map λk=>xs.getD (g k) .av)|[],_=>bx|k::ns,hk=>by have YQ:=hk k zm;obtain⟨v,e,r⟩:=h.get<|zg YQ;refine aO ?_<|vo h g ns λk dy=>hk k<|zf _ dy;show Rv K H (ds.getD (g k) .av) (xs.getD (g k) .av);rw[zG,zg YQ,zG,e];exact r
section
variable{K:Frag}{Y:Cx}{pins:List (Addr×Obj)}{τ:St}{H H2:Hp}{s:Shared}{N:List Str}{src:List (Option Nat)}{scope:Scope}{params:Arguments}{body:Expr}{q p:Str}{pm cv lJ:Value}{f l:Addr}{te:TD}{b:Bool}{kw:List (Str×Value)}{k:Nat}
theorem xO{σ:SD}{S1:aw}{xs:List D}{fD:D->D}{Q:VK}{R:KD}{E:Value->Shared->Prop}(I:Inv Y (pins++[(f,xI Y q params body scope pm cv lJ)]) τ H s)(hK:Y.K=K)(Uw:Y.calm=true)(hr:bJ k Y.A)(oG:∃c o vs t,cv=.ref c/\H c=some (.kL o<|.own 0)/\o.data=.fields vs/\vs[1]?=some (.str q t)) (CS:bI Y N src scope) (Lp:N[0]?=some p) (hp:scope.names.lookup p=some .local) (h0:src[0]?=some none) (Lq:scope.isCoroutine=false) (BA:scope.isGenerator=false) (hb:∀cl pm cv lJ u,bindArgs (kla_fn "<lambda>" q params body scope cl pm cv lJ) {[u],[]}=pure [(p,u)]) (he:∀cv s H,DE K (Rk Y N q scope f cv Y.A.in1.in1 s H) body te) (aA:hG K H σ τ) (hS:Rs K S1 H) (hl:S1 l=some (.lst xs)) (Gj:xs.length<64) (kd:xM<|xs.map fD) (step:∀x,x∈xs->∀S',Sub S1 S'->∀Qk:KD,(∀S2,Sub S' S2->Qk (fD x) S2)->te ((lW σ src).set 0<|some x) S' Qk Zf) (hR:Cn K H R Q) (fin:∀g S2 p,PQ b (λj=>fD<|xs.getD j .av) xs.length g->Sub S1 S2->S2 p=none->R (.ref p) (S2.set p<|.lst<|(List.range xs.length).map λk=>xs.getD (g k) .av)) (Wd:argsOk "sorted" {[.ref l],kw}) (We:∀x,argsOk "list.sort" {[.ref x],kw}) (ht:∀x,Builtin.«list.sort» {[.ref x],kw}=ksk_tree x (.ref f) b): wpAny (model Y.prog Y.w) Y.A (call (.builtin "sorted") [.ref l] kw) (EP Y pins τ Q) E s:=by
 subst hK;obtain⟨vs,hv,rv⟩:=hS.lst hl;have Rl:vs.length=xs.length:=rv.len;obtain⟨c,oc,ws,tk,ecv,hc,oo,hcq⟩:=oG;have drop:∀{u:Value}{s':Shared},EP Y (pins++[(f,xI Y q params body scope pm cv lJ)]) τ Q u s'->EP Y pins τ Q u s':=λ⟨v,H',J,r,q⟩=>{v,H',{J.ok,J.os,J.bare,J.base,J.loc,J.cell,J.free,J.fP,λp hp=>J.pin p<|by rcases zP.mp hp with z|z;exact yn _ z;exact zD _<|yn _ z,J.aJ,J.len},r,q};have T:HF Y (pins++[(f,xI Y q params body scope pm cv lJ)]) τ Y.A.in1.in1 f vs λi ks H'=>∃S',Sub S1 S'/\Rs Y.K S' H'/\Kp Y.K H H'/\RvAll Y.K H' ((xs.take i).map fD) ks:=by rintro i x u ks s' H' more I' ⟨S',sb,rs,kp,rk⟩ hx ru;have hi:i<xs.length:=(by have:=(ze.mp hx).1;lia);obtain⟨v,e1,r1⟩:=rv.get<|zg hi;rw[hx]at e1;cases e1;have po:=(I'.pin (f,xI Y q params body scope pm cv lJ)<|zD _<|yn _<|zD _<|by simp).1;have hcr:s'.heap.CodeRec cv q:={c,oc,ws,tk,ecv,(I'.aJ c _<|kp.f _ _ _ hc).1,oo,hcq};refine HA (A:=Y.A.in1.in1) I' CS Lp hp h0 I'.ok.frames (I'.ok.hd Uw) (by have:=hr.dp;show Y.A.depth<_;lia) ru po hcr Lq BA (hb _ _ _ _ _) ((he cv s' H').of<|.none _ rfl) ?_;refine{_,S',λkk S2=>kk=fD xs[i]/\Sub S' S2,Zf,((aA.ts kp).pick src).set 0<|Rv.ts kp _ r1,rs,step _ (List.getElem_mem hi) S' sb _ λS2 h2=>⟨rfl,h2⟩,λkk S2 v2 H2 ⟨e2,JG⟩ Rp YT Wh=>?_,.f};subst e2;refine{S2,sb.trans JG,YT,kp.trans Wh,?_};rw[show xs.take (i+1)=xs.take i++[xs[i]] by rw[List.take_add_one,zg hi];rfl,zK];exact(RvAll.ts Wh _ rk).app<|aO Rp bx
 have w0:∃S',Sub S1 S'/\Rs Y.K S' H/\Kp Y.K H H/\RvAll Y.K H ((xs.take 0).map fD) []:={S1,.refl _,hS,.refl _,by rw[List.take_zero];exact bx};have MI:iW Y.K H l vs:=.of hv;rcases kd with⟨zs,ez⟩|⟨zs,ez⟩;have YU:zs.length=xs.length:=by have:=congrArg List.length ez;rw[zb,zb]at this;exact this.symm
 have ka:∀j,j<xs.length->fD (xs.getD j .av)=.str (zs.getD j ""):=λj hj=>by have e1:=HL (f:=fD) hj;rw[ez,zi,zg<|by lia]at e1;rw[zG (l:=zs),zg<|by lia];exact(zT e1).symm
 have kv:∀ks us H',(∃S',Sub S1 S'/\Rs Y.K S' H'/\Kp Y.K H H'/\RvAll Y.K H' ((xs.take vs.length).map fD) ks)->Vals ks us->StrsAre us zs:=λks us H' ⟨S',_,_,_,rk⟩ hu=>by rw[Rl,yG,ez]at rk;rw[rk.strs]at hu;exact qS hu
 refine yI (uz (κ:=strKind) (Q:=Q) (b:=b) strKind_oneLt I MI (by lia) Wd We ht T w0 (λks us H' w1 v1 l1=>{HJ<|kv ks us H' w1 v1,λnA nB rest e=>keyKind_strs<|by rw[<-e];exact kv ks us H' w1 v1}) λH' ks us g D w1 v1 l1 sr hD=>?_) (λu s' z=>drop z) λ_ _ z=>z;have sk:=kv ks us H' w1 v1;obtain⟨S',sb,rs,kp,rk⟩:=w1;rw[Rl]at sr⊢;refine(hR.kp kp).new rs hD (λhp=>fin g S' D {sr.lt,sr.inj,λi j iX hj=>?_} sb hp)<|vo (RvAll.ts kp _ rv) g _ λk hk=>sr.lt k<|zU.mp hk;have h1:=sr.lt i (by lia);have h2:=sr.lt j hj;have:=sr.ord i j iX hj;rw[qW sk _<|by lia,qW sk _<|by lia]at this;rw[ka _ h1,ka _ h2];rcases this with z|⟨z1,z2⟩;left;cases b with|false=>rw[if_neg zd]at z⊢;show(zs.getD (g i) "").cps.toList<(zs.getD (g j) "").cps.toList;exact zB z|true=>rw[if_pos rfl]at z⊢;show(zs.getD (g j) "").cps.toList<(zs.getD (g i) "").cps.toList;exact zB z
 exact .inr {by rw[YH z1],z2};have YU:zs.length=xs.length:=by have:=congrArg List.length ez;rw[zb,zb]at this;exact this.symm
 have ka:∀j,j<xs.length->fD (xs.getD j .av)=.int (zs.getD j 0):=λj hj=>by have e1:=HL (f:=fD) hj;rw[ez,zi,zg<|by lia]at e1;rw[zG (l:=zs),zg<|by lia];exact(zT e1).symm
 have kv:∀ks us H',(∃S',Sub S1 S'/\Rs Y.K S' H'/\Kp Y.K H H'/\RvAll Y.K H' ((xs.take vs.length).map fD) ks)->Vals ks us->IntsAre us zs:=λks us H' ⟨S',_,_,_,rk⟩ hu=>by rw[Rl,yG,ez]at rk;rw[rk.ints]at hu;exact qU hu
 refine yI (uz (κ:=intK) (Q:=Q) (b:=b) HB I MI (by lia) Wd We ht T w0 (λks us H' w1 v1 l1=>{HK<|kv ks us H' w1 v1,λnA nB rest e=>keyKind_ints<|by rw[<-e];exact kv ks us H' w1 v1}) λH' ks us g D w1 v1 l1 sr hD=>?_) (λu s' z=>drop z) λ_ _ z=>z;have sk:=kv ks us H' w1 v1;obtain⟨S',sb,rs,kp,rk⟩:=w1;rw[Rl]at sr⊢;refine(hR.kp kp).new rs hD (λhp=>fin g S' D {sr.lt,sr.inj,λi j iX hj=>?_} sb hp)<|vo (RvAll.ts kp _ rv) g _ λk hk=>sr.lt k<|zU.mp hk;have h1:=sr.lt i (by lia);have h2:=sr.lt j hj;have:=sr.ord i j iX hj;rw[qX sk _<|by lia,qX sk _<|by lia]at this;rw[ka _ h1,ka _ h2];rcases this with z|⟨z1,z2⟩;left;cases b with|false=>rw[if_neg zd]at z⊢;show zs.getD (g i) 0<zs.getD (g j) 0;exact zB z|true=>rw[if_pos rfl]at z⊢;show zs.getD (g j) 0<zs.getD (g i) 0;exact zB z
 exact .inr {by rw[z1],z2}
end
section
variable{K:Frag}{X:Cx}{N:List Str}{src:List (Option Nat)}{scope:Scope}{params:Arguments}{e body:Expr}{q p x:Str}{np pos lp kq kq2 cp:Pos}{ci}{tl te:TD}{k:Nat}{c P:Addr}
theorem Uu.kp{pins:List<|Addr×Obj}{τ:St}{H H':Hp}{u:Value}{s':Shared}{f:Addr}{pm cv lJ:Value}{Y:Cx}(L:Uu Y pins τ H H' P q params body scope u s' f pm cv lJ){ps:Array Value}(hP:H P=some (.pT ps)):Kp K H H':=.of λb o e=>by rcases L.same b with z|⟨z,_⟩|⟨z,_⟩;exact .inl (by rw[z];exact e);rw[z,hP]at e;cases e;exact .inr {λ_=>nofun,λ_ _=>nofun};rw[z]at e;cases e
theorem Uu.rs{pins:List<|Addr×Obj}{τ:St}{H H':Hp}{u:Value}{s':Shared}{f:Addr}{pm cv lJ:Value}{Y:Cx}{S:aw}(L:Uu Y pins τ H H' P q params body scope u s' f pm cv lJ)(hS:Rs K S H)(ht:S P=some (.tab q)):Rs K S H':=λb x hb=>by obtain⟨ps,hP,_⟩:=hS P _ ht;have kp:Kp K H H':=L.kp hP;rcases L.same b with z|⟨rfl,Rn,z1,z2⟩|⟨z,_⟩;exact(hS b x hb).keep (λo e=>by rw[z];exact e) kp;rw[ht]at hb;cases hb;exact⟨Rn,z1,z2⟩;obtain⟨o,e,_⟩:=(hS b x hb).has;rw[z]at e;cases e
theorem Ux(oG:X.env.code=.ref c)(mk:YR K X.mg X.base c P)(hr:bJ k X.A)(CS:bI X N src scope)(hl:DE K X e tl)(he:∀f cv s H,DE K (Rk X N q scope f cv X.A.in1.in1 s H) body te)(hm:X.mg x=none)(hv:bootBuiltins x=some (.builtin "sorted")) (hq:autoParam (X.env.qual ++ "<lambda>"= q) qQJ) (Lp:autoParam (N[0]?=some p) qQJ) (hp:autoParam (scope.names.lookup p=some .local) qQJ) (h0:autoParam (src[0]?=some none) qQJ) (Lq:autoParam (scope.isCoroutine=false) qQJ) (BA:autoParam (scope.isGenerator=false) qQJ) (hb:autoParam (∀cl pm cv lJ u,bindArgs (kla_fn "<lambda>" q params body scope cl pm cv lJ) {[u],[]}=pure [(p,u)]) qJ3) (HG:autoParam (defaultsOf params X.env=([],[])) qQJ) (hg:autoParam (Gl X x) qQJ) (hn:autoParam (x≠"__name__") qQZ) (lN:autoParam ((x==("__debug__": Str))=false) qQZ) (Uy:autoParam (backTo pos (starEach [e] X.env)=(false,eval e X.env)::backTo pos (starEach [] X.env)) qQJ) (cP:autoParam ((backTo pos<|starEach [e] X.env).any (·.1)=false) qQJ) (YV:autoParam (isPlain e=true) qQJ) (hK:autoParam (X.K=K) qQJ) (hC:autoParam (X.calm=true) qQJ): DE K X (.Call (.Name x np) [e] [{some "key",.Lambda params body scope lp,kq}] pos) (Nj false P q src tl te):=by subst hK;refine⟨λy=>?_⟩;rintro pins s τ H Q I ⟨σ,S,R,Z,aA,hS,t,hR,hZ⟩;refine wpAny_Call_Name_kw<|gk I hg hm hv ?_ hn lN;refine callWith_kw (bw (((ac hl an YV).of y) pos pins s τ H (λvs H1=>∃ds S1,HH (xN false P q src te σ R) ds S1/\RvAll X.K H1 ds vs/\Rs X.K S1 H1/\Kp X.K H H1) I {σ,S,HH<|xN false P q src te σ R,Z,aA,hS,t,λds S1 vs H1 r rv rs k1=>⟨ds,S1,r,rv,rs,k1⟩,hZ}) λus s1 ⟨vs,H1,I1,r1,ds,S1,r,rv,rs,k1⟩=>?_) Uy cP;obtain⟨d,rfl,l,xs,fD,rfl,el,Gj,et,kd,step,fin⟩:=Di r;obtain⟨v,XJ,rfl,Uz,Rp⟩:=rv.cons;cases Rp.nil;cases Uz.ref;obtain⟨u,rfl,ru⟩:=vals1 r1;cases ru;obtain⟨ps,hP,aJ⟩:=rs P _ et;refine kws_cons<|xK I1 ⟨CS.kind,CS.gp,CS.loc,CS.AF,CS.len,CS.src⟩ oG mk hP aJ hq HG λw s2 H2 f pm cv lJ L=>?_;refine kws_nil ?_;cases L.u;have k2:Kp X.K H1 H2:=L.kp hP;exact xO L.inv rfl hC hr L.code ⟨CS.kind,CS.gp,CS.loc,CS.AF,CS.len,CS.src⟩ Lp hp h0 Lq BA hb (he f) ((aA.ts k1).ts k2) (L.rs rs et) el Gj kd step (hR.kp<|k1.trans k2) fin (ksk_s1 _ _) (λx=>ksk_l1 _ _) λx=>ksk_t1 _ _
theorem Nk(oG:X.env.code=.ref c)(mk:YR K X.mg X.base c P)(hr:bJ k X.A)(CS:bI X N src scope)(hl:DE K X e tl)(he:∀f cv s H,DE K (Rk X N q scope f cv X.A.in1.in1 s H) body te)(hm:X.mg x=none)(hv:bootBuiltins x=some (.builtin "sorted")) (hq:autoParam (X.env.qual ++ "<lambda>"= q) qQJ) (Lp:autoParam (N[0]?=some p) qQJ) (hp:autoParam (scope.names.lookup p=some .local) qQJ) (h0:autoParam (src[0]?=some none) qQJ) (Lq:autoParam (scope.isCoroutine=false) qQJ) (BA:autoParam (scope.isGenerator=false) qQJ) (hb:autoParam (∀cl pm cv lJ u,bindArgs (kla_fn "<lambda>" q params body scope cl pm cv lJ) {[u],[]}=pure [(p,u)]) qJ3) (HG:autoParam (defaultsOf params X.env=([],[])) qQJ) (hg:autoParam (Gl X x) qQJ) (hn:autoParam (x≠"__name__") qQZ) (lN:autoParam ((x==("__debug__": Str))=false) qQZ) (Uy:autoParam (backTo pos (starEach [e] X.env)=(false,eval e X.env)::backTo pos (starEach [] X.env)) qQJ) (cP:autoParam ((backTo pos<|starEach [e] X.env).any (·.1)=false) qQJ) (YV:autoParam (isPlain e=true) qQJ) (hK:autoParam (X.K=K) qQJ) (hC:autoParam (X.calm=true) qQJ): DE K X (.Call (.Name x np) [e] [{some "key",.Lambda params body scope lp,kq},{some "reverse",.Constant (.bool true) ci cp,kq2}] pos) (Nj true P q src tl te):=by subst hK;refine⟨λy=>?_⟩;rintro pins s τ H Q I ⟨σ,S,R,Z,aA,hS,t,hR,hZ⟩;refine wpAny_Call_Name_kw<|gk I hg hm hv ?_ hn lN;refine callWith_kw (bw (((ac hl an YV).of y) pos pins s τ H (λvs H1=>∃ds S1,HH (xN true P q src te σ R) ds S1/\RvAll X.K H1 ds vs/\Rs X.K S1 H1/\Kp X.K H H1) I {σ,S,HH<|xN true P q src te σ R,Z,aA,hS,t,λds S1 vs H1 r rv rs k1=>⟨ds,S1,r,rv,rs,k1⟩,hZ}) λus s1 ⟨vs,H1,I1,r1,ds,S1,r,rv,rs,k1⟩=>?_) Uy cP;obtain⟨d,rfl,l,xs,fD,rfl,el,Gj,et,kd,step,fin⟩:=Di r;obtain⟨v,XJ,rfl,Uz,Rp⟩:=rv.cons;cases Rp.nil;cases Uz.ref;obtain⟨u,rfl,ru⟩:=vals1 r1;cases ru;obtain⟨ps,hP,aJ⟩:=rs P _ et;refine kws_cons<|xK I1 ⟨CS.kind,CS.gp,CS.loc,CS.AF,CS.len,CS.src⟩ oG mk hP aJ hq HG λw s2 H2 f pm cv lJ L=>?_;refine kws_cons<|bw (MB (X:=y.cx) _ s2 τ H2 (λv H'=>v=.bl true/\H'=H2) L.inv ⟨rfl,rfl⟩) λw2 s3 ⟨v2,H3,I3,r3,e3,e4⟩=>?_;subst e3 e4;obtain rfl:w2=Value.bool true:=r3;refine kws_nil ?_;cases L.u;have k2:Kp X.K H1 H3:=L.kp hP;exact xO I3 rfl hC hr L.code ⟨CS.kind,CS.gp,CS.loc,CS.AF,CS.len,CS.src⟩ Lp hp h0 Lq BA hb (he f) ((aA.ts k1).ts k2) (L.rs rs et) el Gj kd step (hR.kp<|k1.trans k2) fin (ksk_s2 _ _ _) (λx=>ksk_l2 _ _ _) λx=>ksk_t2 _ _ _
end
section
variable{P:Program}{w:World}{K:Frag}{mg:Str->Option Value}{base:Heap}
theorem vj.okC{x qual:Str}{st:Stmt}{f:Addr}{fd:FuncData}{N ps:List Str}{k:Nat}{sp:ja}(F:vj K x qual st f fd)(S:fQ N ps<|ae st)(len:∀ds S R Z,sp ds S R Z->ds.length=ps.length) (lM:∀(fN:Value)(A:Around)(outer:List Env)(s:Shared)(H:Hp)(E:XK)(ds:List D)(S:aw)(R:KD)(Z:KX),fN=fd.code->bJ k (A.deeper<|envOfC qual (ae st) s.heap.objs.size f fN)->sp ds S R Z->∃t,Gf K (j0 (fc P w mg) P w K mg base N qual (ae st) f fN A outer s H E) true (ba st) t/\t {nx:=λ_ S'=>Fo S'<|R .av,rt:=λd S'=>Fo S'<|R d} (jb N ds) S λ_ C S'=>Fo S'<|Z C):bF P w K mg base (fc P w mg) (k+1) f fd ps (mV K sp):=by
 obtain⟨oc,od,dV,kV,doc,pm,an,fN,ct,OG,rfl,lk,oo⟩:=F.ex;have cP:ps.length<=N.length:=by have:=congrArg List.length S.pre;rw[ym]at this;lia
 refine ML lk oo S (by rintro vs H Q E ⟨ds,S',R,Z,v,_,h,_⟩;exact by rw[v.len];exact len _ _ _ _ h) λA outer s H vs Q E hr ⟨ds,S',R,Z,v,hS,h,hR,hZ⟩=>?_;obtain⟨t,ht,q⟩:=lM fN A outer s H E ds S' R Z rfl hr h;have L:cX (j0 (fc P w mg) P w K mg base N qual (ae st) f fN A outer s H E) E:=uo;let y:Ev (j0 (fc P w mg) P w K mg base N qual (ae st) f fN A outer s H E) true:={_,(j0 (fc P w mg) P w K mg base N qual (ae st) f fN A outer s H E).xe,λ_=>E,{λp2 τ H1 s1 e s' I h=>MR L p2 τ H1 s1 e s' I h,λ_ p2 τ H1 s1 h' a cls args I hx he=>oz L I hx he,λ_=>PassesOwn.leaving}};refine{L2.Tl K (λ_=>E) t,ht.of y,jb N ds,S',_,λ_ C S'=>Fo S'<|Z C,?_,hS,q,{by rintro σ S1 τ H1 ⟨S2,sb,r⟩ a b c;exact(hR.kp c).now (b.sub sb) r fe,by rintro d S1 v H1 ⟨S2,sb,r⟩ a b c;exact hR _ _ _ _ r a (b.sub sb) c,λ_ _ _ _ z=>z.elim,λ_ _ _ _ z=>z.elim},by rintro σ τ C S1 H1 ⟨S2,sb,r⟩ a b c;exact hZ C S2 H1 r (b.sub sb) c};unfold jb start;refine(qN v).app ?_;rw[v.len];exact qM _ _<|by rw[List.length_replicate]
end
structure xP(ts:List Addr)(H:Hp):Prop where
 all:∀b,H b=none\/(∃o xs,H b=some (.kL o<|.lst xs))\/(b∈ts/\H b=some (.pT #[]))
 tab:∀b∈ts,H b=some (.pT #[])
theorem EZ{P:Program}{w:World}{K:Frag}{mg mb:Str->Option Value}{CX:A1}{k:Nat}{fa a:Addr}{fd:FuncData}{x:Str}{sp:Sp}{a_:Shared}{vs:List Value}{ns:List Int}{ts:List Addr} (KX:K.In a_.heap) (PL:a_.heap.Ns mainGlobals mg) (hb:a_.heap.Ns builtinsNs mb) (hbb:∀x:Str,x≠"__name__"->mb x=bootBuiltins x) (YW:a_.heap.NoLimit) (hbm:Bm mg a_.heap) (hg:a_.gens=#[]) (hT:∀b∈ts,a_.heap.get? b=some (tabObj #[])) (hC:∀b∈ts,isCodeTable a_.heap b) (hN:∀b∈ts,K.lookup b=none) (ha:a_.heap.get? a=some {cls:=.type "list",data:=.seq vs.toArray}) (hi:IntsAre vs ns) (hl:ns.length<=sizeLine) (hr:bJ k callerA) (F:∀base:Heap,Bm mg base->K.In base->base.Ns mainGlobals mg->bF P w K mg base CX k fa fd [x] sp) (UA:∀(s:Shared) (u:Value),BindsTo s fd {[u],[]} [(x,u)]) (QZ:∀H:Hp,xP ts H->iW K H a (ns.map V.int)->sp [.ref a] H (λv _=>v=.bl true) λ_ _ _=>False) (YX:∀H e s',CX [] H a_ (λ_ _ _=>False) e s'->False): codeAny (model P w) callerA (.call (.ref fa) {[.ref a],[]}) (λr s'=>r=.ok (.ret<|.bool true)/\OldK a_.heap s'.heap/\s'.os=a_.os/\AllBare s'.gens) a_:=by
 have rv:=uh hi;have YY:=hi.length;have V6:a∉ts:=λz=>by rw[hT a z]at ha;cases ha
 have core:∀H:Hp,xP ts H->iW K H a (ns.map V.int)->kM P w H a_.heap->(∀b,H b≠none->b=a\/b∈ts)->(H a≠none->K.lookup a=none)->codeAny (model P w) callerA (.call (.ref fa) {[.ref a],[]}) (λr s'=>r=.ok (.ret<|.bool true)/\OldK a_.heap s'.heap/\s'.os=a_.os/\AllBare s'.gens) a_:=by intro H hO hS aJ hA hK;have vp:∀{b:Addr}{o:Obj},a_.heap.get? b=some o->H b=none->(sP a_.heap H).get? b=some o:=λe n=>Gq e n;have Kh:∀{b:Addr}{o:Obj}{es:Array DictEntry}{ep:Nat},a_.heap.get? b=some o->o.data=.dict es ep->H b=none:=λ{b o es ep} e d=>(by cases q:H b with|none=>rfl|some u=>rcases hA b (by rw[q];simp) with e'|e';subst e';rw[ha]at e;cases e;have d':Data.seq vs.toArray _=Data.dict es ep:=d;cases d';rw[hT b e']at e;cases e;cases d);have Wi:∀{b:Addr}{m:Str->Option Value},a_.heap.Ns b m->(sP a_.heap H).Ns b m:=λ{b m} ⟨o,es,ep,e,d,r⟩=>{o,es,ep,vp e<|Kh e d,d,r};have hKb:K.In (sP a_.heap H):=λb o e=>vp (KX b o e) (by cases q:H b with|none=>rfl|some u=>rcases hA b (by rw[q];simp) with e'|e';subst e';rw[hK<|by rw[q];simp]at e;cases e;rw[hN b e']at e;cases e);have hM:Mod K mg (sP a_.heap H):={hKb,Wi PL,{mb,Wi hb,hbb},by obtain⟨mc,h1,h2⟩:=YW;exact{mc,Wi h1,h2}};have e0:w5 P w K mg (sP a_.heap H) callerA [] a_ H:={rfl,hM,λb o e=>JT e,Nat.le_of_eq<|Ef _ _,trivial,λb hb=>absurd (show b∈([]:List Addr) from hb)<|by simp,aJ,.of_eq hg};have hBm:Bm mg (sP a_.heap H):=(by obtain⟨bm,ob,b1,b2,b3,b4,b5,b6⟩:=hbm;refine{bm,ob,b1,b2,vp b3 ?_,b4,b5,b6};cases q:H bm with|none=>rfl|some u=>rcases hA bm (by rw[q];simp) with e'|e';rw[e',ha]at b3;cases b3;cases b6;rw[hT bm e']at b3;cases b3;cases b4);refine yU ((F _ hBm hKb<|Wi PL).run callerA [] a_ H {[.ref a],[]} [.ref a] [.ref a] _ _ hr e0 (UA a_<|.ref a) (.cons rfl .nil)<|QZ H hO hS) λr s' h=>?_;cases r with|error e=>exact(YX H e s' h).elim|ok fl=>cases fl with|next=>exact False.elim h|brk=>exact False.elim h|cont=>exact False.elim h|ret u=>obtain⟨v,H',os,bare,un,UB,r',q⟩:=h;have q':v=.bl true:=q;subst q';obtain rfl:u=Value.bool true:=r';refine{rfl,{λb o e=>?_,λb o e=>un.there b o e<|by simp},os,bare};rcases hO.all b with z|⟨ob,xs,z⟩|⟨z1,z⟩;exact .inl<|un.keep b o e z (by intro z;exact absurd (show b∈([]:List Addr) from z)<|by simp) (by simp);have z2:=un.kN b ob _ z;obtain⟨e1,_⟩:=aJ b _ z;obtain⟨e2,_⟩:=UB b _ z2;rw[e]at e1;cases e1;exact .inl e2;obtain⟨more,z2⟩:=un.kO b _ z;have e2:=hT b z1;rw[e]at e2;cases e2;exact .inr<|.inl {hC b z1,rfl,#[],more,rfl,by have:=UB b _ z2;exact this}
 have tabs:∀(H:Hp),(∀b,b∈ts->H b=some (.pT #[]))->∀b u,b∈ts->H b=some u->bt P w H a_.heap b u:=λH h b u hb e=>by rw[h b hb]at e;cases e;exact hT b hb
 cases hk:K.lookup a with|some o=>(have e:=KX a o hk;rw[ha]at e;cases e;refine core (λb=>if b∈ts then some (.pT #[]) else none) {λb=>?_,λb hb=>if_pos hb} (.inr {_,vs.toArray,_,hk,rfl,rfl,rfl,by rw[zp,YY];exact hl,by simpa using rv}) (λb u z=>?_) (λb z=>?_) λz=>absurd (if_neg V6) z;by_cases hb:b∈ts;exact .inr<|.inr {hb,if_pos hb};exact .inl<|if_neg hb;by_cases hb:b∈ts;exact tabs _ (λb hb=>if_pos hb) b u hb z;have z':=(if_neg hb).symm.trans z;cases z';by_cases hb:b∈ts;exact .inr hb;exact absurd (if_neg hb) z)|none=>refine core (λb=>if b=a then some (.kL {cls:=.type "list",data:=.seq vs.toArray}<|.lst<|ns.map V.int) else if b∈ts then some (.pT #[]) else none) {λb=>?_,λb hb=>?_} (.inl<|.inr {{cls:=.type "list",data:=.seq vs.toArray},if_pos rfl}) (λb u z=>?_) (λb z=>?_) λ_=>hk;by_cases hb:b=a;exact .inr<|.inl {_,_,if_pos hb};by_cases BC:b∈ts;exact .inr<|.inr {BC,(if_neg hb).trans<|if_pos BC};exact .inl<|(if_neg hb).trans<|if_neg BC;have:b≠a:=λz=>V6<|z ▸ hb;exact(if_neg this).trans<|if_pos hb;by_cases hb:b=a;have z':=(if_pos hb).symm.trans z;cases z';subst hb;exact{ha,by rw[zb];exact hl,vs,_,rv,ha};have z':=(if_neg hb).symm.trans z;by_cases BC:b∈ts;have z2:=(if_pos BC).symm.trans z';cases z2;exact hT b BC;have z2:=(if_neg BC).symm.trans z';cases z2;by_cases hb:b=a;exact .inl hb;by_cases BC:b∈ts;exact .inr BC;exact absurd ((if_neg hb).trans<|if_neg BC) z
theorem Dj:∀{K:Frag},b∉K.map (·.1)->K.lookup b=none|[],_=>rfl| (a,o)::K,h=>by rw[zx,zj,not_or]at h;rw[yf,show(b==a)=false from beq_false_of_ne h.1];exact Dj h.2
theorem Lu{K:Params->Frag}{as:List Addr}{e:∀P,as=(K P).map (·.1)}{ts:List Addr}{w:World}{h:Heap}(_:(PySem.W.kmHook K as e ts).says w h)(d:∀b∈ts,b∉as):∀b∈ts,(K w.params).lookup b=none:=λb hb=>Dj<|by rw[<-e];exact d b hb
theorem HM{l:PySem.W.OpenLaw}{n k:Nat}{q:Program}{loose:List Str}{XP:(Str->Option Value)->Heap->Prop}{YP:World->Heap->Prop}{d:DefRec}{K:Params->Frag}{CX:A1}{x:Str}{ts:List Addr} (hn:l.most=some n) (MJ:n<=sizeLine) (Xs:d.params.defaults=[]) (hr:bJ k callerA) (hY:∀(w:World)(h:Heap),YP w h->(K w.params).In h) (hT:∀(w:World)(h:Heap),YP w h->∀b∈ts,h.get? b=some (tabObj #[])) (hN:∀(w:World)(h:Heap),YP w h->∀b∈ts,(K w.params).lookup b=none) (F:∀(w:World)(mg:Str->Option Value)(fa:Addr)(h:Heap),(K w.params).In h->h.Ns mainGlobals mg->mg d.name=some (.ref fa)->∃(fd:FuncData)(sp:Sp),(∀b∈ts,∃c,codeHdIn (K w.params) c b=true)/\(∀(s:Shared)(u:Value),BindsTo s fd {[u],[]} [(x,u)])/\(∀base:Heap,Bm mg base->(K w.params).In base->base.Ns mainGlobals mg->bF l.prog w (K w.params) mg base CX k fa fd [x] sp)/\∀(H:Hp)(a:Addr)(ns:List Int),ns.length<=n->xP ts H->iW (K w.params) H a (ns.map V.int)->sp [.ref a] H (λv _=>v=.bl true) λ_ _ _=>False) (YX:∀(H:Hp)(s:Shared)(e:Value)(s':Shared),CX [] H s (λ_ _ _=>False) e s'->False): PySem.W.WalkO q loose XP YP l.row.toRowW d [] (λf vs=>PySem.call f vs):=by refine Att.xf hn Xs λw dm a_ mg mb fa o pm cd doc a vs ns G Y ho hd oo O0 O3 hints hlen hg=>?_;have KX:=hY w _ Y;obtain⟨fd,sp,hC,hb,hF,QZ⟩:=F w mg fa _ KX G.T.g O0;have hT':=hT w _ Y;exact EZ KX G.T.g G.T.b G.T.builtins G.T.nolimit G.T.bmain hg hT' (λb z=>by obtain⟨c,hc⟩:=hC b z;exact((codeHd_of_K KX hc).tab<|hT' b z).isCodeTable) (hN w _ Y) O3 hints (zH hlen MJ) hr hF hb (λH hO hS=>QZ H a ns hlen hO hS) λH e s'=>YX H a_ e s'
namespace Rt
theorem own:Manifest.owners.lookup (String.ofList ['d','e','s','r','e','v','e','r'].reverse)=some Manifest.sig_reversed:=by kernel_rfl
theorem lY:Slot "reversed" "__next__" "reversed.__next__":=.of (owner:="reversed") (n:="__next__") (by rw[typeLookup_type,builtinLookup_eq_fast];kernel_rfl) (by trivial) (by trivial) (by trivial) (by first|exact .inl (by trivial)|exact .inr (by trivial))<|by rw[isSubtype_type];kernel_rfl
theorem Dk:entryFor table "reversed.__next__"= some Builtin.«reversed.__next__»:=entryFor_of_tree<|by kernel_rfl
theorem Dm(a:Value):argsOk "reversed.__next__" {[a],[]}:=by unfold argsOk;rw[signature?_of (id:="reversed.__next__") (n:=['_','_','t','x','e','n','_','_']) (o:=['d','e','s','r','e','v','e','r']) (by kernel_rfl) own];kernel_rfl
theorem Dn:Slot "reversed" "__iter__" "reversed.__iter__":=.of (owner:="reversed") (n:="__iter__") (by rw[typeLookup_type,builtinLookup_eq_fast];kernel_rfl) (by trivial) (by trivial) (by trivial) (by first|exact .inl (by trivial)|exact .inr (by trivial))<|by rw[isSubtype_type];kernel_rfl
theorem Lv(a:Value):argsOk "reversed.__iter__" {[a],[]}:=by unfold argsOk;rw[signature?_of (id:="reversed.__iter__") (n:=['_','_','r','e','t','i','_','_']) (o:=['d','e','s','r','e','v','e','r']) (by kernel_rfl) own];kernel_rfl
theorem Lw:entryFor table "reversed.__iter__"= some Builtin.«dict_keyiterator.__iter__»:=entryFor_alias (id':="dict_keyiterator.__iter__") (by kernel_rfl) (by first|rfl|decide +kernel|(unfold String.splitOn;simp +decide [String.splitOnAux])) (by trivial)<|by kernel_rfl
theorem Lx:Slot "reversed" "__init__" "object.__init__":=.of (owner:="object") (n:="__init__") (by rw[typeLookup_type,builtinLookup_eq_fast];kernel_rfl) (by trivial) (by trivial) (by trivial) (by first|exact .inl (by trivial)|exact .inr (by trivial))<|by rw[isSubtype_type];kernel_rfl
theorem called:TypeCalled "reversed" "reversed.__new__" "object.__init__":={by trivial,by trivial,{_,_,F.mro_reversed},F.made_reversed,by trivial,by rw[isSubtype_type];kernel_rfl,Lx}
theorem PR:typeLookup (.type "tuple") "__reversed__"= pure none:=by rw[typeLookup_type,builtinLookup_eq_fast];kernel_rfl
theorem Dq:typeLookup (.type "tuple") "__getitem__"= pure (some<|.builtin "tuple.__getitem__"):=by rw[typeLookup_type,builtinLookup_eq_fast];kernel_rfl
theorem Lz:isSubtype (.type "tuple") (.type "dict")=pure false:=by rw[isSubtype_type];kernel_rfl
end Rt
noncomputable def xQ(l:Addr)(i:Int):Obj:={cls:=.type "reversed",data:=.fields #[.ref l,rawInt i]}
def qY(h:Heap)(a l:Addr)(i:Int):Prop:=∃o,h.get? a=some o/\o.cls=.type "reversed"/\o.data=.fields #[.ref l,rawInt i]
section
variable{prog:Program}{w:World}{A:Around}{E:Value->Shared->Prop}{s:Shared}
theorem qY.typeIs(x:qY s.heap a l i):s.TypeIs (.ref a) "reversed":=by obtain⟨o,ho,hc,_⟩:=x;exact⟨o,ho,hc⟩
theorem qY.keep(x:qY h a l i)(e:∀o,h.get? a=some o->h'.get? a=some o):qY h' a l i:=by obtain⟨o,ho,r⟩:=x;exact{o,e _ ho,r}
theorem PU(hl:IsTup s.heap l items)(hz:items.size<=sizeLine)(h:Q₁ (.ref s.heap.objs.size) {s with heap:=s.heap.push<|xQ l<|(items.size:Int)-1,toks:=s.toks+1+1}): codeAny (model prog w) A (.call (.builtin "reversed.__new__") {[.type "reversed",.ref l],[]}) (wants Q₁ E) s:=by
 refine codeAny_of_tree ?_;show wpAny _ A.in1 (do checkBuiltinCall "reversed.__new__" {[.type "reversed",.ref l],[]};again (.builtin "reversed.__new__" {[.type "reversed",.ref l],[]})) _ _ s;refine zc<|yX (F.newCall_reversed_1 _)<|zo {plainId_quiet F.plain_reversed_new _,yP F.entry_reversed_new ?_};rw[Around.under_plainId F.plain_reversed_new _];unfold Builtin.«reversed.__new__»;refine zc<|yX (newClass_reversed _) ?_;refine zc<|yX (a:=()) (by first|rfl|kernel_rfl)<|zc<|yX (a:=()) (by first|rfl|kernel_rfl) ?_;refine zc<|wpAny_specialOf hl.typeIs Rt.PR ?_;refine zc<|zc<|wpAny_isInstance hl.typeIs Rt.Lz<|zc<|wpAny_specialOf hl.typeIs Rt.Dq ?_;show wpAny _ _ (if (["tuple.__getitem__","str.__getitem__","bytes.__getitem__","bytearray.__getitem__","memoryview.__getitem__","numpy.ndarray.__getitem__","sqlite3.Row.__getitem__"]:List String).contains "tuple.__getitem__"= true then pure true else _) _ _ _;rw[if_pos<|by trivial];refine zo ?_
 show wpAny _ _ (do
     let nC <-call (Value.builtin "len") [Value.ref l]
     let __x <-asInt? nC
     match __x with
      |some n=>do
       let nC <-Builtin.SmallTypes.newRecord (Value.type "reversed") [Value.ref l,rawInt (n-1)]
       ret nC
      |x=>unsupported "internal:reversed.__new__") _ _ _
 refine zc<|len_tuple hl (by rw[yg]at hz;lia) ?_;refine zc<|yX (a:=some ((items.size:Nat):Int)) rfl ?_;exact zc (m:=newObj (.type "reversed")<|.fields #[.ref l,rawInt<|((items.size:Nat):Int)-1])<|yi<|zo h
theorem LA(hl:IsTup s.heap l items)(hz:items.size<=sizeLine)(h:Q (.ref s.heap.objs.size) {s with heap:=s.heap.push<|xQ l<|(items.size:Int)-1,toks:=s.toks+1+1}): wpAny (model prog w) A (call (.type "reversed") [.ref l]) Q E s:=by refine callType_codes Rt.called (F.typeCall_reversed_1 _) F.entry_object_init (Q₁:=λobj a_=>a_.TypeIs obj "reversed"/\Q obj a_) (PU hl hz {{_,zk _ rfl,rfl},h}) λobj a_ h₁=>?_;exact{h₁.1,F.args_object_init_2 obj _,object_init_meets Rt.called.init.lookup Rt.called.made (by decide) prog w A.in1 _ a_ ⟨h₁.1,rfl,h₁.2⟩}
theorem sqx(h:k<n):seqIndex? ((k:Nat):Int) n=some k:=by have e:(if ((k:Nat):Int)<0 then ((k:Nat):Int)+(n:Int) else ((k:Nat):Int))=((k:Nat):Int):=if_neg (by lia);unfold seqIndex?;dsimp only;rw[e,if_pos<|by simp;lia];rfl
theorem LB{it l:Addr}{i:Nat}{items:Array Value}{x:Value}{Q:Option Value->Shared->Prop}(hit:qY s.heap it l (i:Int))(hl:IsTup s.heap l items)(hz:items.size<=sizeLine)(hx:items[i]?=some x) (hQ:∀h' tk,qY h' it l ((i:Int)-1)->Heap.SameBut it s.heap h'->Q (some x) {s with heap:=h',toks:=tk}):wpAny (model prog w) A (pyNext<|.ref it) Q E s:=by obtain⟨o,ho,hc,hd⟩:=id hit;have hi:i<items.size:=(Array.getElem?_eq_some_iff.mp hx).1;unfold pyNext;refine zc<|wpAny_attempt<|wpAny_callSpecial?_slot (name:=Str.ofString "__next__") hit.typeIs Rt.lY<|yF Rt.lY hit.typeIs Rt.Dk ?_<|Rt.Dm _;unfold Builtin.«reversed.__next__»;refine zc<|yX (a:=(Value.ref it,[])) rfl<|zc<|zY ho hd (x:=.ref l) rfl<|zc<|zY ho hd (x:=rawInt (i:Int)) rfl ?_;show wpAny _ _ (if (i:Int)<0 then _ else _) _ _ s;rw[if_neg<|by lia];show wpAny _ _ (specialOf (.ref l) "__getitem__" >>=_) _ _ s;refine zc<|wpAny_specialOf hl.typeIs Rt.Dq ?_;show wpAny _ _ (mkInt (i:Int) >>=_) _ _ s;refine zc<|wpAny_mkInt ?_;refine zc<|wpAny_attempt<|getItem_tuple (j:=i) hl (by lia) (by rw[yg]at hz;lia) (sqx hi) hx ?_;refine zc<|zY ho hd (x:=rawInt (i:Int)) rfl ?_;show wpAny _ _ (setField (.ref it) 1 (rawInt<|(i:Int)-1) >>=λ_=>ret x) _ _ _;refine zc<|yR ho hd (by simp)<|zo {x,rfl,zo<|hQ _ _ ?_<|yC ..};exact{_,yy _ ho<|Obj.isFreed_of_fields<|yA hd _,(Obj.cls_mapFields ..).trans hc,by rw[yA hd];simp}
theorem PX(hh:A.handled=none)(hit:qY s.heap it l (-1))(hQ:∀h',Heap.ExtBut it s.heap h'->Q none {s with heap:=h'}):wpAny (model prog w) A (pyNext<|.ref it) Q E s:=by
 obtain⟨o,ho,hc,hd⟩:=id hit;unfold pyNext;refine zc<|wpAny_attempt<|wpAny_callSpecial?_slot (name:=Str.ofString "__next__") hit.typeIs Rt.lY<|yF Rt.lY hit.typeIs Rt.Dk ?_<|Rt.Dm _;unfold Builtin.«reversed.__next__»;refine zc<|yX (a:=(Value.ref it,[])) rfl<|zc<|zY ho hd (x:=.ref l) rfl<|zc<|zY ho hd (x:=rawInt (-1)) rfl ?_;show wpAny _ _ (if (-1:Int)<0 then _ else _) _ _ s;rw[if_pos<|by decide];refine zc<|yW ?_;have hd1:=yA hd (·.setIfInBounds 1 (rawInt (-1)));have Rm:=yy (Obj.mapFields (·.setIfInBounds 1 (rawInt (-1)))) ho<|Obj.isFreed_of_fields hd1;refine zc (m:=setField (.ref it) 1 (rawInt (-1)) >>=λ_=>setField (.ref it) 0 .none)<|zc<|yR ho hd (by simp)<|yR Rm hd1 (by simp) ?_;have eb:Heap.ExtBut it s.heap ((s.heap.update it (Obj.mapFields (·.setIfInBounds 1 (rawInt (-1))))).update it (Obj.mapFields (·.setIfInBounds 0 Value.none))):=λb u hb e=>by rw[yu _ _<|Ne.symm hb,yu _ _<|Ne.symm hb];exact e
 refine zc ?_;show wpAny _ _ (newExc (.type "StopIteration") [] >>=_) _ _ _;refine zc ?_;simp only[newExc,newTuple];refine zc<|yi ?_ (by size_fits);refine zc (m:=firstArgMember _ _)<|yX (a:=Value.none) (by first|rfl|(simp only[firstArgMember];rfl)) ?_;refine yi ?_ (by size_fits);simp only[raiseNew];refine zc<|wpAny_handled ?_;first|rw[show A.in1.handled=none from hh]|rw[hh]
 refine zc<|zo<|wpAny_throw ?_;refine zc<|wpAny_isInstance (T:="StopIteration") (b:=true) {_,zk _ rfl,rfl} isSubtype_stop ?_;exact zo<|hQ _<|(eb.push _).push _
theorem Ds(hit:qY s.heap it l i)(h:Q (.ref it) s):wpAny (model prog w) A (pyIter<|.ref it) Q E s:=by refine wpAny_pyIter_slot hit.typeIs Rt.Dn<|yF Rt.Dn hit.typeIs Rt.Lw ?_<|Rt.Lv _;show wpAny _ _ (ret<|.ref it) _ _ s;exact zo !{"reversed",_,hit.typeIs,Rt.lY.lookup,h}
end
end L2
namespace L2
open PySem PySem.Spec PyProof.Rows
def UC(K:Frag)(a:Addr)(n:Nat):It:={λi H=>∃xs x,iw K H a xs/\xs.length=n/\i<n/\xs[n-1-i]?=some x,λi H x H'=>H'=H/\∀xs,iw K H a xs->xs.length=n->xs[n-1-i]?=some x,λi _=>n<=i}
theorem LC{P:Program}{w:World}{K:Frag}{tg:Expr}(a it:Addr)(n:Nat):Turn P w K tg (UC K a n) [it] it (λi h=>i<=n/\qY h it a ((n:Int)-1-(i:Int))) where
 mem:=by simp
 obj:=λi h st b hb=>by
  have e:b=it:=by simpa using hb
  subst e
  obtain⟨_,o,e,c,d⟩:=st
  exact{o,e,λv z=>by rw[d]at z;cases z}
 keep:=λi h h' st k=>{st.1,st.2.keep λo e=>k it (by simp) o e}
 item:=by
  intro X hP hw hK hc i pins s σ H E I hf st hg
  subst hP hw hK
  obtain⟨xs,x,hq,hn,hi,hx⟩:=hg
  obtain⟨az,rv,p,hz⟩:=I.tuple hq
  obtain⟨u,hu,ru⟩:=rv.get hx
  obtain⟨f0,f1,f2,f3,f4,f5⟩:=hf it<|by simp
  have e:(n:Int)-1-(i:Int)=((n-1-i:Nat):Int):=by lia
  have hit:=st.2
  rw[e]at hit
  refine LB hit p (by rw[zp,<-rv.length];exact hz) (x:=u) (by simpa using hu) λh' tk eK sb=>?_
  have I1:Inv X pins σ H {s with heap:=h',toks:=tk}:=I.turned (t':=tk) (λb o hb e=>(sb.2 b hb).trans e) f0 f1 f3 f4 f5
  obtain⟨o,e1,c,d⟩:=id eK
  refine{u,rfl,t6 (s:={s with heap:=h',toks:=tk}) e1 c d (by decide) {x,H,I1,ru,{rfl,λys hy _=>by rw[I.m6 hy hq];exact hx},{hi,?_},λb hb=>(hf b hb).1}}
  have e2:(n:Int)-1-((i+1:Nat):Int)=((n-1-i:Nat):Int)-1:=by lia
  rw[e2];exact eK
 done:=by
  intro X hP hw hK hc i pins s σ H E I hf st hg
  subst hP hw hK
  obtain⟨f0,f1,f2,f3,f4,f5⟩:=hf it<|by simp
  have hg:n<=i:=hg
  have e:(n:Int)-1-(i:Int) = -1:=by have:=st.1;lia
  have hit:=st.2
  rw[e]at hit
  exact PX (I.ok.hd hc) hit λh' eb=>{rfl,I.turned (t':=s.toks) (λb o hb e=>eb b o hb e) f0 f1 f3 f4 f5}
 self:=λ_ _ _ _ _ st h=>Ds st.2 h
def iRt(K:Frag)(ta:TA):TI:=λσ H R=>ta σ H λvs H1=>∃a xs,vs=[.ref a]/\iw K H1 a xs/\R (UC K a xs.length) H1
theorem UD{X:Cx}{tg a:Expr}{ta:TA}{p pos:Pos}(hg:Gl X "reversed")(hm:X.mg "reversed"= none)(ha:PA X [a] ta)(hs:starEach [a] X.env=[(false,eval a X.env)]):PI X tg (.Call (.Name "reversed" p) [a] [] pos) (iRt X.K ta):=by
 intro pins s σ H R I h;refine Call_<|gk I hg hm boot_reversed<|PyProof.Rows.callWith_type1 (bw (ha pos pins s σ H _ I h) λus s1 ⟨vs,H1,I1,r1,q1⟩=>?_) hs rfl;obtain⟨l,xs,e,q,hR⟩:=q1;subst e;obtain⟨u,rfl,ru⟩:=vals1 r1;cases ru;obtain⟨az,rv,pl,hz⟩:=I1.tuple q;have hn:az.toArray.size=xs.length:=by rw[zp,rv.length]
 refine LA pl (by rw[hn];exact hz) ?_;rw[hn];have st:qY (s1.heap.push<|xQ l<|(xs.length:Int)-1) s1.heap.objs.size l ((xs.length:Int)-1-((0:Nat):Int)):={_,zk _ rfl,rfl,by show Data.fields _=Data.fields _;simp};have I2:Inv X pins σ H1 {s1 with heap:=s1.heap.push<|xQ l<|(xs.length:Int)-1,toks:=s1.toks+1+1}:=I1.kept (t':=s1.toks+1+1) λb o e=>za _ e;refine Ds (s:={s1 with heap:=s1.heap.push<|xQ l<|(xs.length:Int)-1,toks:=s1.toks+1+1}) st {_,_,_,_,H1,rfl,I2,LC l s1.heap.objs.size xs.length,{zV _,st},λb hb=>?_,hR};have hb:b=s1.heap.objs.size:=by simpa using hb
 subst hb;exact I1.pj (zr _)<|I1.aJ.fresh<|zr _
section
variable{K:Frag}{X:Cx}{tg:Expr}
def YZ(t:gX):AH:=λσ S R Z=>t σ S (λds S1=>∃es,ds=[.tup es]/\R {es.reverse,λ_=>True} S1) Z
theorem irt{t:gX}(hm:X.mg "reversed"= none)(ha:DA K X [a] t)(hg:autoParam (Gl X "reversed") qQJ)(hs:autoParam (starEach [a] X.env=[(false,eval a X.env)]) qQJ)(hK:autoParam (X.K=K) qQJ):DI K X tg (.Call (.Name "reversed" p) [a] [] pos) (YZ t):=by subst hK;exact⟨λy=>(UD (X:=y.cx) hg hm (ha.of y) hs).mono <| by rintro τ H R ⟨σ,S,RI,Z,aA,hS,q,hR,hZ⟩;exact{σ,S,_,Z,aA,hS,q,by rintro ds S1 vs H1 ⟨es,e,r1⟩ v1 s1 k1;subst e;obtain⟨v,rfl,r⟩:=v1.one;obtain⟨a,xs,rfl,hq,t⟩:=r.tup;refine{a,xs,rfl,.inl<|.of hq,hR _ S1 _ H1 r1 (λi S2 H2 k2 s2 V3=>?_) s1 k1};have Ri:iw X.K H2 a xs:=.inl<|.of<|k2.t _ _ hq;have t2:=RvAll.ts k2 _ t;have hl:xs.length=es.length:=t.len;refine{λd hd=>?_,λh=>by rw[yD]at h;show xs.length<=i;lia};have hi:i<es.length:=(by have:=(ze.mp hd).1;rwa [yD]at this);rw[List.getElem?_reverse hi]at hd;obtain⟨v,e1,r⟩:=t2.get hd;rw[hl];refine{⟨xs,v,Ri,hl,hi,e1⟩,λx' H' ⟨e2,e3⟩=>?_};subst e2;have:=e3 xs Ri hl;rw[e1]at this;cases this;exact{r,.refl _,s2},hZ}⟩
end
section
variable{K:Frag}{X:Cx}{pos:Pos}
def PY(tc:lT)(tb:lI):lI:=λDe σ S Z=>∃P:Nat->SD->aw->Prop,(∃m,P m σ S)/\∀m σ S,P m σ S->tc σ S (λb S1=>if b=true then tb {De with nx:=λaB S'=>∃m',m'<m/\P m' aB S',ct:=λaB S'=>∃m',m'<m/\P m' aB S',bk:=De.nx} σ S1 Z else De.nx σ S1) (Z σ)
theorem Y0(hc:DT K X c tc)(hb:Gf K X true body tb):DS K X true (.While c body [] pos) (PY tc tb):=
 ⟨λy=>(Gx (X:=y.cx) (y.ok.loop rfl) (hc.of y)<|hb.of y).mono <| by rintro D τ H ⟨σ,S,De,Z,aA,hS,⟨P,⟨m,p0⟩,turn⟩,hD,hZ⟩;exact
  ⟨λm Rb H'=>∃σ S,hG K H' σ Rb/\Rs K S H'/\P m σ S/\Kp K H H',⟨m,σ,S,aA,hS,p0,.refl _⟩,by rintro m Ys H1 ⟨wM,S1,a1,s1,p1,k1⟩;exact⟨wM,S1,_,Z wM,a1,s1,turn m wM S1 p1,λb S2 H2 r2 s2 k2=>by
   cases b with
   |true =>
    rw[if_pos rfl]at r2⊢
    refine{λτ3 H3=>∃σ S,hG K H3 σ τ3/\Rs K S H3/\(∃m',m'<m/\P m' σ S)/\Kp K H H3,by rintro τ3 H3 ⟨fM,S3,a3,s3,⟨m',hm,p3⟩,k3⟩;exact⟨m',hm,fM,S3,a3,s3,p3,k3⟩,?_}
    have kk:=k1.trans k2
    exact{wM,S2,_,Z,a1.ts k2,s2,r2,{λPB S5 YB H5 r5 a5 s5 k5=>{PB,S5,a5,s5,r5,kk.trans k5},hD.rt.kp kk,hD.nx.kp kk,λPB S5 YB H5 r5 a5 s5 k5=>{PB,S5,a5,s5,r5,kk.trans k5}},hZ.kp kk}
   |false =>
    rw[if_neg zd]at r2⊢
    exact hD.nx _ _ _ _ r2 (a1.ts k2) s2<|k1.trans k2,(hZ.kp k1).at a1⟩⟩⟩
def Y1(i:Nat)(te:TD):lI:=λDe σ S Z=>∃a:Int,σ[i]?=some (some<|.int a)/\te σ S (λd S1=>∃b:Int,d=.int b/\De.nx (σ.set i<|some<|.int<|a+b) S1) (Z σ)
theorem sau(hN:X.N.Nodup)(he:DE K X e te)(hi:autoParam (X.N[i]?=some x) qQJ)(hx:autoParam (Loc X.env.scope x) qQ8)(hf:autoParam (X.fn x=true\/X.env.scope.names.lookup x=some .local) qQ8): DS K X b (.AugAssign (.Name x pos') .Add e pos) (Y1 i te):=⟨λy=>(Oh (X:=y.cx) hN hi hx (he.of y) Oi hf).mono <| by rintro D τ H ⟨σ,S,De,Z,aA,hS,⟨a,ha,t⟩,hD,hZ⟩;obtain⟨v,e1,r⟩:=aA.get ha;exact{v,e1,σ,S,_,Z σ,aA,hS,t,by rintro d S1 u H1 ⟨c,e2,n⟩ rv s1 k1;subst e2;exact{a,c,r.int,rv.int,hD.nx _ _ _ _ n ((aA.ts k1).set i<|aN _) s1 k1},hZ.at aA}⟩
noncomputable def vD:V->D|.int i=>.int i|.str z=>.str z|.bl b=>.bl b|_=>.av
noncomputable def HN:V->Bool|.int _=>true|.str _=>true|_=>false
def UE(kvs:List<|Str×V)(ty:TD):TD:=λσ S R Z=>ty σ S (λy S1=>∃z,y=.str z/\R ((kvs.lookup z).elim .av vD) S1) Z
theorem mgk{w:World}{ad:Addr}{kvs:List<|Str×V}{o e:Expr}{apos aL:Pos}{ty:TD}(d:JH w K ad kvs)(hf:(kvs.all λp=>HN p.2)=true)(ho:∀Y:Cx,Y.env=X.env->Y.mg=X.mg->PE Y o (tC<|.ref ad))(he:DE K X e ty)(hw:autoParam (X.w=w) qQJ)(hK:autoParam (X.K=K) qQJ)(m:autoParam (M1 X o "get" apos e aL) qQ4): DE K X (.Call (.Attribute o "get" apos) [e] [] aL) (UE kvs ty):=⟨λy=>(He (X:=y.cx) hw hK (ho y.cx rfl rfl) (he.of y) ⟨m.base,m.F8,m.line,m.trees⟩).mono <| by rintro τ H Q ⟨σ,S,R,Z,aA,hS,q,hR,hZ⟩;exact⟨ad,kvs,rfl,d,σ,S,_,Z,aA,hS,q,by
 rintro yv S1 v H1 ⟨z,e1,r⟩ rv s1 k1;subst e1;refine{z,rv.str,hR _ _ _ _ r ?_ s1 k1};have fl:∀v,kvs.lookup z=some v->HN v=true:=λv hv=>by have:=yk hv;exact ya.mp hf _ this
 cases q:kvs.lookup z with|none=>exact fe|some v=>have:=fl v q;cases v with|int i=>exact aN i|str i=>exact i7 i|_=>(cases this),hZ⟩⟩
def UG:R2:=λx y H Q=>∃a z n,x=.ref a/\y=.int n/\H a=some (.lst [z])/\0<=n/\n<=1000/\∀p,H p=none->Q (.ref p) (upd H p<|.lst<|List.replicate n.toNat z)
theorem LD:gW X (binaryOp .Mult) UG:=by intro pins s σ H x y v u Q I rx ry h;obtain⟨a,z,n,rfl,rfl,ha,h1,h2,q⟩:=h;cases rx;obtain⟨t',rfl⟩:=ry;obtain⟨z2,sS,k,r2,hl,ho⟩:=I.xb ha;obtain⟨w,rfl,m7⟩:=r2.one;refine wpAny_binaryOp_repeat_ref (T:="list") (U:="int") (by decide) {_,ho,rfl} (λs'=>typeIs_int s' n t') noFill_list_mul F.fills_int_mul F.slot_int_rmul repeat_list F.slot_int_index.lookup<|call_meets F.slot_int_rmul (typeIs_int s n t') F.entry_int_rmul (F.args_int_rmul_2 _ _) (int___rmul___int_list n t' a [w].toArray k) {ho,rfl,{_,ho,rfl},?_};refine call_meets F.slot_list_mul {_,ho,rfl} F.entry_list_mul (F.args_list_mul_2 _ _) (AutoListH.list___mul___list_int_3 a [w].toArray k n t' (by simp[Builtin.List.listFitsIndex];lia) (by simp;lia)<|by simp[Builtin.List.listTooLong,sizeLine];lia) {ho,?_};rw[if_neg<|by simp,show(#[]:Array Value)=([]:List Value).toArray from rfl,show[w].toArray=#[w] from rfl,CZ,List.nil_append];refine{.ref s.heap.objs.size,_,I.laid (t':=s.toks) (λ_ _ q=>za _ q) (zr _) ?_,rfl,q _ I.fresh};exact(show bt X.prog X.w _ _ _ (.lst<|List.replicate n.toNat z) from{by rw[List.length_replicate];exact XW<|by lia,_,_,xu m7 _,zk _ rfl})
end
section
variable{K:Frag}
def UH:ur:=λx y S R=>∃a d n,x=.ref a/\y=.int n/\S a=some (.lst [d])/\0<=n/\n<=1000/\∀p,S p=none->R (.ref p) (S.set p<|.lst<|List.replicate n.toNat d)
theorem PZ:oA K (binaryOp .Mult) UH:=by rintro X hK hu pins s σ H x y v u Q I rx ry ⟨d,e,S,R,r1,r2,hS,⟨a,d0,n,e1,e2,e3,h1,h2,h⟩,hR⟩;subst e1 e2;obtain⟨zs,e4,t⟩:=hS.lst e3;obtain⟨z,rfl,rz⟩:=t.one;exact LD pins s σ H _ _ v u Q I rx ry {a,z,n,r1.ref,r2.int,e4,h1,h2,λp hp=>hR.new hS hp (h p)<|Hu rz _}
end
theorem gK(hm:X.mg x=some (.ref a))(hg:autoParam (Gl X x) qQJ)(hd:autoParam ((x==("__debug__": Str))=false) qQZ):∀Y:Cx,Y.env=X.env->Y.mg=X.mg->PE Y (.Name x pos) (tC<|.ref a):=λY e1 e2=>CI (X:=Y) (u:=.ref a) (show Y.env.kindOf x=_ by rw[e1];exact hg) (by rw[e2];exact hm) rfl hd
structure Fb(K:Frag)(x q:Str)(st:Stmt)(ps:List Str)(f:Addr)(d:FuncData):Prop where
 F:vj K x q st f d
 b:Binds K d ps []
structure HP(K:Frag)(mg:Str->Option Value)(x:Str)(st:Stmt)(ps:List Str)(f:Addr)(d:FuncData):Prop extends Fb K x x st ps f d where
 k:keepIn K (.ref f)=true
 m:mg x=some (.ref f)
structure Nl(K:Frag)(c:Addr)(x q:Str)(st:Stmt)(ps:List Str)(f:Addr)(d:FuncData):Prop extends Fb K x q st ps f d where
 e:Meth K c x f
abbrev Ok(P:Program)(w:World)(base:Heap){K:Frag}{mg:Str->Option Value}{x:Str}{st:Stmt}{ps:List Str}{f:Addr}{d:FuncData}(_:HP K mg x st ps f d)(k:Nat)(sp:ja):Prop:=bF P w K mg base (fc P w mg) k f d ps<|mV K sp
abbrev AJ(P:Program)(w:World)(mg:Str->Option Value)(base:Heap){K:Frag}{c:Addr}{x q:Str}{st:Stmt}{ps:List Str}{f:Addr}{d:FuncData}(_:Nl K c x q st ps f d)(k:Nat)(sp:ja):Prop:=bF P w K mg base (fc P w mg) k f d ps<|mV K sp
theorem fsc{N P:List Str}{sc:Scope}(a:autoParam (sc.kind=.function/\sc.isCoroutine=false/\sc.isGenerator=false/\N.take P.length=P) qQ4)(b:autoParam (N.Nodup/\(∀x∈P,sc.names.lookup x=some .local\/sc.names.lookup x=some .cell)/\∀y∈sc.names,y.2≠.free) qJ5):fQ N P sc:=⟨a.1,a.2.1,a.2.2.1,b.1,a.2.2.2,b.2.1,b.2.2⟩
section
variable{R:Prop}{K:Frag}{h:Heap}{mg:Str->Option Value}{od an:Option Addr}{sl:Array (Option Value)}{oc dV kV dc pm cd ct:Value}{f da:Addr}{HQ:Option Addr}{dn:Nat}{HR:Array (Option Value)}{c:Addr}{tk:Tok}{d:FuncData}
theorem fn1(X:K.In h)(G:h.Ns mainGlobals mg)(x:Str)(st:Stmt)(ps:List Str)(a:nsIn K mainGlobals x=some (some<|.ref f))(l:K.lookup f=some {oc,od,.func<|fnOf x x (bp st) (ba st) (ae st) dV kV dc pm an cd ct,sl}) (e:codeIn K cd x=true) (k:keepIn K (.ref f)=true) (b:∀us:List Value,us.length=ps.length->bindArgs (fnOf x x (bp st) (ba st) (ae st) dV kV dc pm an cd ct) {us,[]}=pure (ps.zip us)) (g:∀d,HP K mg x st ps f d->R):R:=g _ {{{_,_,_,_,_,_,_,_,_,_,rfl,l,e},.all b},k,mg_of X G a}
theorem Y2(X:K.In h)(G:h.Ns mainGlobals mg)(x:Str)(st:Stmt)(ps:List Str)(a:nsIn K mainGlobals x=some (some<|.ref f))(l:K.lookup f=some {oc,od,.func<|fnOf x x (bp st) (ba st) (ae st) dV kV dc pm an cd ct,sl}) (e:codeIn K cd x=true) (k:keepIn K (.ref f)=true) (b:∀us:List Value,us.length=ps.length->bindArgs (fnOf x x (bp st) (ba st) (ae st) dV kV dc pm an cd ct) {us,[]}=pure (ps.zip us)) (g:∀d,d.code=cd->(∀(s:Shared)(us:List Value),us.length=ps.length->BindsTo s d {us,[]} (ps.zip us))->HP K mg x st ps f d->R):R:=g _ rfl (λs us h=>.of_eq<|b us h) {{{_,_,_,_,_,_,_,_,_,_,rfl,l,e},.all b},k,mg_of X G a}
theorem fm1(C:qx K c)(x q:Str)(st:Stmt)(ps:List Str)(a:findIn K (.ref c) x=some (some<|.ref f))(i:isFn K (.ref f)=true)(l:K.lookup f=some {oc,od,.func<|fnOf x q (bp st) (ba st) (ae st) dV kV dc pm an cd ct,sl}) (e:codeIn K cd q=true) (k:keepIn K (.ref f)=true) (b:∀us:List Value,us.length=ps.length->bindArgs (fnOf x q (bp st) (ba st) (ae st) dV kV dc pm an cd ct) {us,[]}=pure (ps.zip us)) (g:∀d,Nl K c x q st ps f d->R):R:=g _ {{{_,_,_,_,_,_,_,_,_,_,rfl,l,e},.all b},a,i,k}
theorem fmd(C:qx K c)(x q:Str)(st:Stmt)(ps:List Str)(a:findIn K (.ref c) x=some (some<|.ref f))(i:isFn K (.ref f)=true)(l:K.lookup f=some {oc,od,.func<|fnOf x q (bp st) (ba st) (ae st) (.ref da) kV dc pm an cd ct,sl}) (t:K.lookup da=some {.type "tuple",HQ,.seq #[.none] dn,HR}) (e:codeIn K cd q=true) (k:keepIn K (.ref f)=true) (b:∀(s:Shared) (us:List Value),s.heap.get? da=some {.type "tuple",HQ,.seq #[.none] dn,HR}->us.length=ps.length->BindsTo s (fnOf x q (bp st) (ba st) (ae st) (.ref da) kV dc pm an cd ct) {us,[]} (ps.zip us)) (b2:∀(s:Shared) (us:List Value),s.heap.get? da=some {.type "tuple",HQ,.seq #[.none] dn,HR}->us.length+1=ps.length->BindsTo s (fnOf x q (bp st) (ba st) (ae st) (.ref da) kV dc pm an cd ct) {us,[]} (ps.zip<|us++[.none])) (g:∀d,Nl K c x q st ps f d->Binds K d ps [.none]->R):R:=g _ {{{_,_,_,_,_,_,_,_,_,_,rfl,l,e},λs us hK hl=>by rw[List.append_nil]at hl⊢;exact b s us (hK _ _ t) hl},a,i,k} λs us hK hl=>b2 s us (hK _ _ t)<|by simpa using hl
theorem wR(X:K.In h)(G:h.Ns mainGlobals mg)(x:Str)(a:nsIn K mainGlobals x=some none)(g:mg x=none->R):R:=g<|PySem.W.mg_none_of X G a
theorem LF(X:K.In h)(G:h.Ns mainGlobals mg)(x:Str)(i:Int)(a:nsIn K mainGlobals x=some (some<|.int i tk))(g:mg x=some (.int i tk)->R):R:=g<|mg_of X G a
theorem UI(X:K.In h)(G:h.Ns mainGlobals mg)(x:Str)(a:nsIn K mainGlobals x=some (some<|.ref c))(l:K.lookup c=some o)(g:mg x=some (.ref c)->K.lookup c=some o->R):R:=g (mg_of X G a) l
theorem LG(X:K.In h)(G:h.Ns mainGlobals mg)(x:Str)(a:nsIn K mainGlobals x=some (some<|.ref c))(e:excIn K c L2.nq "ValueError.__new__"= true)(g:mg x=some (.ref c)->excIn K c L2.nq "ValueError.__new__"= true->R):R:=g (mg_of X G a) e
theorem gvc(X:K.In h)(G:h.Ns mainGlobals mg)(x:Str)(a:nsIn K mainGlobals x=some (some<|.ref c))(pg:plainGet K c Str.empty=true)(hd:hasDictIn K c=true)(po:plainOver K c=true)(sa:findIn K (.ref c) "__setattr__"= some (some<|.builtin "object.__setattr__"))(ms:makesIn K c=true)(kc:keepIn K (.ref c)=true) (g:mg x=some (.ref c)->qx K c->makesIn K c=true->keepIn K (.ref c)=true->R):R:=g (mg_of X G a) ⟨pg,hd,po,sa⟩ ms kc
theorem Y3(C:qx K c)(x:Str)(a:findIn K (.ref c) x=some none)(g:findIn K (.ref c) x=some none->R):R:=g a
theorem P0{P:Addr}(l:K.lookup c=some o)(e:codeHdIn [(c,o)] c P=true):codeHdIn K c P=true:=by unfold codeHdIn at e⊢;rw[l];rw[show([(c,o)]:Frag).lookup c=some o by simp]at e;exact e
theorem gvm{P:Addr}(X:K.In h)(e:d.code=.ref c)(o:K.lookup c=some {oC,od,.fields vC,sl})(q:vC[11]?=some (.ref P))(hh:codeHdIn [(c,{oC,od,.fields vC,sl})] c P=true)(g:codeHdIn K c P=true->R):R:=g<|P0 o hh
end
section
variable{Q:List Value->Prop}
theorem Y4(h:Q [])(us:List Value)(e:us.length=0):Q us:=by cases us with|nil=>exact h|cons a us=>cases e
theorem E1(h:∀a us,us.length=n->Q (a::us))(us:List Value)(e:us.length=n+1):Q us:=by cases us with|nil=>(cases e)|cons a us=>exact h a us<|Nat.succ.inj e
theorem UJ(h:∀a,Q [a]):∀us:List Value,us.length=1->Q us:=E1 λa=>Y4<|h a
theorem ln2(h:∀a b,Q [a,b]):∀us:List Value,us.length=2->Q us:=E1 λa=>UJ<|h a
theorem UK(h:∀a b c,Q [a,b,c]):∀us:List Value,us.length=3->Q us:=E1 λa=>ln2<|h a
theorem Wj(h:∀a b c d,Q [a,b,c,d]):∀us:List Value,us.length=4->Q us:=E1 λa=>UK<|h a
theorem Wk(h:∀a b c d e,Q [a,b,c,d,e]):∀us:List Value,us.length=5->Q us:=E1 λa=>Wj<|h a
theorem Wl(h:∀a b c d e f,Q [a,b,c,d,e,f]):∀us:List Value,us.length=6->Q us:=E1 λa=>Wk<|h a
theorem Y5(h:∀a,Q [a])(us:List Value)(e:us.length+1=2):Q us:=UJ h us<|Nat.succ.inj e
theorem Y6(h:∀a b,Q [a,b])(us:List Value)(e:us.length+1=3):Q us:=ln2 h us<|Nat.succ.inj e
theorem UL(h:∀a b c d e,Q [a,b,c,d,e])(us:List Value)(e:us.length+1=6):Q us:=Wk h us<|Nat.succ.inj e
end
section
variable{K:Frag}{X:Cx}{x:Str}{st:Stmt}{ps:List Str}{f:Addr}{fd:FuncData}{sp:ja}{e:Expr}{es:List Expr}{p pos:Pos}
theorem aY{t:gX}(T:HP K X.mg x st ps f fd)(F:bF X.prog X.w K X.mg X.base (fc X.prog X.w X.mg) k f fd ps<|mV K sp)(hr:bJ k' X.A)(ha:DA K X (e::es) t)(hle:autoParam (k<=k') qJX) (hg:autoParam (Gl X x) qQJ) (lN:autoParam ((x==("__debug__": Str))=false) qQZ) (he:autoParam (starEach (e::es) X.env=(false,eval e X.env)::starEach es X.env) qQJ) (cP:autoParam ((backTo pos<|starEach es X.env).any (·.1)=false) qQJ) (hK:autoParam (X.K=K) qQJ): DE K X (.Call (.Name x p) (e::es) [] pos) (M4 sp [] t):=cf (F.mono hle) hr T.m T.k T.b d0 ha hg lN he cP hK
end
theorem bJ.u(r:bJ k A):A.units+64<cLine:=r.units
end L2
namespace L2
open PySem PySem.Spec PyProof.Rows PySem.SeqAt
def isStrOf(z:Str):Value->Bool|.str y _=>y==z|_=>false
end L2
namespace L2
open PySem PySem.Spec PyProof.Rows
section
variable{K:Frag}
theorem RvAll.thr(h:RvAll K H [a,b,c] vs):∃x y z,vs=[x,y,z]/\Rv K H a x/\Rv K H b y/\Rv K H c z:=by obtain⟨x,vs1,rfl,h1,h⟩:=h.cons;obtain⟨y,vs2,rfl,h2,h⟩:=h.cons;obtain⟨z,vs3,rfl,h3,h⟩:=h.cons;rw[h.nil];exact⟨x,y,z,rfl,h1,h2,h3⟩
theorem HS:bootBuiltins "max"= some (.builtin "max"):=by with_unfolding_all rfl
noncomputable def jc:List D->List D->List D->List D|x::xs,y::ys,z::zs=>.tup [x,y,z]::jc xs ys zs|_,_,_=>[]
theorem nD:∀{xs ys zs:List D},xs.length=ys.length->xs.length=zs.length->(jc xs ys zs).length=xs.length|[],_,_,_,_=>by rw[jc.eq_def]|x::xs,y::ys,z::zs,h,k=>congrArg Nat.succ<|nD (Nat.succ.inj h)<|Nat.succ.inj k
theorem nE:∀{xs ys zs:List D}{i:Nat}{d:D},(jc xs ys zs)[i]?=some d->∃x y z,xs[i]?=some x/\ys[i]?=some y/\zs[i]?=some z/\d=.tup [x,y,z]|x::xs,y::ys,z::zs,0,d,h=>{x,y,z,rfl,rfl,rfl,(zT h).symm}|x::xs,y::ys,z::zs,i+1,d,h=>nE (i:=i) h|[],_,_,i,d,h=>by rw[jc.eq_def]at h;simp at h|_::_,[],_,i,d,h=>by rw[jc.eq_def]at h;simp at h|_::_,_::_,[],i,d,h=>by rw[jc.eq_def]at h;simp at h
def P1(t:gX):AH:=λσ S R Z=>t σ S (λds S1=>∃xs ys zs,ds=[.tup xs,.tup ys,.tup zs]/\xs.length=ys.length/\xs.length=zs.length/\R {jc xs ys zs,λ_=>True} S1) Z
end
mutual
inductive Dr (S:aw):D->PyData->Prop where
 |av:Dr S .av .none
 |bl (b:Bool):Dr S (.bl b) (.bool b)
 |int (i:Int):Dr S (.int i) (.int i)
 |str (z:Str):Dr S (.str z) (.str z)
 |tup {ds:List D}{ps:List PyData} : HU S ds ps->Dr S (.tup ds) (.tuple ps)
 |ref {a:Addr}{ds:List D}{ps:List PyData} : S a=some (.lst ds)->HU S ds ps->Dr S (.ref a) (.list ps)
inductive HU (S:aw):List D->List PyData->Prop where
 |nil:HU S [] []
 |cons {d:D}{ds:List D}{p:PyData}{ps:List PyData} : Dr S d p->HU S ds ps->HU S (d::ds) (p::ps)
end
section
variable{K:Frag}{H:Hp}{S:aw}
mutual
theorem Dr.dt(hS:Rs K S H):Dr S d p->Rv K H d v->Dt K H p v|.av,r=>by simp only[Dt];exact r.av|.bl b,r=>by simp only[Dt];exact r.bl|.int b,r=>by simp only[Dt];exact r.int|.str b,r=>by simp only[Dt];exact r.str|.tup h,r=>(by obtain⟨a,xs,rfl,q,t⟩:=r.tup;simp only[Dt];exact{a,xs,rfl,.of q,HU.dt hS h t})|.ref e h,r=>by obtain⟨xs,e1,t⟩:=hS.lst e;rw[r.ref];simp only[Dt];exact{_,xs,rfl,.of e1,HU.dt hS h t}
theorem HU.dt(hS:Rs K S H){ds:List D}{ps:List PyData}{vs:List V} : HU S ds ps->RvAll K H ds vs->DtAll K H ps vs|.nil,r=>by rw[r.nil];simp only[DtAll]|.cons h t,r=>by obtain⟨y,ys,rfl,r1,r2⟩:=r.cons;simp only[DtAll];exact{y,ys,rfl,Dr.dt hS h r1,HU.dt hS t r2}
end
end
def Wm(neg:Bool):ur:=λx y S R=>∃p q,Dr S x p/\Dr S y q/\p.canLay0=true/\q.canLay0=true/\(p.depth<=64\/q.depth<=64)/\R (.bl<|if neg then !PyData.eqv p q else PyData.eqv p q) S
section
variable{K:Frag}
theorem Nm:oA K (compareOp .Eq) (Wm false):=by rintro X hK hu pins s σ H x y v u Q I rx ry ⟨d,e,S,R,r1,r2,hS,⟨p,q,h1,h2,c1,c2,dp,h⟩,hR⟩;subst hK;exact G9 hu pins s σ H x y v u Q I rx ry {p,q,h1.dt hS r1,h2.dt hS r2,c1,c2,dp,hR.now hS h<|bW _}
theorem HV:oA K (compareOp .NotEq) (Wm true):=by rintro X hK hu pins s σ H x y v u Q I rx ry ⟨d,e,S,R,r1,r2,hS,⟨p,q,h1,h2,c1,c2,dp,h⟩,hR⟩;subst hK;exact G_ hu pins s σ H x y v u Q I rx ry {p,q,h1.dt hS r1,h2.dt hS r2,c1,c2,dp,hR.now hS h<|bW _}
end
theorem HW(h1:Dr S x p)(h2:Dr S y p)(c:p.canLay0=true)(d:p.depth<=64)(q:R (.bl<|!neg) S):Wm neg x y S R:={p,p,h1,h2,c,c,.inl d,by rw[show(if neg then !PyData.eqv p p else PyData.eqv p p)=!neg by rw[SeqAt.eqv_refl p c];cases neg<;>rfl];exact q}
def kR:Stmt->Str|.FunctionDef n _ _ _ _ _ _ _ _ _=>n|_=>Str.empty
def tj(s:Stmt):List Str:=(bp s).args.map λa=>a.arg
def E3(K:Frag)(mg:Str->Option Value)(top:Nat->Stmt)(f:Nat->Addr)(d:Nat->FuncData)(l:List Nat):Prop:=∀i∈l,HP K mg (kR<|top i) (top i) (tj<|top i) (f i)<|d i
def E6(K:Frag)(c:Addr)(q:Str)(cl:Stmt)(f:Nat->Addr)(d:Nat->FuncData)(l:List Nat):Prop:=∀i∈l,Nl K c (kR<|inClass cl i) (q++kR (inClass cl i)) (inClass cl i) (tj<|inClass cl i) (f i)<|d i
section
variable{K:Frag}{h:Heap}{mg:Str->Option Value}{od an:Option Addr}{sl:Array (Option Value)}{oc dV kV dc pm cd ct:Value}{x:Addr}{top:Nat->Stmt}{l:List Nat}{c:Addr}{q:Str}{cl:Stmt}
theorem af(X:K.In h)(G:h.Ns mainGlobals mg)(i:Nat)(ni:i∉l)(a:nsIn K mainGlobals (kR<|top i)=some (some<|.ref x))(o:K.lookup x=some {oc,od,.func<|fnOf (kR<|top i) (kR<|top i) (bp<|top i) (ba<|top i) (ae<|top i) dV kV dc pm an cd ct,sl}) (e:codeIn K cd (kR<|top i)=true) (k:keepIn K (.ref x)=true) (b:∀us:List Value,us.length=(tj<|top i).length->bindArgs (fnOf (kR<|top i) (kR<|top i) (bp<|top i) (ba<|top i) (ae<|top i) dV kV dc pm an cd ct) {us,[]}=pure ((tj<|top i).zip us)) (g:∃f d,E3 K mg top f d l):∃f d,E3 K mg top f d (i::l):=by refine fn1 X G _ _ _ a o e k b λd0 F=>?_;obtain⟨f,d,A⟩:=g;refine{λj=>if j=i then x else f j,λj=>if j=i then d0 else d j,λj hj=>?_};by_cases z:j=i;subst z;dsimp only;rw[if_pos rfl,if_pos rfl];exact F;dsimp only;rw[if_neg z,if_neg z];exact A j<|(zj.mp hj).resolve_left z
theorem af0:∃f d,E3 K mg top f d []:={λ_=>0,λ_=>fnOf Str.empty Str.empty (bp<|.Pass {0,0,0,0}) [] (ae<|.Pass {0,0,0,0}) .none .none .none .none none .none .none,λ_ h=>nomatch h}
theorem afx{R:Prop}(_:K.In h)(_:h.Ns mainGlobals mg)(g:∃f d,E3 K mg top f d l)(r:∀f d,E3 K mg top f d l->R):R:=by obtain⟨f,d,A⟩:=g;exact r f d A
theorem amx{R:Prop}(_:qx K c)(g:∃f d,E6 K c q cl f d l)(r:∀f d,E6 K c q cl f d l->R):R:=by obtain⟨f,d,A⟩:=g;exact r f d A
theorem am(C:qx K c)(i:Nat)(ni:i∉l)(a:findIn K (.ref c) (kR<|inClass cl i)=some (some<|.ref x))(w:isFn K (.ref x)=true)(o:K.lookup x=some {oc,od,.func<|fnOf (kR<|inClass cl i) (q++kR (inClass cl i)) (bp<|inClass cl i) (ba<|inClass cl i) (ae<|inClass cl i) dV kV dc pm an cd ct,sl}) (e:codeIn K cd (q++kR (inClass cl i))=true) (k:keepIn K (.ref x)=true) (b:∀us:List Value,us.length=(tj<|inClass cl i).length->bindArgs (fnOf (kR<|inClass cl i) (q++kR (inClass cl i)) (bp<|inClass cl i) (ba<|inClass cl i) (ae<|inClass cl i) dV kV dc pm an cd ct) {us,[]}=pure ((tj<|inClass cl i).zip us)) (g:∃f d,E6 K c q cl f d l):∃f d,E6 K c q cl f d (i::l):=by refine fm1 C _ _ _ _ a w o e k b λd0 F=>?_;obtain⟨f,d,A⟩:=g;refine{λj=>if j=i then x else f j,λj=>if j=i then d0 else d j,λj hj=>?_};by_cases z:j=i;subst z;dsimp only;rw[if_pos rfl,if_pos rfl];exact F;dsimp only;rw[if_neg z,if_neg z];exact A j<|(zj.mp hj).resolve_left z
theorem am0:∃f d,E6 K c q cl f d []:={λ_=>0,λ_=>fnOf Str.empty Str.empty (bp<|.Pass {0,0,0,0}) [] (ae<|.Pass {0,0,0,0}) .none .none .none .none none .none .none,λ_ h=>nomatch h}
end
section
variable{K:Frag}{X:Cx}{x q:Str}{st:Stmt}{ps:List Str}{C f:Addr}{fd:FuncData}{sp:ja}{o e:Expr}{es:List Expr}{apos pos:Pos}{k k':Nat}
theorem wU{t:gX}(he:DE K X o ta)(c:qx K C)(T:Nl K C x q st ps f fd)(F:bF X.prog X.w K X.mg X.base (fc X.prog X.w X.mg) k f fd ps<|mV K sp)(hr:bJ k' X.A)(ha:DA K X (e::es) t)(hle:autoParam (k<=k') qJX)
  (w4:autoParam (starEach (e::es) X.env=(false,eval e X.env)::starEach es X.env) qQJ) (cP:autoParam ((backTo pos<|starEach es X.env).any (·.1)=false) qQJ)
  (ht:autoParam (eval (.Call (.Attribute o x apos) (e::es) [] pos) X.env=(do
   let ov <-eval o X.env
   standAt apos.atName
   let (f,first) <-holding [ov] (getMethod ov x pl)
   callWith pos f first (backTo pos<|starEach (e::es) X.env) (backToKw pos<|keywordEach [] X.env))) qQJ) (hK:autoParam (X.K=K) qQJ):
  DE K X (.Call (.Attribute o x apos) (e::es) [] pos) (C8 C x sp [] ta t):=Yp he c T.e (F.mono hle) hr T.b d0 ha w4 cP ht hK
theorem qZ(he:DE K X o ta)(c:qx K C)(T:Nl K C x q st ps f fd)(F:bF X.prog X.w K X.mg X.base (fc X.prog X.w X.mg) k f fd ps<|mV K sp)(hr:bJ k' X.A)(hle:autoParam (k<=k') qJX)
  (ht:autoParam (eval (.Call (.Attribute o x apos) [] [] pos) X.env=(do
   let ov <-eval o X.env
   standAt apos.atName
   let (f,first) <-holding [ov] (getMethod ov x pl)
   callWith pos f first (backTo pos<|starEach [] X.env) (backToKw pos<|keywordEach [] X.env))) qQJ) (hK:autoParam (X.K=K) qQJ):
  DE K X (.Call (.Attribute o x apos) [] [] pos) (C8 C x sp [] ta K8):=TU he c T.e (F.mono hle) hr T.b d0 ht hK
end
section
variable{K:Frag}{X:Cx}
def UM:D->Option Int->Option Int->aw->KD->Prop:=λx lo hi S R=>match x with|.ref a=>∃ds,S a=some (.lst ds)/\∀p,S p=none->R (.ref p) (S.set p<|.lst<|cD ds lo hi)|.jO ds=>∀p,S p=none->R (.ref p) (S.set p<|.lst<|cD ds lo hi)|_=>False
theorem UN(hK:X.K=K):Q1 X (λx lo hi H Q=>∃d S R,Rv K H d x/\Rs K S H/\UM d lo hi S R/\Cn K H R Q):=by rintro pins s σ H x v vl vu lo hi sl Q I rx hs pl pu ⟨d,S,R,r1,hS,h,hR⟩;subst hK;cases d with|ref a=>(obtain⟨ds,e,h⟩:=h;obtain⟨xs,e1,t⟩:=hS.lst e;exact pZ pins s σ H _ v vl vu lo hi sl Q I rx hs pl pu {a,xs,r1.ref,.of e1,λp hp=>hR.new hS hp (h p)<|t.cut lo hi})|jO ds=>(obtain⟨a,xs,rfl,q,t⟩:=r1.jO;exact pZ pins s σ H _ v vl vu lo hi sl Q I rx hs pl pu {a,xs,rfl,q.sq,λp hp=>hR.new hS hp (h p)<|t.cut lo hi})|_=>exact h.elim
def Y7(te:TD)(tl th:MW):TD:=λσ S R Z=>te σ S (λx S1=>tl σ S1 (λl S2=>th σ S2 (λu S3=>UM x l u S3 R) Z) Z) Z
theorem Nn{e:Expr}{lo hi:Option Expr}{te:TD}{tl th:MW}{p2 pos:Pos}(he:DE K X e te)(hl:DO K X lo tl)(hu:DO K X hi th)(hK:autoParam (X.K=K) qQJ):DE K X (.Subscript e (.Slice lo hi none p2) pos) (Y7 te tl th):=
 ⟨λy=>(w_ (X:=y.cx) (UN hK) (he.of y) (hl.of y)<|hu.of y).mono <| by rintro τ H Q ⟨σ,S,R,Z,aA,hS,q,hR,hZ⟩;exact
  ⟨σ,S,_,Z,aA,hS,q,λd S1 x H1 r1 v1 s1 k1=>⟨σ,S1,_,Z,aA.ts k1,s1,r1,λl S2 H2 r2 s2 k2=>⟨σ,S2,_,Z,aA.ts<|k1.trans k2,s2,r2,λu S3 H3 r3 s3 k3=>⟨d,S3,R,Rv.ts (k2.trans k3) _ v1,s3,r3,hR.kp<|(k1.trans k2).trans k3⟩,hZ.kp<|k1.trans k2⟩,hZ.kp k1⟩,hZ⟩⟩
def Y8:ur:=λx y S R=>match x,y with|.int i,.int j=>R (.int<|i+j) S|.str a,.str b=>a.length+b.length<=sizeLine/\R (.str<|a++b) S|.ref a,.ref b=>∃xs ys,S a=some (.lst xs)/\S b=some (.lst ys)/\xs.length+ys.length<=sizeLine/\∀p,S p=none->R (.ref p) (S.set p<|.lst<|xs++ys)|_,_=>False
theorem bz:oA K (binaryOp .Add) Y8:=by rintro X hK hu pins s σ H x y v u Q I rx ry ⟨d,e,S,R,r1,r2,hS,h,hR⟩;subst hK;cases d<;>cases e<;>first|exact False.elim h|exact Ot pins s σ H x y v u Q I rx ry {_,_,r1.int,r2.int,hR.now hS h<|aN _}|exact AS pins s σ H x y v u Q I rx ry {_,_,r1.str,r2.str,h.1,hR.now hS h.2<|i7 _}|skip;obtain⟨xs,ys,e1,e2,hl,q⟩:=h;obtain⟨vs,h1,t1⟩:=hS.lst e1;obtain⟨ws,h2,t2⟩:=hS.lst e2;exact OS pins s σ H x y v u Q I rx ry {_,_,vs,ws,r1.ref,r2.ref,h1,h2,by rw[t1.len,t2.len];exact hl,λp hp=>hR.new hS hp (q p)<|t1.app t2}
end
structure W(sp:ja)(ds:List D)(S:aw)(R:KD)(Z:KX):Prop where
 of:sp ds S R Z
theorem bF.w{P:Program}{w:World}{K:Frag}{mg:Str->Option Value}{base:Heap}{k:Nat}{f:Addr}{fd:FuncData}{ps:List Str}{sp:ja}(F:bF P w K mg base (fc P w mg) k f fd ps<|mV K sp):bF P w K mg base (fc P w mg) k f fd ps (mV K<|W sp):=F.Lh λ_ _ _ _ h=>h.of
def Y9(s:Stmt):List Str:=((ae s).names.filter λp=>p.2==.local||p.2==.cell).map (·.1)
theorem bO(s:Stmt)(a:autoParam ((ae s).kind=.function/\(ae s).isCoroutine=false/\(ae s).isGenerator=false/\(Y9 s).take (tj s).length=tj s) qQ4)(b:autoParam ((Y9 s).Nodup/\(∀x∈tj s,(ae s).names.lookup x=some .local\/(ae s).names.lookup x=some .cell)/\∀y∈(ae s).names,y.2≠.free) qJ5):fQ (Y9 s) (tj s) (ae s):=fsc a b
section
variable{P:Program}{w:World}{K:Frag}{mg:Str->Option Value}{base:Heap}{x qual:Str}{st:Stmt}{f:Addr}{fd:FuncData}{N ps:List Str}{k:Nat}{sp:ja}
theorem vj.bV(F:vj K x qual st f fd)(S:fQ N ps<|ae st) (lM:∀(fN:Value)(A:Around)(outer:List Env)(s:Shared)(H:Hp)(E:XK)(ds:List D)(S:aw)(R:KD)(Z:KX),bJ k (A.deeper<|PyProof.Rows.envOfC qual (ae st) s.heap.objs.size f fN)->sp ds S R Z->∃t,Gf K (j0 (fc P w mg) P w K mg base N qual (ae st) f fN A outer s H E) true (ba st) t/\t {nx:=λ_ S'=>Fo S'<|R .av,rt:=λd S'=>Fo S'<|R d} (jb N ds) S λ_ C S'=>Fo S'<|Z C) (len:∀ds S R Z,sp ds S R Z->ds.length=ps.length:=by intro _ _ _ _ h;first|(cases h;subst_vars;rfl;done)|(repeat first|(obtain⟨e,_⟩:=h;rw[e];rfl;done)|obtain⟨_,h⟩:=h)):bF P w K mg base (fc P w mg) (k+1) f fd ps (mV K sp):=F.ok S len lM
end
structure aaJ(X:Cx)(N:List Str)(src:List (Option Nat))(scope:Scope):Prop where
 kind:scope.kind=.function
 nd:(scope.names.map Prod.fst).Nodup
 loc:∀y∈scope.names,y.2=.local->scope.names.lookup y.1=some .local
 AF:∀y∈scope.names,y.2=.free->X.env.kindOf y.1=some .cell\/X.env.kindOf y.1=some .free
 len:src.length=N.length
 src:∀(i j:Nat)(x:Str),src[i]?=some (some j)->N[i]?=some x->X.N[j]?=some x/\scope.names.lookup x=some .free/\JV X.env.scope x
section
variable{K:Frag}
def Y_:List D->aw->KD->Prop:=λds S R=>∃(a:Addr)(ns:List Int),ds=[.ref a]/\S a=some (.lst<|ns.map D.int)/\R (.int ns.sum) S
theorem UO:gA K (.builtin "sum") Y_:=by rintro X hK hc pins s σ H xs us Q I rx ⟨ds,S,R,r,hS,⟨a,ns,e,h1,h⟩,hR⟩;subst hK e;obtain⟨v,rfl,r1⟩:=r.one;cases r1.ref;obtain⟨zs,e1,t⟩:=hS.lst h1;rw[t.ints]at e1;exact EN rfl hc pins s σ H _ us Q I rx {a,ns,rfl,.of e1,hR.now hS h<|aN _}
def Za(i j:Nat)(ta:gX):lI:=λDe σ S Z=>ta σ S (λds S1=>∃v w,ds=[v,w]/\De.nx ((σ.set i<|some v).set j<|some w) S1)<|Z σ
theorem Zb(hN:X.N.Nodup)(ha:DA K X [a,b] ta)(hi:autoParam (X.N[i]?=some x) qQJ)(hj:autoParam (X.N[j]?=some y) qQJ)(iX:autoParam (i≠j) qQZ) (hx:autoParam (X.env.scope.names.lookup x=some .local) qQJ) (hy:autoParam (X.env.scope.names.lookup y=some .local) qQJ) (hw:autoParam (swappedStores [.Tuple [.Name x px,.Name y py] kt pt] (.Tuple [a,b] k2 pt2) X.env=pure (some [x,y])) qQJ) (hs:autoParam (swapsWithSole [.Tuple [.Name x px,.Name y py] kt pt] (.Tuple [a,b] k2 pt2) pos.line X.env=pure false) qQJ) (hc:autoParam (X.calm=true) qQJ):DS K X bb (.Assign [.Tuple [.Name x px,.Name y py] kt pt] (.Tuple [a,b] k2 pt2) pos) (Za i j ta):=⟨λz=>(Of (X:=z.cx) hc hN hi hj iX hx hy (ha.of z) hw hs).mono <| by rintro D τ H ⟨σ,S,De,Z,aA,hS,q,hD,hZ⟩;exact{σ,S,_,_,aA,hS,q,by rintro ds S1 vs H1 ⟨v,w,e,r⟩ v1 s1 k1;subst e;obtain⟨a,b,rfl,r1,r2⟩:=v1.two;exact{a,b,rfl,hD.nx _ _ _ _ r (((aA.ts k1).set i r1).set j r2) s1 k1},hZ.at aA}⟩
end
section
variable{h:Heap}{Q:List Value->Prop}
theorem UP(h:∀a b c d,Q [a,b,c,d])(us:List Value)(e:us.length+2=6):Q us:=Wj h us<|by lia
end
section
variable{K:Frag}{X:Cx}{x:Str}{p pos:Pos}{e:Expr}{es:List Expr}{b:Bool}{y:Ev X b}
structure LH(P:Program)(w:World)(K:Frag)(mg:Str->Option Value)(base:Heap)(k:Nat)(f:Addr)(sp:Sp):Prop where
 ex:∃fd ps,bF P w K mg base (fc P w mg) k f fd ps sp/\Binds K fd ps []
 kp:keepIn K (.ref f)=true
theorem HX{i k:Nat}{t:TA}{ι:Type}{fa:ι->Addr}{sp:ι->Sp}(Fs:∀o,LH X.prog X.w X.K X.mg X.base k (fa o)<|sp o)(hr:bJ k X.A)(ha:PA y.cx (e::es) t)(hN:y.cx.N[i]?=some x)(hv:JV y.cx.env.scope x) (lN:(x==("__debug__": Str))=false) (oo:(x==("__classdict__": Str))=false) (he:starEach (e::es) X.env=(false,eval e X.env)::starEach es X.env) (cP:(backTo pos<|starEach es X.env).any (·.1)=false): PE y.cx (.Call (.Name x p) (e::es) [] pos) (λσ H Q=>∃o,σ[i]?=some (some<|.ref<|fa o)/\t σ H λvs H1=>sp o vs H1 Q<|y.E σ):=by intro p2 s σ H Q I ⟨o,ef,h⟩;obtain⟨⟨fd,ps,F,hb⟩,hk⟩:=Fs o;refine wpAny_Call_Name_kw<|bw (Gr (X:=y.cx) hN hv lN oo p2 s σ H (λv H1=>v=.ref (fa o)/\t σ H1 λvs H2=>sp o vs H2 Q<|y.E σ) I {_,ef,rfl,h}) λu s1 ⟨v,H1,I1,r,ev,q⟩=>?_;subst ev;obtain rfl:u=Value.ref (fa o):=r;refine callWith_K (h₀:=X.base) I.ok.mod.NX hk (bw (ha pos p2 s1 σ H1 _ I1 q) λus s2 ⟨vs,H2,I2,r2,q2⟩=>{I2.mY,?_}) he cP;exact p_ F hr hb .nil I2 r2<|by rw[List.append_nil];exact q2
inductive CvR {ι:Type} (i:Nat) (fa:ι->Addr) (σ:SD) (p:ι->Prop):Prop where
 |mk (o:ι) (e:σ[i]?=some (some<|.ref<|fa o)) (r:p o)
def P2{ι:Type}(i:Nat)(fa:ι->Addr)(sp:ι->ja)(t:gX):TD:=λσ S R Z=>CvR i fa σ λo=>t σ S (λds S1=>sp o ds S1 R Z) Z
theorem cfv(i:Nat){k:Nat}{t:gX}{ι:Type}{fa:ι->Addr}{sp:ι->ja}(Fs:∀o,LH X.prog X.w K X.mg X.base k (fa o)<|mV K<|sp o)(hr:bJ k X.A)(ha:DA K X (e::es) t) (hN:autoParam (X.N[i]?=some x) qQJ) (hv:autoParam (JV X.env.scope x) qJK) (lN:autoParam ((x==("__debug__": Str))=false) qQZ) (oo:autoParam ((x==("__classdict__": Str))=false) qQZ) (he:autoParam (starEach (e::es) X.env=(false,eval e X.env)::starEach es X.env) qQJ) (cP:autoParam ((backTo pos<|starEach es X.env).any (·.1)=false) qQJ) (hK:autoParam (X.K=K) qQJ): DE K X (.Call (.Name x p) (e::es) [] pos) (P2 i fa sp t):=by subst hK;refine⟨λy=>(HX (y:=y) (sp:=λo=>mV X.K<|sp o) Fs hr (ha.of y) hN hv lN oo he cP).mono λτ H Q ⟨σ,S,R,Z,aA,hS,⟨o,ef,q⟩,hR,hZ⟩=>?_⟩;obtain⟨v,e1,rv⟩:=aA.get ef;refine{o,?_,?_};rw[e1,rv.ref];exact{σ,S,_,Z,aA,hS,q,λes S1 xs H1 r1 v1 s1 k1=>{es,S1,R,Z,v1,s1,r1,hR.kp k1,hZ.kp k1},hZ}
end
section
variable{R:Prop}{K:Frag}{h:Heap}{mg:Str->Option Value}{od an:Option Addr}{sl:Array (Option Value)}{oc kV dc pm cd ct:Value}{f da:Addr}{HQ:Option Addr}{dn:Nat}{HR:Array (Option Value)}
theorem UQ(X:K.In h)(G:h.Ns mainGlobals mg)(x:Str)(st:Stmt)(ps:List Str)(ar:Array Value)(a:nsIn K mainGlobals x=some (some<|.ref f))(l:K.lookup f=some {oc,od,.func<|fnOf x x (bp st) (ba st) (ae st) (.ref da) kV dc pm an cd ct,sl}) (t:K.lookup da=some {.type "tuple",HQ,.seq ar dn,HR}) (e:codeIn K cd x=true) (k:keepIn K (.ref f)=true) (b:∀(s:Shared) (us:List Value),s.heap.get? da=some {.type "tuple",HQ,.seq ar dn,HR}->us.length=ps.length->BindsTo s (fnOf x x (bp st) (ba st) (ae st) (.ref da) kV dc pm an cd ct) {us,[]} (ps.zip us)) (b2:∀(s:Shared) (us:List Value),s.heap.get? da=some {.type "tuple",HQ,.seq ar dn,HR}->us.length+1=ps.length->BindsTo s (fnOf x x (bp st) (ba st) (ae st) (.ref da) kV dc pm an cd ct) {us,[]} (ps.zip<|us++[.none])) (b3:∀(s:Shared) (us:List Value),s.heap.get? da=some {.type "tuple",HQ,.seq ar dn,HR}->us.length+2=ps.length->BindsTo s (fnOf x x (bp st) (ba st) (ae st) (.ref da) kV dc pm an cd ct) {us,[]} (ps.zip<|us++[.none,.none])) (g:∀d,HP K mg x st ps f d->Binds K d ps [.none]->Binds K d ps [.none,.none]->R):R:=g _ {{{_,_,_,_,_,_,_,_,_,_,rfl,l,e},λs us hK hl=>by rw[List.append_nil]at hl⊢;exact b s us (hK _ _ t) hl},k,mg_of X G a} (λs us hK hl=>b2 s us (hK _ _ t)<|by simpa using hl) λs us hK hl=>b3 s us (hK _ _ t)<|by simpa using hl
end
noncomputable def fk(N:Nat)(v:Nat->Value):Array Value:=((List.range N).map v).toArray
structure ZN(n N:Nat)(l:Nat->Addr)(i:Nat)(h:Heap):Prop where
 z:IsZip h (n+N+2) (n+N) (n+N+1) .none
 t:lS h (n+N) (fk N λj=>.ref<|n+j)
 o:∃arr:Array Value,arr.size=N/\lS h (n+N+1) arr
 it:∀j,j<N->h.IsTupleIter (n+j) (l j) i
theorem jQ:(fk N v).size=N:=by unfold fk;simp
theorem jd:(fk N v).toList.length=N:=by unfold fk;simp
theorem LI(h:arr.size=N)(e:∀j,j<N->arr[j]?=some (v j)):arr=fk N v:=by refine Array.ext (by rw[h,jQ]) λj h1 h2=>?_;have:=e j (by lia);rw[Array.getElem?_eq_getElem h1]at this;rw[zT this];simp[fk]
section
variable{prog:Program}{w:World}{A:Around}{E:Value->Shared->Prop}{s:Shared}{n N:Nat}{l:Nat->Addr}{i:Nat}{xs:Nat->Array Value}
theorem E7{v:Nat->Value}{Q:Value->Shared->Prop}(h1:1<=N)(h3:N<=3)(lt:∀j,j<N->l j<n)(hs:ZN n N l i s.heap)(tu:∀j,j<N->s.heap.IsTuple (l j) (xs j))(ev:∀j,j<N->(xs j)[i]?=some (v j)) (hQ:∀h',IsZip h' (n+N+2) (n+N) (n+N+1) (rawInt s.heap.objs.size)->lS h' (n+N+1) (fk N v)->(∀j,j<N->h'.IsTupleIter (n+j) (l j) (i+1))->lS h' s.heap.objs.size (fk N v)->(∀c o,c≠n+N+2->c≠n+N+1->(∀j,j<N->c≠n+j)->s.heap.get? c=some o->h'.get? c=some o)->Q (.ref s.heap.objs.size) {s with heap:=h'}): wpAny (model prog w) A (Builtin.«zip.__next__» {[.ref<|n+N+2],[]}) (λfin s'=>∃v,fin=.done (.ret v)/\Q v s') E s:=by
 obtain⟨hz,hI,⟨arr,na,hO⟩,hit⟩:=hs;show wpAny _ _ (field (.ref<|n+N+2) 2 >>=_) _ _ _;refine zc<|zY hz rfl (x:=.bool false) rfl ?_;show wpAny _ _ (field (.ref<|n+N+2) 3 >>=_) _ _ _;refine zc<|zY hz rfl (x:=.ref<|n+N) rfl ?_;refine zc<|wpAny_seqItems hI rfl ?_;have he:(fk N λj=>Value.ref<|n+j).isEmpty=false:=by rw[Array.isEmpty_eq_false_iff];intro e;have:=congrArg Array.size e;rw[jQ]at this;simp at this;lia
 dsimp only;rw[if_neg<|by rw[he];exact zd];refine zc ?_;unfold Builtin.SmallTypes.ownedTupleIsFree;refine zc<|zY hz rfl (x:=.none) rfl<|zo ?_;simp only[if_true];refine zc<|yW ?_;refine zc<|zY hz rfl (x:=.ref<|n+N+1) rfl ?_;refine zc<|wpAny_setField_rec hz (by simp) λh0 LJ q0=>?_;replace LJ:IsZip h0 (n+N+2) (n+N) (n+N+1) .ellipsis:=LJ;have k0:∀c o,c≠n+N+2->s.heap.get? c=some o->h0.get? c=some o:=λc o d e=>q0.extBut _ _ d e;refine zc<|wpAny_forIn_list _ (λrest b s'=>∃(k:Nat)(h':Heap)(a':Array Value),k<=N/\rest=((fk N λj=>Value.ref<|n+j).toList.zipIdx).drop k/\b=(none,())/\s'={s with heap:=h'}/\lS h' (n+N+1) a'/\a'.size=N/\(∀j,j<k->a'[j]?=some (v j))/\(∀j,j<N->h'.IsTupleIter (n+j) (l j) (if j<k then i+1 else i))/\IsZip h' (n+N+2) (n+N) (n+N+1) .ellipsis/\h'.objs.size=s.heap.objs.size/\(∀c o,c≠n+N+2->c≠n+N+1->(∀j,j<N->c≠n+j)->s.heap.get? c=some o->h'.get? c=some o)) _ ?_ ?_ _ _ ?_;rintro x rest b s' ⟨k,h',a',hk,e1,rfl,rfl,O,ha,hv,J,Z,sz,kp⟩;have dy:k<N:=by have:=congrArg List.length e1;rw[zQ,List.length_drop,List.length_zipIdx,jd]at this;lia
 have e2:((fk N λj=>Value.ref<|n+j).toList.zipIdx).drop k=(Value.ref<|n+k,k)::((fk N λj=>Value.ref<|n+j).toList.zipIdx).drop (k+1):=by rw[yh<|by rw[List.length_zipIdx,jd];exact dy];simp[fk]
 rw[e2]at e1;cases e1;have lk:@LT.lt Nat _ (l k) n:=lt k dy;have Jk:=J k dy;rw[if_neg<|yB _]at Jk;have T0:Heap.IsTuple h' (l k) (xs k):=by obtain⟨o,a1,a2⟩:=tu k dy;exact{o,kp _ _ (by show @Ne Nat _ _;lia) (by show @Ne Nat _ _;lia) (λj _=>by show @Ne Nat _ _;lia) a1,a2}
 refine zc<|wpAny_onRaise ?_;show wpAny _ _ (Builtin.SmallTypes.nextOf (.ref<|n+k) >>=_) _ _ _;refine zc<|Bf (s:={s with heap:=h'}) Jk T0 (ev k dy) λg1 m0 q1=>zo ?_;have O1:lS g1 (n+N+1) a':=q1.extBut _ _ (by show @Ne Nat _ _;lia) O;refine zc<|wpAny_seqItems (s:={s with heap:=g1}) O1 rfl ?_;refine zc<|EL (s:={s with heap:=g1}) O1 (by lia) λg2 O2 q2=>?_;refine zc<|wpAny_letGo<|zo ?_;refine{k+1,g2,_,dy,rfl,rfl,rfl,O2,by rw[Array.size_setIfInBounds];exact ha,λj hj=>?_,λj hj=>?_,q2.extBut _ _ (by show @Ne Nat _ _;lia)<|q1.extBut _ _ (by show @Ne Nat _ _;lia) Z,by rw[q2.1,q1.1];exact sz,λc o d1 d2 d3 e=>q2.extBut _ _ d2<|q1.extBut _ _ (d3 k dy)<|kp c o d1 d2 d3 e};by_cases z:j=k;subst z;rw[Array.getElem?_setIfInBounds_self_of_lt<|by lia];rw[Array.getElem?_setIfInBounds_ne<|Ne.symm z];exact hv j (by lia);by_cases z:j=k;subst z;rw[if_pos<|Nat.lt_succ_self _];exact vd q2.extBut (by show @Ne Nat _ _;lia) m0;have:=J j hj;rw[show(if j<k+1 then i+1 else i)=if j<k then i+1 else i by by_cases y:j<k;rw[if_pos y,if_pos<|by lia];rw[if_neg y,if_neg<|by lia]];exact vd q2.extBut (by show @Ne Nat _ _;lia)<|vd q1.extBut (by show @Ne Nat _ _;lia) this;rintro b s' ⟨k,h',a',hk,e1,rfl,rfl,O,ha,hv,J,Z,sz,kp⟩;have dy:k=N:=by have:=congrArg List.length e1;rw[List.length_nil,List.length_drop,List.length_zipIdx,jd]at this;lia
 subst dy;have ea:=LI ha hv;subst ea;refine zc<|wpAny_seqItems (s:={s with heap:=h'}) O rfl ?_;refine zc<|wpAny_newTuple ?_ (hsz:=by rw[jd];exact XX h3);have lz:n+k+2<h'.objs.size:=zt Z;show wpAny _ _ (Builtin.SmallTypes.ownedTupleHandOut (.ref<|n+k+2) (.ref h'.objs.size) >>=_) _ _ _;refine zc ?_;unfold Builtin.SmallTypes.ownedTupleHandOut;have hzM:IsZip (h'.push {cls:=.type "tuple",data:=.seq<|fk k v}) (n+k+2) (n+k) (n+k+1) .ellipsis:=za _ Z;refine zc<|wpAny_setField_rec (s:={s with heap:=h'.push {cls:=.type "tuple",data:=.seq<|fk k v}}) hzM (by simp) λg1 Rq r1=>?_;replace Rq:IsZip g1 (n+k+2) (n+k) (n+k+1) (rawInt h'.objs.size):=Rq;refine wpAny_setField_rec (s:={s with heap:=g1}) Rq (by simp) λg2 HD r2=>?_;replace HD:IsZip g2 (n+k+2) (n+k) (n+k+1) (rawInt h'.objs.size):=HD;have up:∀c o,c≠n+k+2->h'.get? c=some o->g2.get? c=some o:=λc o d e=>r2.extBut _ _ d<|r1.extBut _ _ d<|za _ e;have hT:lS g2 h'.objs.size (fk k v):=r2.extBut _ _ (yr lz)<|r1.extBut _ _ (yr lz)<|zk _ rfl;rw[sz]at HD hT;refine zo !⟨?_⟩;show Q (.ref h'.objs.size) _;rw[sz];refine hQ g2 HD (up _ _ (by show @Ne Nat _ _;lia) O) (λj hj=>?_) hT λc o d1 d2 d3 e=>up c o d1<|kp c o d1 d2 d3 e;have:=J j hj;rw[if_pos hj]at this;exact MS (λo e=>up _ o (by show @Ne Nat _ _;lia) e) this;refine{0,h0,arr,zV _,rfl,rfl,rfl,k0 _ _ (by show @Ne Nat _ _;lia) hO,na,λj hj=>absurd hj<|Nat.not_lt_zero _,λj hj=>?_,LJ,q0.1,λc o d _ _ e=>k0 c o d e};rw[if_neg<|Nat.not_lt_zero _];obtain⟨o,a1,a2⟩:=hit j hj;exact{o,k0 _ _ (by show @Ne Nat _ _;lia) a1,a2}
theorem HY(h1:1<=N)(hh:A.handled=none)(hs:ZN n N l i s.heap)(lt:l 0<n)(t0:s.heap.IsTuple (l 0)<|xs 0)(e0:(xs 0)[i]?=none) (hE:∀h' e,(∀c o,c≠n+N+2->c≠n+0->s.heap.get? c=some o->h'.get? c=some o)->(∃o,h'.get? e=some o/\o.cls=.type "StopIteration")->E (.ref e) {s with heap:=h'}): wpAny (model prog w) A (Builtin.«zip.__next__» {[.ref<|n+N+2],[]}) Q E s:=by
 obtain⟨hz,hI,⟨arr,na,hO⟩,hit⟩:=hs;show wpAny _ _ (field (.ref<|n+N+2) 2 >>=_) _ _ _;refine zc<|zY hz rfl (x:=.bool false) rfl ?_;show wpAny _ _ (field (.ref<|n+N+2) 3 >>=_) _ _ _;refine zc<|zY hz rfl (x:=.ref<|n+N) rfl ?_;refine zc<|wpAny_seqItems hI rfl ?_;have he:(fk N λj=>Value.ref<|n+j).isEmpty=false:=by rw[Array.isEmpty_eq_false_iff];intro e;have:=congrArg Array.size e;rw[jQ]at this;simp at this;lia
 dsimp only;rw[if_neg<|by rw[he];exact zd];refine zc ?_;unfold Builtin.SmallTypes.ownedTupleIsFree;refine zc<|zY hz rfl (x:=.none) rfl<|zo ?_;simp only[if_true];refine zc<|yW ?_;refine zc<|zY hz rfl (x:=.ref<|n+N+1) rfl ?_;refine zc<|wpAny_setField_rec hz (by simp) λh0 LJ q0=>?_;replace LJ:IsZip h0 (n+N+2) (n+N) (n+N+1) .ellipsis:=LJ;have lk:@LT.lt Nat _ (l 0) n:=lt;have J0:Heap.IsTupleIter h0 (n+0) (l 0) i:=by obtain⟨o,a1,a2⟩:=hit 0 h1;exact{o,q0.extBut _ _ (by show @Ne Nat _ _;lia) a1,a2}
 have T0:Heap.IsTuple h0 (l 0) (xs 0):=by obtain⟨o,a1,a2⟩:=t0;exact{o,q0.extBut _ _ (by show @Ne Nat _ _;lia) a1,a2}
 have e2:(fk N λj=>Value.ref<|n+j).toList.zipIdx=(Value.ref<|n+0,0)::((fk N λj=>Value.ref<|n+j).toList.zipIdx).drop 1:=by have:=yh (l:=(fk N λj=>Value.ref<|n+j).toList.zipIdx) (i:=0) (by rw[List.length_zipIdx,jd];exact h1);rw[List.drop_zero]at this;rw[this];simp[fk]
 rw[e2,List.forIn_cons];refine zc<|zc<|zc<|wpAny_onRaise ?_;show wpAny _ _ (Builtin.SmallTypes.nextOf (.ref<|n+0) >>=_) _ _ _;refine zc<|qI (s:={s with heap:=h0}) hh J0 T0 e0 λh1 e q1 he=>?_;obtain⟨oe,Zc,hce⟩:=he;have Rq:IsZip h1 (n+N+2) (n+N) (n+N+1) .ellipsis:=q1 _ _ (by show @Ne Nat _ _;lia) LJ;have ez:e≠n+N+2:=λx=>by subst x;rw[Rq]at Zc;cases Zc;simp at hce
 refine wpAny_setField_rec (s:={s with heap:=h1}) Rq (by simp) λh2 _ q2=>hE h2 e (λc o dz d0 x=>q2.extBut _ _ dz<|q1 _ _ d0<|q0.extBut _ _ dz x) {oe,q2.extBut _ _ ez Zc,hce}
end
noncomputable def P4(K:Frag)(N:Nat)(l:Nat->Addr):It:={λi H=>∃(xs:Nat->List V)(x:Nat->V),∀j,j<N->iw K H (l j) (xs j)/\(xs j)[i]?=some (x j),λi H y H'=>∃T,H T=none/\y=.ref T/\∀(xs:Nat->List V)(x:Nat->V),(∀j,j<N->iw K H (l j) (xs j)/\(xs j)[i]?=some (x j))->H'=upd H T (.tup<|(List.range N).map x),λi H=>∃xs:Nat->List V,(∀j,j<N->iw K H (l j) (xs j))/\(xs 0).length<=i}
noncomputable def Rr(n N:Nat):List Addr:=(List.range<|N+3).map λj=>n+j
theorem qf(h:b∈Rr n N):∃j,j<N+3/\b=n+j:=by obtain⟨j,hj,e⟩:=zh.mp h;exact{j,zU.mp hj,e.symm}
theorem fm(h:j<N+3):(n+j:Nat)∈Rr n N:=zh.mpr {j,zU.mpr h,rfl}
theorem BD(h:∀j,j<N->RelV (x j) (u j)):Vals ((List.range N).map x) ((List.range N).map u):=by
 have:∀l:List Nat,(∀j∈l,j<N)->Vals (l.map x) (l.map u):=by intro l;induction l with|nil=>exact λ_=>.nil|cons a l ih=>exact λhl=>.cons (h a<|hl a zm)<|ih λj hj=>hl j<|zf _ hj
 exact this _ λj hj=>zU.mp hj
theorem uA{P:Program}{w:World}{K:Frag}{es:List Expr}{kk:Nat}{tp:Pos}{n N:Nat}{l:Nat->Addr}(h1:1<=N)(h3:N<=3)(lt:∀j,j<N->l j<n):Turn P w K (.Tuple es kk tp) (P4 K N l) (Rr n N) (n+N+2) (ZN n N l) where
 mem:=fm (j:=N+2)<|by lia
 obj:=λi h st b hb=>by
  obtain⟨j,hj,rfl⟩:=qf hb
  by_cases q:j<N
  ·obtain⟨o,e,c,d⟩:=st.it j q;exact{o,e,λv z=>by rw[d]at z;cases z}
  ·obtain⟨arr,na,hO⟩:=st.o
   have:j=N\/j=N+1\/j=N+2:=by lia
   rcases this with rfl|rfl|rfl
   ·exact{_,st.t,λv z=>by cases z}
   ·exact{_,hO,λv z=>by cases z}
   ·exact{_,st.z,λv z=>by cases z}
 keep:=λi h h' st k=>by
  obtain⟨hz,hI,⟨arr,na,hO⟩,J⟩:=st
  exact{k _ (fm (j:=N+2)<|by lia) _ hz,k _ (fm (j:=N)<|by lia) _ hI,{arr,na,k _ (fm (j:=N+1)<|by lia) _ hO},λj hj=>MS (λo e=>k _ (fm<|by lia) o e)<|J j hj}
 item:=by
  intro X hP hw hK hc i pins s σ H E I hf st hg
  subst hP hw hK
  obtain⟨xs,x,hx⟩:=hg
  have ex:∀j,∃(az:List Value)(u:Value),j<N->Vals (xs j) az/\s.heap.IsTuple (l j) az.toArray/\az[i]?=some u/\RelV (x j) u:=λj=>by
   by_cases q:j<N
   ·obtain⟨az,rv,p,_⟩:=I.tuple (hx j q).1
    obtain⟨u,hu,ru⟩:=rv.get (hx j q).2
    exact{az,u,λ_=>⟨rv,p,hu,ru⟩}
   ·exact{[],.none,λh=>absurd h q}
  have fx:=Classical.axiomOfChoice ex
  obtain⟨az,fx⟩:=fx
  obtain⟨u,fx⟩:=Classical.axiomOfChoice fx
  have hT:s.TypeIs (.ref<|n+N+2) "zip":={_,st.z,rfl}
  have lz:@LT.lt Nat _ (n+N+2) s.heap.objs.size:=zt st.z
  unfold pyNext
  refine zc<|wpAny_attempt<|wpAny_callSpecial?_slot (name:=Str.ofString "__next__") hT F.slot_zip_next<|yF F.slot_zip_next hT F.entry_zip_next (E7 h1 h3 lt st (xs:=λj=>(az j).toArray) (v:=u) (λj hj=>(fx j hj).2.1) (λj hj=>by simpa using (fx j hj).2.2.1) λg1 z1 O1 m1 T1 kp=>zo !⟨?_⟩)<|F.args_zip_next_1 _
  refine wpAny_letOwnedTupleGo_zip (s:={s with heap:=g1}) z1 λg2 z2 r2=>?_
  have Wh:∀c o,c∉Rr n N->s.heap.get? c=some o->g2.get? c=some o:=λc o hc e=>r2.extBut _ _ (λz=>hc<|z ▸ fm (j:=N+2) (by lia))<|kp c o (λz=>hc<|z ▸ fm (j:=N+2) (by lia)) (λz=>hc<|z ▸ fm (j:=N+1) (by lia)) (λj hj z=>hc<|z ▸ fm (by lia)) e
  have T2:lS g2 s.heap.objs.size (fk N u):=r2.extBut _ _ (yr lz) T1
  have I2:Inv X pins σ (upd H s.heap.objs.size<|.tup<|(List.range N).map x) {s with heap:=g2}:=I.KP (t':=s.toks) (Rr n N) hf Wh (Heap.get?_none_of_le<|zr _) {by rw[zb,List.length_range];exact XW<|zH h3<|by decide,_,BD λj hj=>(fx j hj).2.2.2,{_,T2,rfl,rfl,_,rfl}}
  refine{.ref s.heap.objs.size,_,I2,rfl,{_,I.aJ.fresh<|zr _,rfl,λys y hy=>?_},{z2,?_,{_,jQ,r2.extBut _ _ (by show @Ne Nat _ _;lia) O1},λj hj=>vd r2.extBut (by show @Ne Nat _ _;lia)<|m1 j hj},λb hb=>?_}
  ·congr 2
   refine zS λj hj=>?_
   have hj:=zU.mp hj
   have:=I.m6 (hy j hj).1 (hx j hj).1
   have e:=(hy j hj).2
   rw[this,(hx j hj).2]at e
   exact zT e
  ·exact r2.extBut _ _ (by show @Ne Nat _ _;lia) (kp _ _ (by show @Ne Nat _ _;lia) (by show @Ne Nat _ _;lia) (λj hj=>by show @Ne Nat _ _;lia) st.t)
  ·obtain⟨j,hj,rfl⟩:=qf hb
   rw[ax<|by show @Ne Nat _ _;lia]
   exact(hf _ hb).1
 done:=by
  intro X hP hw hK hc i pins s σ H E I hf st hg
  subst hP hw hK
  obtain⟨xs,hx,hl⟩:=hg
  obtain⟨HZ,Zd,p0,_⟩:=I.tuple<|hx 0 h1
  have hT:s.TypeIs (.ref<|n+N+2) "zip":={_,st.z,rfl}
  have Ru:=Zd.length
  unfold pyNext
  refine zc<|wpAny_attempt<|wpAny_callSpecial?_slot (name:=Str.ofString "__next__") hT F.slot_zip_next<|yF F.slot_zip_next hT F.entry_zip_next (HY h1 (I.ok.hd hc) st (lt 0 h1) (xs:=λ_=>HZ.toArray) p0 (by simp;lia) λh1 e kp he=>?_)<|F.args_zip_next_1 _
  obtain⟨o,ho,Lq⟩:=he
  refine zc<|wpAny_isInstance (T:="StopIteration") (b:=true) ⟨o,ho,Lq⟩ isSubtype_stop<|zo {rfl,?_}
  exact I.KO (t':=s.toks) (Rr n N) hf λc o hc e=>kp c o (λz=>hc<|z ▸ fm (j:=N+2) (by lia)) (λz=>hc<|z ▸ fm (j:=0) (by lia)) e
 self:=λA' i s Q E st h=>wpAny_pyIter_zip st.z h
noncomputable def two(a b:Addr):Nat->Addr:=λj=>if j=0 then a else b
noncomputable def P5(a b c:Addr):Nat->Addr:=λj=>if j=0 then a else if j=1 then b else c
theorem Wn{p:Nat->Prop}(h0:p 0)(h1:p 1):∀j,j<2->p j|0,_=>h0|1,_=>h1|j+2,h=>by lia
theorem Wo{p:Nat->Prop}(h0:p 0)(h1:p 1)(h2:p 2):∀j,j<3->p j|0,_=>h0|1,_=>h1|2,_=>h2|j+3,h=>by lia
section
variable{X:Cx}{a b c:Expr}{ta:TA}{p pos tp:Pos}{es:List Expr}{kk:Nat}
theorem P6(hg:Gl X "zip")(hm:X.mg "zip"= none)(ha:PA X [a,b] ta)(hs:starEach [a,b] X.env=[(false,eval a X.env),(false,eval b X.env)])(uY:starEach [b] X.env=[(false,eval b X.env)]): PI X (.Tuple es kk tp) (.Call (.Name "zip" p) [a,b] [] pos) (λσ H R=>ta σ H λvs H1=>∃l0 l1,vs=[.ref l0,.ref l1]/\(∃xs,iw X.K H1 l0 xs)/\(∃xs,iw X.K H1 l1 xs)/\R (P4 X.K 2<|two l0 l1) H1):=by intro pins s σ H R I h;refine Call_<|gk I hg hm boot_zip<|PyProof.Rows.callWith_type1 (bw (ha pos pins s σ H _ I h) λus s1 ⟨vs,H1,I1,r1,q1⟩=>?_) (by rw[hs,uY]) (by rw[uY];rfl);obtain⟨l0,l1,e,⟨Bh,q0⟩,⟨Bi,q2⟩,q⟩:=q1;subst e;obtain⟨u,v,rfl,r,r'⟩:=r1.two;cases r;cases r';obtain⟨HZ,Zd,p0,_⟩:=I1.tuple q0;obtain⟨P7,Uz,p1,_⟩:=I1.tuple q2;refine Bl (show s1.heap.IsTuple l0 HZ.toArray from p0) (show s1.heap.IsTuple l1 P7.toArray from p1) λh' zs kp=>?_;have zn:ZN s1.heap.objs.size 2 (two l0 l1) 0 h':={zs.1,zs.2.1,zs.2.2.1,Wn zs.2.2.2.1 zs.2.2.2.2};refine wpAny_pyIter_zip (s:={s1 with heap:=h'}) zs.1 {_,_,_,_,H1,rfl,I1.kept (t':=s1.toks) kp,uA (by decide) (by decide)<|Wn p0.lt p1.lt,zn,λb hb=>?_,q};obtain⟨j,_,rfl⟩:=qf hb;exact I1.pj (Nat.le_add_right _ _)<|I1.aJ.fresh<|Nat.le_add_right _ _
theorem P8(hg:Gl X "zip")(hm:X.mg "zip"= none)(ha:PA X [a,b,c] ta)(hs:starEach [a,b,c] X.env=[(false,eval a X.env),(false,eval b X.env),(false,eval c X.env)])(uY:starEach [b,c] X.env=[(false,eval b X.env),(false,eval c X.env)]): PI X (.Tuple es kk tp) (.Call (.Name "zip" p) [a,b,c] [] pos) (λσ H R=>ta σ H λvs H1=>∃l0 l1 l2,vs=[.ref l0,.ref l1,.ref l2]/\(∃xs,iw X.K H1 l0 xs)/\(∃xs,iw X.K H1 l1 xs)/\(∃xs,iw X.K H1 l2 xs)/\R (P4 X.K 3<|P5 l0 l1 l2) H1):=by intro pins s σ H R I h;refine Call_<|gk I hg hm boot_zip<|PyProof.Rows.callWith_type1 (bw (ha pos pins s σ H _ I h) λus s1 ⟨vs,H1,I1,r1,q1⟩=>?_) (by rw[hs,uY]) (by rw[uY];rfl);obtain⟨l0,l1,l2,e,⟨Bh,q0⟩,⟨Bi,q2⟩,⟨Q9,q3⟩,q⟩:=q1;subst e;obtain⟨u,v,z,rfl,r,r',r''⟩:=r1.three;cases r;cases r';cases r'';obtain⟨HZ,Zd,p0,_⟩:=I1.tuple q0;obtain⟨P7,Uz,p1,_⟩:=I1.tuple q2;obtain⟨sS,Rp,p2,_⟩:=I1.tuple q3;refine Bs (show s1.heap.IsTuple l0 HZ.toArray from p0) (show s1.heap.IsTuple l1 P7.toArray from p1) (show s1.heap.IsTuple l2 sS.toArray from p2) λh' zs kp=>?_;have zn:ZN s1.heap.objs.size 3 (P5 l0 l1 l2) 0 h':={zs.1,zs.2.1,zs.2.2.1,Wo zs.2.2.2.1 zs.2.2.2.2.1 zs.2.2.2.2.2};refine wpAny_pyIter_zip (s:={s1 with heap:=h'}) zs.1 {_,_,_,_,H1,rfl,I1.kept (t':=s1.toks) kp,uA (by decide) (by decide)<|Wo p0.lt p1.lt p2.lt,zn,λb hb=>?_,q};obtain⟨j,_,rfl⟩:=qf hb;exact I1.pj (Nat.le_add_right _ _)<|I1.aJ.fresh<|Nat.le_add_right _ _
end
section
variable{K:Frag}{X:Cx}{a c e:Expr}{t:gX}{p pos tp:Pos}{es:List Expr}{kk:Nat}
theorem izn(hm:X.mg "zip"= none)(ha:DA K X [a,c] t)(hg:autoParam (Gl X "zip") qQJ)(hs:autoParam (starEach [a,c] X.env=[(false,eval a X.env),(false,eval c X.env)]) qQJ)(uY:autoParam (starEach [c] X.env=[(false,eval c X.env)]) qQJ)(hK:autoParam (X.K=K) qQJ): DI K X (.Tuple es kk tp) (.Call (.Name "zip" p) [a,c] [] pos) (Ui t):=by subst hK;exact⟨λy=>(P6 (X:=y.cx) hg hm (ha.of y) hs uY).mono λτ H R ⟨σ,S,RI,Z,aA,hS,q,hR,hZ⟩=>{σ,S,_,Z,aA,hS,q,λds S1 vs H1 ⟨xs,ys,e,hl,r1⟩ v1 s1 k1=>by subst e;obtain⟨v,u,rfl,ra,rb⟩:=v1.two;obtain⟨a,va,rfl,qa,ta⟩:=ra.tup;obtain⟨b,vb,rfl,qb,tb⟩:=rb.tup;refine{a,b,rfl,{va,.of qa},{vb,.of qb},hR _ S1 _ H1 r1 (λi S2 H2 k2 s2 _=>?_) s1 k1};have UR:iw X.K H2 a va:=.of<|k2.t _ _ qa;have US:iw X.K H2 b vb:=.of<|k2.t _ _ qb;have la:va.length=xs.length:=ta.len;let f:Nat->List V:=λj=>if j=0 then va else vb;refine{λd hd=>?_,λh=>{f,Wn UR US,by show va.length<=i;unfold cE at h;rw[List.length_zipWith]at h;lia}};unfold cE at hd;obtain⟨x,y',e1,e2,e3⟩:=List.getElem?_zipWith_eq_some.mp hd;subst e3;obtain⟨vx,f1,g1⟩:=(RvAll.ts k2 _ ta).get e1;obtain⟨vy,f2,g2⟩:=(RvAll.ts k2 _ tb).get e2;let g:Nat->V:=λj=>if j=0 then vx else vy;have ok:∀j,j<2->iw X.K H2 (two a b j) (f j)/\(f j)[i]?=some (g j):=Wn ⟨UR,f1⟩ ⟨US,f2⟩;refine{⟨f,g,ok⟩,λx' H' ⟨T,hT,e4,e5⟩=>?_};have:=e5 f g ok;subst this e4;have kk:Kp X.K H2 (upd H2 T<|.tup [vx,vy]):=.new hT;exact{nr aE<|RvAll.ts kk _<|aO g1<|aO g2 bx,kk,s2.grow hT},hZ}⟩
theorem Ze(hm:X.mg "zip"= none)(ha:DA K X [a,c,e] t)(hg:autoParam (Gl X "zip") qQJ)(hs:autoParam (starEach [a,c,e] X.env=[(false,eval a X.env),(false,eval c X.env),(false,eval e X.env)]) qQJ)(uY:autoParam (starEach [c,e] X.env=[(false,eval c X.env),(false,eval e X.env)]) qQJ)(hK:autoParam (X.K=K) qQJ): DI K X (.Tuple es kk tp) (.Call (.Name "zip" p) [a,c,e] [] pos) (P1 t):=by subst hK;exact⟨λy=>(P8 (X:=y.cx) hg hm (ha.of y) hs uY).mono λτ H R ⟨σ,S,RI,Z,aA,hS,q,hR,hZ⟩=>{σ,S,_,Z,aA,hS,q,λds S1 vs H1 ⟨xs,ys,zs,e,hl,FZ,r1⟩ v1 s1 k1=>by subst e;obtain⟨v,u,w,rfl,ra,rb,rc⟩:=v1.thr;obtain⟨a,va,rfl,qa,ta⟩:=ra.tup;obtain⟨b,vb,rfl,qb,tb⟩:=rb.tup;obtain⟨c,vc,rfl,qc,tc⟩:=rc.tup;refine{a,b,c,rfl,{va,.of qa},{vb,.of qb},{vc,.of qc},hR _ S1 _ H1 r1 (λi S2 H2 k2 s2 _=>?_) s1 k1};have UR:iw X.K H2 a va:=.of<|k2.t _ _ qa;have US:iw X.K H2 b vb:=.of<|k2.t _ _ qb;have qc2:iw X.K H2 c vc:=.of<|k2.t _ _ qc;have la:va.length=xs.length:=ta.len;let f:Nat->List V:=λj=>if j=0 then va else if j=1 then vb else vc;refine{λd hd=>?_,λh=>{f,Wo UR US qc2,by show va.length<=i;rw[la,<-nD hl FZ];exact h}};obtain⟨x,y',z,e1,e2,e3,e4⟩:=nE hd;subst e4;obtain⟨vx,f1,g1⟩:=(RvAll.ts k2 _ ta).get e1;obtain⟨vy,f2,g2⟩:=(RvAll.ts k2 _ tb).get e2;obtain⟨vz,f3,g3⟩:=(RvAll.ts k2 _ tc).get e3;let g:Nat->V:=λj=>if j=0 then vx else if j=1 then vy else vz;have ok:∀j,j<3->iw X.K H2 (P5 a b c j) (f j)/\(f j)[i]?=some (g j):=Wo ⟨UR,f1⟩ ⟨US,f2⟩ ⟨qc2,f3⟩;refine{⟨f,g,ok⟩,λx' H' ⟨T,hT,e4,e5⟩=>?_};have:=e5 f g ok;subst this e4;have kk:Kp X.K H2 (upd H2 T<|.tup [vx,vy,vz]):=.new hT;exact{nr aE<|RvAll.ts kk _<|aO g1<|aO g2<|aO g3 bx,kk,s2.grow hT},hZ}⟩
end
end L2
namespace My
open PySem L2
def top(i:Nat):Stmt:=PySem.Challenge.pw_pageturns_k31_pages_on_and_back.main.body.getD i<|.Pass {0,0,0,0}
abbrev E8:Stmt:=top 20
abbrev H9:Stmt:=top 21
abbrev E9:Stmt:=top 22
abbrev pG:Stmt:=top 29
abbrev BE:Stmt:=top 31
abbrev vq:Stmt:=top 34
abbrev kx:Stmt:=top 44
abbrev kT:Stmt:=top 47
abbrev BF:Stmt:=top 49
abbrev tm:Stmt:=top 57
abbrev xR:Stmt:=top 58
abbrev xS:Stmt:=top 62
abbrev q8:Stmt:=top 66
abbrev gB:Stmt:=top 68
abbrev gC:Stmt:=top 69
abbrev fq:Stmt:=top 70
abbrev BG:Stmt:=top 94
abbrev uB:Stmt:=top 96
abbrev q9:Stmt:=top 97
abbrev uC:Stmt:=top 99
abbrev uD:Stmt:=top 100
abbrev H_:Stmt:=top 104
abbrev LK:Stmt:=top 105
abbrev E_:Stmt:=top 106
abbrev Ia:Stmt:=top 108
abbrev bA:Stmt:=top 85
structure gY where
 (nF kU dN cJ Np lZ q_ vt je jf hW uE l4 gD kW rf rh uF rj l5 dO ao fU aP eO aH:Addr)
 (gE ft nG jg Ib fV jh:FuncData)
 (l6 nH l7 rl j7 xT j8 l8 xU:Tok)
 ts:List Addr
 (f BH:Nat->Addr)
 (d P9:Nat->FuncData)
structure Txt(w:World)(K:Frag)(mg:Str->Option Value)(t:gY):Prop where
 fn:E3 K mg top t.f t.d [17,18,19,20,21,22,23,24,25,26,29,30,31,32,33,34,35,41,42,43,44,45,46,47,48,49,50,51,57,58,59,60,61,62,63,65,66,67,69,75,76,77,78,79,80,81,82,83,86,88,89,90,91,92,93,94,95,96,97,98,99,100,101,102,103,104,105,106,107,108,109]
 d9:E6 K t.ao "Shelf." bA t.BH t.P9 [0,1,2,3,4,5,6,7,8,13]
 fu:HP K mg "sorted_by_keys" (top 68) ["rows","way"] t.nF t.gE
 dP:HP K mg "sorted_by_values" (top 70) ["columns","part","rows"] t.kU t.ft
 eS:HP K mg "page_on" (top 73) ["shelf","order","sieve","size","gap","moment"] t.dN t.nG
 xV:Binds K t.nG ["shelf","order","sieve","size","gap","moment"] [.none]
 xW:Binds K t.nG ["shelf","order","sieve","size","gap","moment"] [.none,.none]
 cR:HP K mg "page_back" (top 74) ["shelf","order","sieve","size","gap","moment"] t.cJ t.jg
 tq:Binds K t.jg ["shelf","order","sieve","size","gap","moment"] [.none]
 tw:Binds K t.jg ["shelf","order","sieve","size","gap","moment"] [.none,.none]
 Zg:HP K mg "law" (top 110) ["_law_script"] t.Np t.Ib
 dj:Nl K t.ao "worths_at" "Shelf.worths_at" (inClass bA 9) ["self","key","moment"] t.lZ t.fV
 eP:Binds K t.fV ["self","key","moment"] [.none]
 dD:Nl K t.ao "all_at" "Shelf.all_at" (inClass bA 10) ["self","moment"] t.q_ t.jh
 nI:Binds K t.jh ["self","moment"] [.none]
 kX:mg "MOST_NAME_SIGNS"= some (.int 8 t.l6)
 l9:mg "MOST_KEY_SIGNS"= some (.int 12 t.nH)
 kY:mg "MOST_WORD_SIGNS"= some (.int 40 t.l7)
 pH:mg "MOST_COLUMNS"= some (.int 8 t.rl)
 ji:mg "MOST_PARTS_orders"= some (.int 8 t.j7)
 vA:mg "MOST_DEEP"= some (.int 8 t.xT)
 jj:mg "MOST_PARTS_sieves"= some (.int 200 t.j8)
 kZ:mg "MOST_IN_A_TUPLE"= some (.int 8 t.l8)
 vB:mg "MOST_ROWS"= some (.int 1000 t.xU)
 Ie:mg "KINDS"= some (.ref t.vt)
 Ig:∀H,Rv K H (.kt [.str "number",.str "word"])<|.ref t.vt
 vE:mg "OTHER_WAY"= some (.ref t.je)
 xX:JH w K t.je [("up",.str "down"),("down",.str "up")]
 vF:mg "OTHER_END"= some (.ref t.jf)
 xY:JH w K t.jf [("first",.str "last"),("last",.str "first")]
 tD:mg "OTHER_SIDE"= some (.ref t.hW)
 vG:JH w K t.hW [("ahead",.str "behind"),("behind",.str "ahead")]
 BI:mg "LENGTHS"= some (.ref t.uE)
 Fc:JH w K t.uE [("every",.int 1),("is",.int 3),("below",.int 3),("above",.int 3),("begins",.int 3),("key",.int 2),("not",.int 2),("and",.int 2),("or",.int 2)]
 aI:mg "len"= none
 jk:mg "all"= none
 Nq:mg "any"= none
 au:mg "isinstance"= none
 d_:mg "range"= none
 xZ:mg "int"= none
 oH:mg "str"= none
 P_:mg "bool"= none
 bu:mg "tuple"= none
 Qa:mg "list"= none
 Ih:mg "dict"= none
 Nr:mg "set"= none
 Ii:mg "zip"= none
 gF:mg "sorted"= none
 Nt:mg "min"= none
 Nu:mg "max"= none
 UT:mg "sum"= none
 rm:mg "reversed"= none
 gs:mg "BadColumns"= some (.ref t.l4)
 dE:excIn K t.l4 L2.nq "ValueError.__new__"= true
 jR:mg "BadRow"= some (.ref t.gD)
 gG:excIn K t.gD L2.nq "ValueError.__new__"= true
 eE:mg "BadOrder"= some (.ref t.kW)
 dq:excIn K t.kW L2.nq "ValueError.__new__"= true
 oI:mg "BadSieve"= some (.ref t.rf)
 h_:excIn K t.rf L2.nq "ValueError.__new__"= true
 eF:mg "BadPlace"= some (.ref t.rh)
 dr:excIn K t.rh L2.nq "ValueError.__new__"= true
 BJ:mg "BadSize"= some (.ref t.uF)
 nJ:excIn K t.uF L2.nq "ValueError.__new__"= true
 Fd:mg "HasKey"= some (.ref t.rj)
 rn:excIn K t.rj L2.nq "ValueError.__new__"= true
 Ij:mg "NoKey"= some (.ref t.l5)
 vH:excIn K t.l5 L2.nq "ValueError.__new__"= true
 x5:mg "NoMoment"= some (.ref t.dO)
 k7:excIn K t.dO L2.nq "ValueError.__new__"= true
 Ik:mg "Shelf"= some (.ref t.ao)
 ak:qx K t.ao
 Il:Mk K t.ao (t.BH 0)
 cS:findIn K (.ref t.ao) "columns"= some none
 cK:findIn K (.ref t.ao) "deeds"= some none
 bQ:findIn K (.ref t.ao) "runs"= some none
 fW:t.gE.code=.ref t.fU
 dF:codeHdIn K t.fU t.aP=true
 l_:t.aP∈t.ts
 eQ:t.ft.code=.ref t.eO
 cY:codeHdIn K t.eO t.aH=true
 j9:t.aH∈t.ts
 np:[t.aP,t.aH].Nodup
 ta:∀b∈t.ts,b=t.aP\/b=t.aH
 bl:∀(s:Shared)(u:Value),BindsTo s t.Ib {[u],[]} [("_law_script",u)]
section
variable{w:World}{K:Frag}{mg:Str->Option Value}{t:gY}(T:Txt w K mg t)
def Txt.jl:=T.fn 17<|by decide
def Txt.gH:=T.fn 18<|by decide
def Txt.nK:=T.fn 19<|by decide
def Txt.qg:=T.fn 20<|by decide
def Txt.k8:=T.fn 21<|by decide
def Txt.vI:=T.fn 22<|by decide
def Txt.vJ:=T.fn 23<|by decide
def Txt.jm:=T.fn 24<|by decide
def Txt.compared:=T.fn 25<|by decide
def Txt.du:=T.fn 26<|by decide
def Txt.gu:=T.fn 29<|by decide
def Txt.nL:=T.fn 30<|by decide
def Txt.ma:=T.fn 31<|by decide
def Txt.dQ:=T.fn 32<|by decide
def Txt.jS:=T.fn 33<|by decide
def Txt.k9:=T.fn 34<|by decide
def Txt.cz:=T.fn 35<|by decide
def Txt.vK:=T.fn 41<|by decide
def Txt.BK:=T.fn 42<|by decide
def Txt.vL:=T.fn 43<|by decide
def Txt.jn:=T.fn 44<|by decide
def Txt.vM:=T.fn 45<|by decide
def Txt.jo:=T.fn 46<|by decide
def Txt.dR:=T.fn 47<|by decide
def Txt.nM:=T.fn 48<|by decide
def Txt.rq:=T.fn 49<|by decide
def Txt.eM:=T.fn 50<|by decide
def Txt.rA:=T.fn 51<|by decide
def Txt.jq:=T.fn 57<|by decide
def Txt.nN:=T.fn 58<|by decide
def Txt.dG:=T.fn 59<|by decide
def Txt.jr:=T.fn 60<|by decide
def Txt.gv:=T.fn 61<|by decide
def Txt.passes:=T.fn 62<|by decide
def Txt.ia:=T.fn 63<|by decide
def Txt.dH:=T.fn 65<|by decide
def Txt.ib:=T.fn 66<|by decide
def Txt.rB:=T.fn 67<|by decide
def Txt.fw:=T.fn 69<|by decide
def Txt.k_:=T.fn 75<|by decide
def Txt.ic:=T.fn 76<|by decide
def Txt.nO:=T.fn 77<|by decide
def Txt.lg:=T.fn 78<|by decide
def Txt.eT:=T.fn 79<|by decide
def Txt.ie:=T.fn 80<|by decide
def Txt.lh:=T.fn 81<|by decide
def Txt.js:=T.fn 82<|by decide
def Txt.fX:=T.fn 83<|by decide
def Txt.fY:=T.fn 86<|by decide
def Txt.dS:=T.fn 88<|by decide
def Txt.fZ:=T.fn 89<|by decide
def Txt.qh:=T.fn 90<|by decide
def Txt.nQ:=T.fn 91<|by decide
def Txt.me:=T.fn 92<|by decide
def Txt.x6:=T.fn 93<|by decide
def Txt.rC:=T.fn 94<|by decide
def Txt.vN:=T.fn 95<|by decide
def Txt.ig:=T.fn 96<|by decide
def Txt.gI:=T.fn 97<|by decide
def Txt.vO:=T.fn 98<|by decide
def Txt.mf:=T.fn 99<|by decide
def Txt.vP:=T.fn 100<|by decide
def Txt.lj:=T.fn 101<|by decide
def Txt.BL:=T.fn 102<|by decide
def Txt.vQ:=T.fn 103<|by decide
def Txt.vR:=T.fn 104<|by decide
def Txt.Im:=T.fn 105<|by decide
def Txt.vS:=T.fn 106<|by decide
def Txt.BM:=T.fn 107<|by decide
def Txt.lq:=T.fn 108<|by decide
def Txt.qj:=T.fn 109<|by decide
def Txt.fz:=T.d9 0<|by decide
def Txt.eX:=T.d9 1<|by decide
def Txt.cT:=T.d9 2<|by decide
def Txt.dU:=T.d9 3<|by decide
def Txt.ck:=T.d9 4<|by decide
def Txt.bL:=T.d9 5<|by decide
def Txt.cn:=T.d9 6<|by decide
def Txt.aS:=T.d9 7<|by decide
def Txt.dW:=T.d9 8<|by decide
def Txt.cq:=T.d9 13<|by decide
end
def x8:=bO<|top 17
def vT:=bO<|top 18
def vU:=bO<|top 19
def BN:=bO<|top 20
def Fe:=bO<|top 21
def BO:=bO<|top 22
def BP:=bO<|top 23
def x9:=bO<|top 24
def oJ:=bO<|top 25
def dJ:=bO<|top 26
def nR:=bO<|top 29
def vV:=bO<|top 30
def x_:=bO<|top 31
def tE:=bO<|top 32
def vW:=bO<|top 33
def tG:=bO<|top 34
def yY:=bO<|top 35
def Ff:=bO<|top 41
def Fh:=bO<|top 42
def BQ:=bO<|top 43
def fA:=bO<|top 44
def BR:=bO<|top 45
def rD:=bO<|top 46
def j_:=bO<|top 47
def vX:=bO<|top 48
def oK:=bO<|top 49
def bC:=bO<|top 50
def oM:=bO<|top 51
def bD:=bO<|top 57
def vY:=bO<|top 58
def mh:=bO<|top 59
def jt:=bO<|top 60
def dX:=bO<|top 61
def uG:=bO<|top 62
def pI:=bO<|top 63
def mi:=bO<|top 65
def iE:=bO<|top 66
def f6:=bO<|top 67
def mj:=bO<|top 68
def cH:=bO<|top 69
def ke:=bO<|top 70
def BS:=bO<|top 73
def vZ:=bO<|top 74
def kz:=bO<|top 75
def iF:=bO<|top 76
def v5:=bO<|top 77
def tH:=bO<|top 78
def pJ:=bO<|top 79
def tI:=bO<|top 80
def tJ:=bO<|top 81
def rE:=bO<|top 82
def bZ:=bO<|top 83
def ju:=bO<|top 86
def v7:=bO<|top 88
def cL:=bO<|top 89
def BU:=bO<|top 90
def cU:=bO<|top 91
def rF:=bO<|top 92
def yZ:=bO<|top 93
def y0:=bO<|top 94
def dY:=bO<|top 95
def cM:=bO<|top 96
def eG:=bO<|top 97
def eY:=bO<|top 98
def rG:=bO<|top 99
def fB:=bO<|top 100
def tK:=bO<|top 101
def gJ:=bO<|top 102
def Fi:=bO<|top 103
def Fj:=bO<|top 104
def mm:=bO<|top 105
def cN:=bO<|top 106
def Fl:=bO<|top 107
def eZ:=bO<|top 108
def bq:=bO<|top 109
def jv:=bO<|top 110
def mn:=bO<|inClass bA 0
def v8:=bO<|inClass bA 1
def pK:=bO<|inClass bA 2
def tL:=bO<|inClass bA 3
def iO:=bO<|inClass bA 4
def gL:=bO<|inClass bA 5
def dM:=bO<|inClass bA 6
def jw:=bO<|inClass bA 7
def v9:=bO<|inClass bA 8
def fC:=bO<|inClass bA 9
def eN:=bO<|inClass bA 10
def iP:=bO<|inClass bA 13
theorem sm(h:n<=1000):n<=sizeLine:=yK<|jL h
theorem tM:0<=sizeLine:=sm<|by decide
theorem pL:1<=sizeLine:=sm<|by decide
theorem cu:2<=sizeLine:=sm<|by decide
theorem pM:3<=sizeLine:=sm<|by decide
theorem tN:4<=sizeLine:=sm<|by decide
theorem Zh:6<=sizeLine:=sm<|by decide
theorem Fm:8<=sizeLine:=sm<|by decide
theorem UU:12<=sizeLine:=sm<|by decide
def Gt(S:aw)(d:D):Prop:=(∃k,Pq S d k)/\∀z,d=.str z->z.cps.size<=1000
noncomputable def isLet(c:Nat):Bool:=decide (97<=c)&&decide (c<=122)
noncomputable def Du(c:Nat):Bool:=decide (48<=c)&&decide (c<=57)
noncomputable def Dw(c:Nat):Bool:=decide (32<=c)&&decide (c<=126)
noncomputable def kB(z:Str):Bool:=decide (1<=z.cps.size)&&decide (z.cps.size<=8)&&z.cps.toList.all isLet
noncomputable def kf(z:Str):Bool:=decide (1<=z.cps.size)&&decide (z.cps.size<=12)&&(z.cps.toList.head?.any isLet)&&z.cps.toList.all λc=>isLet c||Du c
noncomputable def oN(z:Str):Bool:=decide (z.cps.size<=40)&&z.cps.toList.all Dw
noncomputable def ofStr(f:Str->Bool):D->Bool|.str z=>f z|_=>false
noncomputable def rH:D->Bool|.int _=>true|_=>false
noncomputable def iQ(kind:Str)(d:D):Bool:=ah d||if kind ="number" then rH d else ofStr oN d
def LL(f:D->Bool):ja:=λds S R _=>∃d,ds=[d]/\Gt S d/\R (.bl<|f d) S
def Io(f:Nat->Bool):ja:=λds S R _=>∃c,ds=[.str ⟨#[c]⟩]/\R (.bl<|f c) S
theorem oO:∀{xs ys:List D}{a b:D},Paired rel xs ys->rel a b->Paired rel (xs++[a]) (ys++[b])|_,_,_,_,.nil,r=>.cons r .nil|_,_,_,_,.cons q t,r=>.cons q<|oO t r
theorem take_snoc{α:Type}{l:List α}{i:Nat}{d:α}(h:l[i]?=some d):l.take (i+1)=l.take i++[d]:=by rw[List.take_add_one,h];rfl
theorem fE{I:oB}{S1:aw}{g:xC}{te:TD}{σ:SD}{src:List<|Option Nat}{R:KD}(rel:D->D->Prop)(aJ:I.ok S1)(hz:I.xs.length<=1000) (step:∀d,d∈I.xs->∀Q:KD,(∀v,rel d v->Q v S1)->g d (lW σ src) S1 λfM S3=>te fM S3 Q Zf) (fin:∀out,Paired rel I.xs out->∀p,S1 p=none->R (.ref p) (S1.set p<|.lst out)): xD σ src g lX te R I S1:=by
 refine{λi out S=>S=S1/\Paired rel (I.xs.take i) out,{rfl,.nil},λi out S h=>by rw[h.1];exact aJ,?_,?_};rintro i d out S hd ⟨rfl,hp⟩;have hlen:=yL hp;rw[ym]at hlen;refine{jL<|by lia,?_};have e:(λ(fM:SD)(S3:aw)=>lX fM S3 (λb S4=>if b=true then te fM S4 (λv S5=>S5=S/\Paired rel (I.xs.take<|i+1) (out++[v])) Zf else S4=S/\Paired rel (I.xs.take<|i+1) out) Zf)=λfM S3=>te fM S3 (λv S5=>S5=S/\Paired rel (I.xs.take<|i+1) (out++[v])) Zf:=by funext fM S3;simp[lX]
 rw[e];exact step d (zE hd) _ λv hv=>{rfl,by rw[take_snoc hd];exact oO hp hv};rintro out S2 ⟨rfl,hp⟩;rw[yG]at hp;exact fin out hp
theorem rJ:∀{xs out:List D},Paired (λd v=>v=f d) xs out->out=xs.map f|_,_,.nil=>rfl|_,_,.cons r t=>by rw[r,rJ t];rfl
theorem comp_map(f:D->D)(aJ:I.ok S1)(hz:I.xs.length<=1000) (step:∀d,d∈I.xs->∀Q:KD,Q (f d) S1->g d (lW σ src) S1 λfM S3=>te fM S3 Q Zf) (fin:∀p,S1 p=none->R (.ref p) (S1.set p<|.lst<|I.xs.map f)): xD σ src g lX te R I S1:=fE (λd v=>v=f d) aJ hz (λd hd Q h=>step d hd Q<|h _ rfl) λout hp p Rw=>by rw[rJ hp];exact fin p Rw
theorem e_{I:oB}{S1:aw}{g:xC}{tc:lT}{te:TD}{σ:SD}{src:List<|Option Nat}{R:KD}(keep:D->Bool)(f:D->D)(aJ:I.ok S1)(hz:I.xs.length<=1000) (step:∀d,d∈I.xs->∀(Q:KD)(Q':aw->Prop),(keep d=true->Q (f d) S1)->(keep d=false->Q' S1)->g d (lW σ src) S1 λfM S3=>tc fM S3 (λb S4=>if b=true then te fM S4 Q Zf else Q' S4) Zf) (fin:∀p,S1 p=none->R (.ref p) (S1.set p<|.lst<|(I.xs.filter keep).map f)): xD σ src g tc te R I S1:=by refine{λi out S=>S=S1/\out=((I.xs.take i).filter keep).map f,⟨rfl,rfl⟩,λi out S h=>by rw[h.1];exact aJ,?_,?_};rintro i d out S hd ⟨rfl,rfl⟩;have hlen:((I.xs.take i).filter keep).length<=(I.xs.take i).length:=List.length_filter_le _ _;rw[ym]at hlen;refine{by rw[zb];exact jL<|by lia,?_};refine step d (zE hd) _ (λS4=>S4=S/\_=_) (λhk=>{rfl,?_}) λhk=>{rfl,?_};rw[take_snoc hd,List.filter_append,zK,yM,if_pos hk];rfl;rw[take_snoc hd,List.filter_append,yM,if_neg<|by rw[hk];exact zd];simp;rintro out S2 ⟨rfl,rfl⟩;rw[yG];exact fin
variable{P:Program}{w:World}{K:Frag}{mg:Str->Option Value}{base:Heap}{t:gY}
theorem jx(T:Txt w K mg t):Ok P w base T.jl 1 (LL rH):=by
 refine T.jl.F.bV x8 ?_;obtain⟨d,e,⟨⟨k,hk⟩,hz⟩,q⟩;refine{_,(s1<|sr<|pB (cb cF T.au aq<|al 0<|ac (p7 T.xZ qF) an)<|Ga<|Po<|cb cF T.au aq<|al 0<|ac (p7 T.P_ Kx) an),?_};refine !{_,_,_,_,rfl,KA,hk,_,rfl,?_};have:(Ba k=true/\((rH d=true/\u_ k=false)\/(rH d=false/\u_ k=true)))\/(Ba k=false/\rH d=false):=by cases d with|av=>(cases hk;exact .inr ⟨rfl,rfl⟩)|bl b=>(cases hk;exact .inl {rfl,.inr ⟨rfl,rfl⟩})|int b=>(cases hk;exact .inl {rfl,.inl ⟨rfl,rfl⟩})|str b=>(cases hk;exact .inr ⟨rfl,rfl⟩)|tup b=>(cases hk;exact .inr ⟨rfl,rfl⟩)|ref a=>(rcases hk with⟨rfl,_⟩|⟨rfl,_⟩<;>exact .inr ⟨rfl,rfl⟩)|_=>exact hk.elim
 rcases this with⟨h1,h2⟩|⟨h1,h2⟩;rw[h1];refine eC !{_,_,_,_,rfl,Ha,hk,_,rfl,?_};rcases h2 with⟨h2,h3⟩|⟨h2,h3⟩<;>(rw[h3];rw[h2]at q;exact fo q);rw[h1];rw[h2]at q;exact aZ<|fo q
theorem ij(T:Txt w K mg t):Ok P w base T.gH 1 (Io isLet):=by refine T.gH.F.bV vT ?_;obtain⟨c,e,q⟩;refine{_,(s1<|sr<|cc i8 i8 hr.u ds (dv 0) ds),?_};refine !!⟨?_⟩;have e1:F9 "a" ⟨#[c]⟩=decide (97<=c):=jN 97 c;have e2:F9 ⟨#[c]⟩ "z"= decide (c<=122):=jN c 122;unfold isLet at q;refine bT (λh=>?_) λh=>?_;rw[e1.symm.trans h,ye,<-e2]at q;exact fo q;rw[e1.symm.trans h,zW]at q;exact fo q
theorem v_(T:Txt w K mg t):Ok P w base T.nK 1 (Io Du):=by refine T.nK.F.bV vU ?_;obtain⟨c,e,q⟩;refine{_,(s1<|sr<|cc i8 i8 hr.u ds (dv 0) ds),?_};refine !!⟨?_⟩;have e1:F9 "0" ⟨#[c]⟩=decide (48<=c):=jN 48 c;have e2:F9 ⟨#[c]⟩ "9"= decide (c<=57):=jN c 57;unfold Du at q;refine bT (λh=>?_) λh=>?_;rw[e1.symm.trans h,ye,<-e2]at q;exact fo q;rw[e1.symm.trans h,zW]at q;exact fo q
theorem Fn(h:d∈fi z):∃c,c∈z.cps.toList/\d=.str ⟨#[c]⟩:=by unfold fi at h;obtain⟨c,hc,e⟩:=zh.mp h;exact⟨c,hc,e.symm⟩
noncomputable def Dx(f:Nat->Bool):D->D|.str z=>.bl (z.cps.toList.head?.any f)|_=>.av
theorem Fp:(fi z).map (Dx f)=(z.cps.toList.map f).map D.bl:=by unfold fi;rw[zy,zy];rfl
theorem all_map{α:Type}{l:List α}{f:α->Bool} : (l.map f).all id=l.all f:=by rw[List.all_map];rfl
theorem nS{z:Str}{f:Nat->Bool}{g:xC}{te:TD}{σ:SD}{src:List<|Option Nat}{S:aw}{R:KD}{Z:KX}{i:Nat}(hv:σ[i]?=some (some<|.str z))(hz:z.cps.size<=1000) (step:∀c,c∈z.cps.toList->∀Q:KD,Q (.bl<|f c) S->g (.str ⟨#[c]⟩) (lW σ src) S λfM S3=>te fM S3 Q Zf) (q:R (.bl<|z.cps.toList.all f) S): VX TQ (MV (C_ (M9<|Tq i) src g lX te) K8) σ S (λd S'=>Fo S'<|R d) Z:=by refine{_,hv,z,rfl,?_};refine My.comp_map (I:={fi z,λ_=>True}) (Dx f) trivial (by show(fi z).length<=1000;unfold fi;rw[zb,zX];exact hz) (λd hd Q hQ=>?_) λp hp=>?_;obtain⟨c,hc,rfl⟩:=Fn hd;exact step c hc Q (by simpa [Dx]using hQ);refine{.ref p,z.cps.toList.map f,rfl,?_,S,.new hp,?_};show(S.set p<|.lst<|(fi z).map<|Dx f) p=_;rw[aa,Fp];rw[all_map];exact q
theorem BV{S:aw}{d:D}{k:Kd}(hk:Pq S d k):(∃z,d=.str z/\Bb k=true)\/(Bb k=false/\∀f,ofStr f d=false):=by cases d with|str b=>(cases hk;exact .inl ⟨b,rfl,rfl⟩)|av=>(cases hk;exact .inr {rfl,λ_=>rfl})|bl b=>(cases hk;exact .inr {rfl,λ_=>rfl})|int b=>(cases hk;exact .inr {rfl,λ_=>rfl})|tup b=>(cases hk;exact .inr {rfl,λ_=>rfl})|ref a=>(rcases hk with⟨rfl,_⟩|⟨rfl,_⟩<;>exact .inr {rfl,λ_=>rfl})|_=>exact hk.elim
theorem Qb{S:aw}{d:D}{k:Kd}(hk:Pq S d k):(∃ds,d=.tup ds/\qH k=true)\/(qH k=false/\∀ds,d≠.tup ds):=by cases d with|tup b=>(cases hk;exact .inl ⟨b,rfl,rfl⟩)|av=>(cases hk;exact .inr {rfl,λ_=>nofun})|bl b=>(cases hk;exact .inr {rfl,λ_=>nofun})|int b=>(cases hk;exact .inr {rfl,λ_=>nofun})|str b=>(cases hk;exact .inr {rfl,λ_=>nofun})|ref a=>(rcases hk with⟨rfl,_⟩|⟨rfl,_⟩<;>exact .inr {rfl,λ_=>nofun})|_=>exact hk.elim
theorem rK(T:Txt w K mg t):Ok P w base T.qg 2 (LL<|ofStr kB):=by
 refine T.qg.F.bV BN ?_;obtain⟨d,e,⟨⟨k,hk⟩,hz⟩,q⟩;refine{_,(sc (si (twd<|twor (cg<|tv<|cb cF T.au aq<|al 0<|ac (p7 T.oH i6) an)<|tw1<|cg<|VW i8 i8 hr.u di (cb aK T.aI aC<|al 0 an)<|dg (v:=.int 8) T.kX {_,rfl} λ_=>aN _) (s1<|sr db) s0)<|s1<|sr<|cb i_ T.jk fb<|ac (sZ (N:=["sign"]) (src:=[none]) (iT (ae E8) ["thing"] rfl rfl<|by trivial) (PD<|dv 0) (oF<|show(["sign"]:List Str).Nodup by trivial) (aQ rfl) aR (λ_ _ _ _ _=>oE) λ_ _ _ _ _=>(aY T.gH (ij T) hr<|al 0 an)) an),?_};refine !{_,_,_,_,rfl,cQ,hk,_,rfl,?_};rcases BV hk with⟨z,rfl,h0⟩|⟨h0,h1⟩;have hz:=hz z rfl;rw[h0];refine aZ ?_;refine !!⟨{sm hz,?_}⟩;refine{_,rfl,?_};have e1:decide ((1:Int)<=(z.length:Nat))=decide (1<=z.cps.size):=by rw[yN];show(1:Int)<=((z.cps.size:Nat):Int)↔_;omega
 have e2:decide (((z.length:Nat):Int)<=8)=decide (z.cps.size<=8):=by rw[yN];show((z.cps.size:Nat):Int)<=8↔_;omega
 unfold ofStr kB at q;dsimp only at q;refine bT (λh2=>?_) λh2=>?_;rw[e1.symm.trans h2,ye]at q;refine{_,rfl,?_};refine bT (λh3=>?_) λh3=>?_;rw[e2.symm.trans<|nt h3,zW]at q;exact fo q;rw[e2.symm.trans<|nf h3,ye]at q;exact nS rfl hz (λc hc Q hQ=>!⟨c,rfl,hQ⟩) q;rw[e1.symm.trans h2,zW,zW]at q;refine{_,rfl,?_};exact eC<|fo q;rw[h0];rw[h1]at q;exact eC<|eC<|fo q
def ay(c:Str×Str):D:=.tup [.str c.1,.str c.2]
def Gd(cs:List<|Str×Str):Prop:=cs.length<=8/\(cs.map Prod.fst).Nodup/\∀c∈cs,kB c.1=true/\(c.2 ="number"\/c.2 ="word")
noncomputable def mq(cs:List<|Str×Str):D->Bool|.tup ws=>decide (ws.length=cs.length)&&(List.zipWith (λc v=>iQ c.2 v) cs ws).all id|_=>false
noncomputable def nU(cs:List<|Str×Str)(k v:D):Bool:=ofStr kf k&&mq cs v
def Rx(S:aw)(d:D):Prop:=Gt S d/\∀ws,d=.tup ws->ws.length<=1000/\∀v∈ws,Gt S v
theorem gM(T:Txt w K mg t):Ok P w base T.k8 2 (LL<|ofStr kf):=by
 refine T.k8.F.bV Fe ?_;obtain⟨d,e,⟨⟨k,hk⟩,hz⟩,q⟩;refine{_,(sc (si (twd<|twor (cg<|tv<|cb cF T.au aq<|al 0<|ac (p7 T.oH i6) an)<|tw1<|cg<|VW i8 i8 hr.u di (cb aK T.aI aC<|al 0 an)<|dg (v:=.int 12) T.l9 {_,rfl} λ_=>aN _) (s1<|sr db) s0)<|sc (si (cg<|tv<|aY T.gH (ij T) hr<|ac (ix hr.u (dv 0) di) an) (s1<|sr db) s0)<|s1<|sr<|cb i_ T.jk fb<|ac (sZ (N:=["sign"]) (src:=[none]) (iT (ae H9) ["thing"] rfl rfl<|by trivial) (PD<|dv 0) (oF<|show(["sign"]:List Str).Nodup by trivial) (aQ rfl) aR (λ_ _ _ _ _=>oE) λ_ _ _ _ _=>(eor (aY T.gH (ij T) hr<|al 0 an)<|Ga<|aY T.nK (v_ T) hr<|al 0 an)) an),?_};refine !{_,_,_,_,rfl,cQ,hk,_,rfl,?_};rcases BV hk with⟨z,rfl,h0⟩|⟨h0,h1⟩;have hz:=hz z rfl;rw[h0];refine aZ ?_;refine !!⟨{sm hz,?_}⟩;refine{_,rfl,?_};have e1:decide ((1:Int)<=(z.length:Nat))=decide (1<=z.cps.size):=by rw[yN];show(1:Int)<=((z.cps.size:Nat):Int)↔_;omega
 have e2:decide (((z.length:Nat):Int)<=12)=decide (z.cps.size<=12):=by rw[yN];show((z.cps.size:Nat):Int)<=12↔_;omega
 unfold ofStr kf at q;dsimp only at q;refine bT (λh2=>?_) λh2=>?_;have XU:=e1.symm.trans h2;rw[XU,ye]at q;refine{_,rfl,?_};refine bT (λh3=>?_) λh3=>?_;rw[e2.symm.trans<|nt h3,zW,zW]at q;exact fo q;rw[e2.symm.trans<|nf h3,ye]at q;obtain⟨c,r,ec⟩:=len_pos (z:=z)<|zB XU;have eh:z.cps.toList.head?.any isLet=isLet c:=by rw[ec];rfl
 rw[eh]at q;refine !{c,sm hz,at0 ec,c,rfl,_,rfl,?_};refine bT (λh4=>?_) λh4=>?_;rw[nt h4,zW]at q;exact fo q;rw[nf h4,ye]at q;refine nS (f:=λc=>isLet c||Du c) rfl hz (λc hc Q hQ=>?_) q;refine !{c,rfl,_,rfl,?_};refine bT (λh5=>?_) λh5=>?_;rw[h5,Bool.true_or]at hQ;exact hQ;rw[h5,yV]at hQ;exact{_,rfl,c,rfl,hQ};rw[e1.symm.trans h2,zW,zW,zW]at q;refine{_,rfl,?_};exact eC<|fo q;rw[h0];rw[h1]at q;exact eC<|eC<|fo q
theorem BW(T:Txt w K mg t):Ok P w base T.vI 2 (LL<|ofStr oN):=by
 refine T.vI.F.bV BO ?_;obtain⟨d,e,⟨⟨k,hk⟩,hz⟩,q⟩;refine{_,(sc (si (twd<|twor (cg<|tv<|cb cF T.au aq<|al 0<|ac (p7 T.oH i6) an)<|tw1<|bf pE hr.u (cb aK T.aI aC<|al 0 an)<|dg (v:=.int 40) T.kY {_,rfl} λ_=>aN _) (s1<|sr db) s0)<|s1<|sr<|cb i_ T.jk fb<|ac (sZ (N:=["sign"]) (src:=[none]) (iT (ae E9) ["thing"] rfl rfl<|by trivial) (PD<|dv 0) (oF<|show(["sign"]:List Str).Nodup by trivial) (aQ rfl) aR (λ_ _ _ _ _=>oE) λ_ _ _ _ _=>(cc i8 i8 hr.u ds (dv 0) ds)) an),?_};refine !{_,_,_,_,rfl,cQ,hk,_,rfl,?_};rcases BV hk with⟨z,rfl,h0⟩|⟨h0,h1⟩;have hz:=hz z rfl;rw[h0];refine aZ ?_;refine !!⟨{sm hz,?_}⟩;refine{_,rfl,?_};have e2:decide ((40:Int)<((z.length:Nat):Int))=!decide (z.cps.size<=40):=by rw[yp];simp only[decide_eq_true_iff,Bool.not_eq_true',yq];show(40:Int)<((z.cps.size:Nat):Int)↔_;omega
 unfold ofStr oN at q;dsimp only at q;refine bT (λh3=>?_) λh3=>?_;rw[nt<|e2.symm.trans h3,zW]at q;exact fo q;rw[nf<|e2.symm.trans h3,ye]at q;refine nS (f:=Dw) rfl hz (λc hc Q hQ=>?_) q;refine !!⟨?_⟩;have e3:F9 " " ⟨#[c]⟩=decide (32<=c):=jN 32 c;have e4:F9 ⟨#[c]⟩ "~"= decide (c<=126):=jN c 126;unfold Dw at hQ;refine bT (λh=>?_) λh=>?_;rw[e3.symm.trans h,ye,<-e4]at hQ;exact hQ;rw[e3.symm.trans h,zW]at hQ;exact hQ;rw[h0];rw[h1]at q;exact eC<|eC<|fo q
inductive rL (ds:List D) (S:aw) (R:KD) (Z:KX):Prop where
 |mk (kind d) (h0:ds=[.str kind,d]) (h1:Gt S d) (h2:R (.bl<|iQ kind d) S)
theorem jy(T:Txt w K mg t):Ok P w base T.jm 3 rL:=by refine T.jm.F.bV x9 ?_;obtain⟨kind,d,e,hd,q⟩;refine{_,(sc (si (bf fh hr.u (dv 1) dn) (s1<|sr db) s0)<|sc (si (bf aU hr.u (dv 0) ds) (s1<|sr<|aY T.jl (jx T) hr<|al 1 an) s0)<|s1<|sr<|aY T.vI (BW T) hr<|al 1 an),?_};refine !!⟨?_⟩;unfold iQ at q;refine bT (λh=>?_) λh=>?_;rw[h,Bool.true_or]at q;exact fo q;rw[h,yV]at q;refine !!⟨?_⟩;refine bT (λh=>?_) λh=>?_;rw[if_pos<|zB h]at q;exact !{d,rfl,hd,fo q};rw[if_neg<|yd h]at q;exact !{d,rfl,hd,fo q}
theorem gt_str(h:z.cps.size<=1000):Gt S (.str z):={{.str,rfl},λy e=>by cases e;exact h}
theorem nV(h:kB z=true):z.cps.size<=1000:=by unfold kB at h;simp only[zL,zR]at h;lia
theorem Fq(h:∀c v,f (.tup [ay c,v])=.bl (iQ c.2 v)):(cE (cs.map ay) ws).map f=(List.zipWith (λc v=>iQ c.2 v) cs ws).map D.bl:=by unfold cE;induction cs generalizing ws with|nil=>(cases ws<;>rfl)|cons c cs ih=>cases ws with|nil=>rfl|cons v ws=>show f (.tup [ay c,v])::(List.zipWith _ (cs.map ay) ws).map f=.bl (iQ c.2 v)::_;rw[h,ih]
noncomputable def pairF:D->D|.tup [.tup [_,.str k],v]=>.bl (iQ k v)|_=>.av
inductive uH (ds:List D) (S:aw) (R:KD) (Z:KX):Prop where
 |mk (z) (h0:ds=[.str z]) (h1:(z ="number"\/z ="word")) (h2:R (.bl true) S)
theorem BX(T:Txt w K mg t):Ok P w base T.vJ 1 uH:=by
 refine T.vJ.F.bV BP ?_;obtain⟨z,e,hz,q⟩;refine{_,(s1<|sr<|pB (cb cF T.au aq<|al 0<|ac (p7 T.oH i6) an)<|Ga<|cm vh hr.u (dv 0)<|dg (v:=.ref t.vt) T.Ie rfl T.Ig),?_};refine !{_,_,_,_,rfl,cQ,rfl,_,rfl,eC !{rfl,rfl,?_}};have e:A5 (j6<|.str z) ([D.str "number",D.str "word"].map j6)=true:=by rcases hz with rfl|rfl<;>decide +kernel
 show Fo S (R<|.bl<|if false=true then _ else A5 (j6<|.str z) ([D.str "number",D.str "word"].map j6));rw[if_neg zd,e];exact fo q
inductive oP (ds:List D) (S:aw) (R:KD) (Z:KX):Prop where
 |mk (c) (h0:ds=[ay c]) (h1:kB c.1=true) (h2:(c.2 ="number"\/c.2 ="word")) (h3:R (.bl true) S)
theorem wa(T:Txt w K mg t):Ok P w base T.nL 3 oP:=by refine T.nL.F.bV vV ?_;obtain⟨c,e,h1,h2,q⟩;refine{_,(sc (si (twd<|twor (cg<|tv<|cb cF T.au aq<|al 0<|ac (p7 T.bu aW) an)<|tw1<|bf kQ hr.u (cb aK T.aI aC<|al 0 an) di) (s1<|sr db) s0)<|s1<|sr<|pB (aY T.qg (rK T) hr<|ac (ix hr.u (dv 0) di) an)<|Ga<|aY T.vJ (BX T) hr<|ac (ix hr.u (dv 0) di) an),?_};refine !{_,_,_,_,rfl,aV,rfl,_,rfl,?_};refine aZ !!!⟨aZ ?_⟩;refine !!!{gt_str<|nV h1,_,rfl,?_};show if kB c.1=true then _ else _;rw[h1];exact eC !!!{h2,fo q}
inductive rM (ds:List D) (S:aw) (R:KD) (Z:KX):Prop where
 |mk (cs:List<|Str×Str) (h0:ds=[.tup<|cs.map ay]) (h1:cs.length<=8) (h2:∀p,S p=none->R (.ref p) (S.set p<|.lst<|(cs.map Prod.fst).map D.str))
theorem oQ(T:Txt w K mg t):Ok P w base T.ma 1 rM:=by
 refine T.ma.F.bV x_ ?_;obtain⟨cs,e,hl,q⟩;refine{_,(s1<|sr<|sZ (N:=["name","kind"]) (src:=[none,none]) (iT (ae BE) ["columns"] rfl rfl<|by trivial) (Gg<|dv 0) (Rj<|show(["name","kind"]:List Str).Nodup by trivial) (jM rfl rfl) jP (λ_ _ _ _ _=>oE) λ_ _ _ _ _=>(dv 0)),?_};refine !{_,.inl rfl,?_};refine comp_map (λd=>match d with|.tup (x::_)=>x|_=>.av) trivial (by show(cs.map ay).length<=1000;rw[zb];lia) (λd hd Q hQ=>?_) λp hp=>?_;obtain⟨c,hc,rfl⟩:=zh.mp hd;exact !{rfl,_,_,rfl,_,_,rfl,rfl,_,rfl,hQ};have e:(cs.map ay).map (λd=>match d with|.tup (x::_)=>x|_=>.av)=(cs.map Prod.fst).map D.str:=by rw[zy,zy];rfl
 show Fo (S.set p<|.lst<|(cs.map ay).map _) (R<|.ref p);rw[e];exact fo<|q p hp
inductive iG (ds:List D) (S:aw) (R:KD) (Z:KX):Prop where
 |mk (cs) (h0:ds=[.tup<|cs.map ay]) (h1:Gd cs) (h2:R .av S)
theorem nW(T:Txt w K mg t):Ok P w base T.gu 4 iG:=by
 refine T.gu.F.bV nR ?_;obtain⟨cs,e,⟨hl,hn,hg⟩,q⟩;refine{_,(sc (si (twd<|twor (cg<|tv<|cb cF T.au aq<|al 0<|ac (p7 T.bu aW) an)<|tw1<|bf pE hr.u (cb aK T.aI aC<|al 0 an)<|dg (v:=.int 8) T.pH {_,rfl} λ_=>aN _) (s1<|qR ⟨T.dE⟩ T.gs<|ac ds an) s0)<|sc (si (cg<|tv<|cb i_ T.jk fb<|ac (sZ (N:=["column"]) (src:=[none]) (iT (ae pG) ["columns"] rfl rfl<|by trivial) (Gg<|dv 0) (oF<|show(["column"]:List Str).Nodup by trivial) (aQ rfl) aR (λ_ _ _ _ _=>oE) λ_ _ _ _ _=>(aY T.nL (wa T) hr<|al 0 an)) an) (s1<|qR ⟨T.dE⟩ T.gs<|ac ds an) s0)<|s1<|si (bf kQ hr.u (lse (aY T.ma (oQ T) hr<|al 0 an) T.aI T.Nr)<|cb aK T.aI aC<|al 0 an) (s1<|qR ⟨T.dE⟩ T.gs<|ac ds an) s0),?_};refine !{_,_,_,_,rfl,aV,rfl,_,rfl,?_};have e1:decide ((8:Int)<((cs.map ay).length:Nat))=false:=zu (by rw[zb];lia);refine aZ !!!⟨?_⟩;show if decide ((8:Int)<((cs.map ay).length:Nat))=true then _ else _;rw[e1];refine aZ ?_;refine !{_,.inl rfl,?_};refine comp_map (λ_=>.bl true) trivial (by show(cs.map ay).length<=1000;rw[zb];lia) (λd hd Q hQ=>?_) λp hp=>?_;obtain⟨c,hc,rfl⟩:=zh.mp hd;exact !{c,rfl,(hg c hc).1,(hg c hc).2,hQ};have e2:(cs.map ay).map (λ_=>D.bl true)=(cs.map λ_=>true).map D.bl:=by rw[zy,zy];rfl
 have e3:(cs.map λ_=>true).all id=true:=by rw[all_map];exact ya.mpr λ_ _=>rfl
 refine{.ref p,cs.map λ_=>true,rfl,?_,_,rfl,?_};show(S.set p<|.lst<|(cs.map ay).map _) p=_;rw[aa,e2];rw[e3];refine aZ ?_;refine !{cs,rfl,hl,λp2 eV=>?_};refine{cs.map Prod.fst,aa,by rw[zb];lia,_,rfl,_,rfl,_,rfl,?_};have e4:decide ((((iB<|cs.map Prod.fst).length:Nat):Int)=(((cs.map ay).length:Nat):Int))=true:=zw (by rw[(uq _).mpr hn,zb,zb]);show if (if true=true then !decide ((((iB<|cs.map Prod.fst).length:Nat):Int)=(((cs.map ay).length:Nat):Int)) else _)=true then _ else _;rw[if_pos rfl,e4];exact aZ {S,(Sub.new hp).trans<|.new eV,q}
inductive mr (ds:List D) (S:aw) (R:KD) (Z:KX):Prop where
 |mk (cs d) (h0:ds=[.tup<|cs.map ay,d]) (h1:cs.length<=8) (h2:Rx S d) (h3:R (.bl<|mq cs d) S)
theorem tO(T:Txt w K mg t):Ok P w base T.k9 4 mr:=by
 refine T.k9.F.bV tG ?_;obtain⟨cs,d,e,hl,⟨⟨⟨k,hk⟩,hz⟩,hw⟩,q⟩;refine{_,(sc (si (twd<|twor (cg<|tv<|cb cF T.au aq<|al 1<|ac (p7 T.bu aW) an)<|tw1<|bf kQ hr.u (cb aK T.aI aC<|al 1 an)<|cb aK T.aI aC<|al 0 an) (s1<|sr db) s0)<|s1<|sr<|cb i_ T.jk fb<|ac (sZ (N:=["column","value"]) (src:=[none,none]) (iT (ae vq) ["columns","thing"] rfl rfl<|by trivial) (izn T.Ii<|al 0<|al 1 an) (Rj<|show(["column","value"]:List Str).Nodup by trivial) (jM rfl rfl) jP (λ_ _ _ _ _=>oE) λ_ _ _ _ _=>(aY T.jm (jy T) hr<|ac (ix hr.u (dv 0) di)<|al 1 an)) an),?_};refine !{_,_,_,_,rfl,aV,hk,_,rfl,?_};rcases Qb hk with⟨ws,rfl,h0⟩|⟨h0,h1⟩;obtain⟨hw1,T5⟩:=hw ws rfl;rw[h0];refine aZ !!!!!⟨?_⟩;have e1:decide (((ws.length:Nat):Int)=(((cs.map ay).length:Nat):Int))=decide (ws.length=cs.length):=by rw[yN,zb];lia
 unfold mq at q;dsimp only at q;show if (if true=true then !decide (((ws.length:Nat):Int)=(((cs.map ay).length:Nat):Int)) else _)=true then _ else _;rw[if_pos rfl,e1];refine bT (λh=>?_) λh=>?_;rw[nt h,zW]at q;exact fo q;have h:=nf h;rw[h,ye]at q;have h:=zB h;refine !!{cs.map ay,ws,rfl,by rw[zb];exact h.symm,?_};refine comp_map pairF trivial (by show(cE (cs.map ay) ws).length<=1000;unfold cE;rw[List.length_zipWith,zb];lia) (λd hd Q hQ=>?_) λp hp=>?_;unfold cE at hd;obtain⟨i,ei⟩:=yt hd;obtain⟨x,y,e2,e3,e4⟩:=List.getElem?_zipWith_eq_some.mp ei;subst e4;rw[zi]at e2;cases e5:cs[i]? with|none=>(rw[e5]at e2;cases e2)|some c=>rw[e5]at e2;cases e2;exact !{rfl,_,_,rfl,_,_,rfl,rfl,_,rfl,_,rfl,_,rfl,c.2,y,rfl,T5 y<|zE e3,hQ}
 refine{.ref p,List.zipWith (λc v=>iQ c.2 v) cs ws,rfl,?_,S,.new hp,q};show(S.set p<|.lst<|(cE (cs.map ay) ws).map pairF) p=_;rw[aa,Fq λ_ _=>rfl];rw[h0];have e:mq cs d=false:=by cases d with|tup ws=>exact absurd rfl (h1 ws)|_=>rfl
 rw[e]at q;exact eC<|eC<|fo q
inductive oR (t:gY) (ds:List D) (S:aw) (R:KD) (Z:KX):Prop where
 |mk (cs k v) (h0:ds=[.tup<|cs.map ay,.tup [k,v]]) (h1:cs.length<=8) (h2:Gt S k) (h3:Rx S v) (h4:(nU cs k v=true->R .av S)) (h5:(nU cs k v=false->Z t.gD S))
theorem mw(T:Txt w K mg t):Ok P w base T.jS 5 (oR t):=by refine T.jS.F.bV vW ?_;obtain⟨cs,k,v,e,hl,hk,hv,q1,q2⟩;refine{_,(sc (si (twd<|twor (cg<|tv<|cb cF T.au aq<|al 1<|ac (p7 T.bu aW) an)<|tw1<|bf kQ hr.u (cb aK T.aI aC<|al 1 an) di) (s1<|qR ⟨T.gG⟩ T.jR<|ac ds an) s0)<|sc (si (cg<|tv<|aY T.k8 (gM T) hr<|ac (ix hr.u (dv 1) di) an) (s1<|qR ⟨T.gG⟩ T.jR<|ac ds an) s0)<|s1<|si (cg<|tv<|aY T.k9 (tO T) hr<|al 0<|ac (ix hr.u (dv 1) di) an) (s1<|qR ⟨T.gG⟩ T.jR<|ac ds an) s0),?_};refine !{_,_,_,_,rfl,aV,rfl,_,rfl,?_};refine aZ !!!⟨aZ ?_⟩;refine !!{k,rfl,hk,_,rfl,?_};unfold nU at q1 q2;refine bT (λh=>?_) λh=>?_;rw[nt h,zW]at q2;exact{sm<|by decide,fo<|q2 rfl};rw[nf h,ye]at q1 q2;refine !!!{cs,v,rfl,hl,hv,_,rfl,?_};refine bT (λh=>?_) λh=>?_;exact{sm<|by decide,fo<|q2<|nt h};exact fo<|q1<|nf h
theorem bg(h:n<=100000):n<sizeLine:=by rw[yg];lia
structure Std where
 b:Nat
 e:Option Nat
 ws:List D
def eD:Option Nat->D|none=>.av|some n=>.int (n:Nat)
def jz(s:Std):D:=.tup [.int (s.b:Nat),eD s.e,.tup s.ws]
noncomputable def Iq:List Std->Int->D|[],_=>.av|s::r,m=>if (s.b:Int)<=m then (match s.e with|none=>.tup s.ws|some n=>if m<=(n:Int) then .tup s.ws else .av) else Iq r m
noncomputable def wt(l:List Std)(m:Int):D:=Iq l.reverse m
abbrev Ra:=List<|Str×Addr×List Std
abbrev mW:=List<|Str×List Std
def gN(ra:Ra):mW:=ra.map λr=>(r.1,r.2.2)
def dI(ra:Ra):List (Key×D):=ra.map λr=>(Sum.inr r.1,D.ref r.2.1)
noncomputable def lu(rs:mW)(k:Str):Option (List Std):=(rs.find? λr=>decide<|r.1=k).map (·.2)
noncomputable def sJ(ra:Ra)(k:Str):Option (Addr×List Std):=(ra.find? λr=>decide<|r.1=k).map (·.2)
noncomputable def sL(ra:Ra)(k:Str)(s:List Std):Ra:=ra.map λr=>if r.1=k then (r.1,r.2.1,s) else r
noncomputable def BY(rs:mW)(k:Str)(s:List Std):mW:=if (lu rs k).isSome then rs.map λr=>if r.1=k then (r.1,s) else r else rs++[(k,s)]
theorem gw(ra:Ra)(k:Str):lu (gN ra) k=(sJ ra k).map (·.2):=by unfold lu sJ gN;induction ra with|nil=>rfl|cons r ra ih=>rw[zx,yb,yb];by_cases h:r.1=k;rw[zw h];rfl;rw[zu h];exact ih
theorem gQ(ra:Ra)(k:Str):bY (dI ra) (.inr k)=(sJ ra k).map λp=>D.ref p.1:=by unfold bY sJ dI;induction ra with|nil=>rfl|cons r ra ih=>rw[zx,yb,yb];by_cases h:r.1=k;rw[zw h];have:decide ((Sum.inr r.1:Key)=.inr k)=true:=zw (by rw[h]);dsimp only;rw[this];rfl;rw[zu h];have:decide ((Sum.inr r.1:Key)=.inr k)=false:=zu λe=>h<|yO e;dsimp only;rw[this];exact ih
theorem dk(h:sJ ra k=some (l,s)):(k,l,s)∈ra:=by unfold sJ at h;cases q:ra.find? λr=>decide (r.1=k) with|none=>(rw[q]at h;cases h)|some r=>rw[q]at h;have h1:=List.find?_some q;have h2:=List.mem_of_find?_eq_some q;obtain⟨k',l',s'⟩:=r;have e:k'=k:=zB h1;cases h;rw[<-e];exact h2
theorem mx(h:sJ ra k=none):∀r∈ra,r.1≠k:=by unfold sJ at h;intro r hr e;have:=List.find?_eq_none.mp (Option.map_eq_none_iff.mp h) r hr;simp[e]at this
theorem f9:∀{l:List α}{x y:α},(l.map f).Nodup->x∈l->y∈l->f x=f y->x=y|z::l,x,y,nd,hx,hy,e=>by rw[zx]at nd;obtain⟨n1,n2⟩:=yj.mp nd;rcases zj.mp hx with ex|Eh;rcases zj.mp hy with ey|Su;rw[ex,ey];exact absurd (zh.mpr {y,Su,by rw[<-e,ex]}) n1;rcases zj.mp hy with ey|Su;exact absurd (zh.mpr {x,Eh,by rw[e,ey]}) n1;exact f9 n2 Eh Su e
structure BZ(C:Addr)(S:aw)(a ld lr:Addr)(cs:List (Str×Str))(dl:List D)(ra:Ra):Prop where
 ins:S a=some (.ins C [("columns",.tup<|cs.map ay),("deeds",.ref ld),("runs",.ref lr)])
 y1:S ld=some (.lst dl)
 run:S lr=some (.c_<|dI ra)
 cell:∀r∈ra,S r.2.1=some (.lst<|r.2.2.map jz)
 kn:(ra.map (·.1)).Nodup
 an:(ld::ra.map (·.2.1)).Nodup
 sz:∀r∈ra,r.2.2.length<=dl.length
def fp(a ld lr:Addr)(ra:Ra):List Addr:=a::ld::lr::ra.map (·.2.1)
def cA(C:Addr)(S:aw)(a:Addr)(F:List Addr)(cs:List<|Str×Str)(dl:List D)(rs:mW):Prop:=∃ld lr ra,BZ C S a ld lr cs dl ra/\F=fp a ld lr ra/\rs=gN ra
def B5(F F':List Addr)(S S':aw):Prop:=∀b c,b∉F->S b=some c->b∉F'/\S' b=some c
theorem B5.trans(a:B5 F F1 S S1)(b:B5 F1 F2 S1 S2):B5 F F2 S S2:=λp c h e=>by obtain⟨h1,e1⟩:=a p c h e;exact b p c h1 e1
section
variable{C a ld lr:Addr}{S:aw}{cs:List (Str×Str)}{dl:List D}{ra:Ra}
theorem BZ.B6(h:BZ C S a ld lr cs dl ra){l:Addr}{ds:List D}(e:S l=some (.lst ds)):l≠a/\l≠lr:=by constructor;rintro rfl;rw[h.ins]at e;cases e;rintro rfl;rw[h.run]at e;cases e
theorem BZ.put(h:BZ C S a ld lr cs dl ra)(hk:sJ ra k=some (l,s))(hs:s'.length<=dl.length):BZ C (S.set l<|.lst<|s'.map jz) a ld lr cs dl (sL ra k s'):=by
 have hm:=dk hk;have hl:=h.cell _ hm;obtain⟨n1,n2⟩:=h.B6 hl;obtain⟨Zi,nd2⟩:=yj.mp h.an;have n3:l≠ld:=λe=>Zi (by rw[<-e];exact zh.mpr {_,hm,rfl});have e1:(sL ra k s').map (·.1)=ra.map (·.1):=by unfold sL;rw[zy];exact zS λr _=>by dsimp only[Function.comp];split<;>rfl
 have e2:(sL ra k s').map (·.2.1)=ra.map (·.2.1):=by unfold sL;rw[zy];exact zS λr _=>by dsimp only[Function.comp];split<;>rfl
 have e3:dI (sL ra k s')=dI ra:=by unfold dI sL;rw[zy];exact zS λr _=>by dsimp only[Function.comp];split<;>rfl
 refine{by rw[ag n1.symm];exact h.ins,by rw[ag n3.symm];exact h.y1,by rw[ag n2.symm,e3];exact h.run,λr hr=>?_,by rw[e1];exact h.kn,by rw[e2];exact h.an,λr hr=>?_};unfold sL at hr;obtain⟨r0,wV,e⟩:=zh.mp hr;by_cases q:r0.1=k;rw[if_pos q]at e;have er:r0=(k,l,s):=f9 h.kn wV hm q;subst er e;rw[aa];rw[if_neg q]at e;subst e;have:r0.2.1≠l:=λe=>q (by have:=f9 nd2 wV hm e;rw[this]);rw[ag this];exact h.cell _ wV;unfold sL at hr;obtain⟨r0,wV,e⟩:=zh.mp hr;by_cases q:r0.1=k;rw[if_pos q]at e;subst e;exact hs;rw[if_neg q]at e;subst e;exact h.sz _ wV
theorem BZ.add(h:BZ C S a ld lr cs dl ra)(hk:sJ ra k=none)(hl:S l=none)(hs:s.length<=dl.length)(e1:S' l=some (.lst<|s.map jz))(e2:S' lr=some (.c_<|dI<|ra++[(k,l,s)]))(e3:∀b,b≠l->b≠lr->S' b=S b):BZ C S' a ld lr cs dl (ra++[(k,l,s)]):=by
 have n1:a≠l:=gq h.ins hl;have n2:ld≠l:=gq h.y1 hl;have n3:a≠lr:=by rintro rfl;have:=h.run;rw[h.ins]at this;cases this
 have n4:ld≠lr:=by rintro rfl;have:=h.run;rw[h.y1]at this;cases this
 refine{by rw[e3 _ n1 n3];exact h.ins,by rw[e3 _ n2 n4];exact h.y1,e2,λr hr=>?_,?_,?_,λr hr=>?_};rcases zP.mp hr with hr|hr;have hc:=h.cell r hr;rw[e3 _ (gq hc hl) (h.B6 hc).2];exact hc;rw[zI.mp hr];exact e1;rw[zK];exact lQ h.kn λm=>by obtain⟨r,hr,e⟩:=zh.mp m;exact mx hk r hr e
 rw[zK,<-List.cons_append];refine lQ h.an λm=>?_;rcases zj.mp m with e|m;exact n2 e.symm;obtain⟨r,hr,e⟩:=zh.mp m;exact gq (h.cell r hr) hl e;rcases zP.mp hr with hr|hr;exact h.sz r hr;rw[zI.mp hr];exact hs
theorem BZ.Qc(h:BZ C S a ld lr cs dl ra)(d:D):BZ C (S.set ld<|.lst<|dl++[d]) a ld lr cs (dl++[d]) ra:=by obtain⟨n1,n2⟩:=h.B6 h.y1;obtain⟨Zi,nd2⟩:=yj.mp h.an;refine{by rw[ag n1.symm];exact h.ins,aa,by rw[ag n2.symm];exact h.run,λr hr=>?_,h.kn,h.an,λr hr=>by rw[zC];exact zH (h.sz r hr)<|Nat.le_add_right _ _};rw[ag λe=>Zi<|by rw[<-e];exact zh.mpr ⟨r,hr,rfl⟩];exact h.cell r hr
end
def UW(C:Addr):ja:=λds S R _=>∃a F cs dl rs,ds=[.ref a]/\cA C S a F cs dl rs/\R (.int (dl.length:Nat)) S
theorem rN(T:Txt w K mg t):AJ P w mg base T.dW 1 (UW t.ao):=by refine T.dW.F.bV v9 ?_;obtain⟨a,F,cs,dl,rs,e,⟨ld,lr,ra,h,_⟩,q⟩;refine{_,(s1<|sr<|cb aK T.aI aC<|ac (fl T.ak T.cK<|dv 0) an),?_};exact !{a,_,_,rfl,h.ins,rfl,_,rfl,.inl {dl,h.y1,fo q}}
inductive eR (t:gY) (ds:List D) (S:aw) (R:KD) (Z:KX):Prop where
 |mk (a F cs dl rs) (h0:ds=[.ref a]) (h1:cA t.ao S a F cs dl rs) (h2:R (.tup<|cs.map ay) S)
theorem b9(T:Txt w K mg t):AJ P w mg base T.aS 1 (eR t):=by refine T.aS.F.bV jw ?_;obtain⟨a,F,cs,dl,rs,e,⟨ld,lr,ra,h,_⟩,q⟩;refine{_,(s1<|sr<|fl T.ak T.cS<|dv 0),?_};exact !{a,_,_,rfl,h.ins,rfl,fo q}
noncomputable def tP(n:Nat):D->Option Int|.av=>some n|.int i=>(if 0<=i/\i<=(n:Int) then some i else none)|_=>none
def LM(C N:Addr):ja:=λds S R Z=>∃a F cs dl rs m,ds=[.ref a,m]/\cA C S a F cs dl rs/\Gt S m/\(∀i,tP dl.length m=some i->R (.int i) S)/\(tP dl.length m=none->Z N S)
theorem iH(T:Txt w K mg t):AJ P w mg base T.cq 2 (LM t.ao t.dO):=by
 refine T.cq.F.bV iP ?_;obtain⟨a,F,cs,dl,rs,m,e,hS,hm,q1,q2⟩;obtain⟨ld,lr,ra,h,hF,sI⟩:=id hS;refine{_,(sc (si (bf fh hr.u (dv 1) dn) (s1<|sr<|qZ (dv 0) T.ak T.dW (rN T) hr) s0)<|sc (si (twd<|twor (cg<|tv<|aY T.jl (jx T) hr<|al 1 an)<|tw1<|cg<|VW i8 i8 hr.u di (dv 1)<|qZ (dv 0) T.ak T.dW (rN T) hr) (s1<|qR ⟨T.k7⟩ T.x5<|ac ds an) s0)<|s1<|sr<|dv 1),?_};refine !!⟨?_⟩;refine bT (λh1=>?_) λh1=>?_;have e:m=.av:=by cases m<;>first|rfl|cases h1
 subst e;exact !{a,_,rfl,h.ins,rfl,a,F,cs,dl,rs,rfl,hS,fo<|q1 _ rfl};refine !{m,rfl,hm,_,rfl,?_};refine bT (λh2=>?_) λh2=>?_;have h2:=nt h2;have e:tP dl.length m=none:=by cases m with|av=>(cases h1)|int i=>(cases h2)|_=>rfl
 exact eC {sm<|by decide,fo<|q2 e};have h2:=nf h2;obtain⟨i,rfl⟩:∃i,m=.int i:=by cases m<;>first|exact{_,rfl}|cases h2
 refine !!⟨?_⟩;refine bT (λh3=>?_) λh3=>?_;have h3:0<=i:=zB h3;refine !{a,_,rfl,h.ins,rfl,a,F,cs,dl,rs,rfl,hS,_,rfl,?_};refine bT (λh4=>?_) λh4=>?_;have h4:¬i<=((dl.length:Nat):Int):=yd<|nt h4;exact{sm<|by decide,fo<|q2<|if_neg λz=>h4 z.2};have h4:i<=((dl.length:Nat):Int):=zB<|nf h4;exact{_,rfl,fo<|q1 i<|if_pos ⟨h3,h4⟩};have h3:¬0<=i:=yd h3;exact{_,rfl,eC {sm<|by decide,fo<|q2<|if_neg λz=>h3 z.1}}
inductive kC (ds:List D) (S:aw) (R:KD) (Z:KX):Prop where
 |mk (l uI m) (h0:ds=[.ref l,.int m]) (h1:S l=some (.lst<|uI.map jz)) (h2:R (wt uI m) S)
theorem jA(T:Txt w K mg t):Ok P w base T.fY 1 kC:=by
 refine T.fY.F.bV ju ?_;obtain⟨l,uI,m,e,hl,q⟩;refine{_,(sc (ux<|C9 (irv T.rm<|al 0 an) (gn (i:=2) ju.nd)<|s1<|si (bf i8 hr.u (ix hr.u (dv 2) di)<|dv 1) (s1<|sr<|Rh (twd<|twor (bf fh hr.u (ix hr.u (dv 2) di) dn)<|tw1<|bf i8 hr.u (dv 1)<|ix hr.u (dv 2) di) (ix hr.u (dv 2) di) dn) s0)<|s1<|sr dn),?_};refine{λaB S'=>S'=S/\wt uI m=.av,?_,?_};refine !{_,_,rfl,hl,?_};refine{λi aB S'=>(∃o,aB=[some<|.ref l,some<|.int m,o])/\S'=S/\wt uI m=Iq (uI.reverse.drop i) m,{⟨none,rfl⟩,rfl,by rw[List.drop_zero];rfl},λi aB S' h=>by rw[h.2.1];exact hl,?_,?_};rintro i d aB S' hd ⟨⟨o,rfl⟩,rfl,hw⟩;rw[<-List.map_reverse,zi]at hd;cases e1:uI.reverse[i]? with|none=>(rw[e1]at hd;cases hd)|some sd=>rw[e1]at hd;cases hd;have e2:uI.reverse.drop i=sd::uI.reverse.drop (i+1):=(by obtain⟨hi,e⟩:=ze.mp e1;rw[yh hi,e]);obtain⟨sb,se,sw⟩:=sd;rw[e2]at hw;refine !!!!⟨?_⟩;unfold Iq at hw;refine bT (λh=>?_) λh=>?_;rw[if_pos<|zB h]at hw;refine !!!⟨?_⟩;(cases se with|none=>refine eC<|eC !!⟨?_⟩;rw[hw]at q;exact fo q|some n=>refine aZ !!!!⟨?_⟩;dsimp only at hw;refine bT (λh=>?_) λh=>?_;rw[if_pos<|zB h]at hw;rw[hw]at q;exact !!⟨fo q⟩;rw[if_neg<|yd h]at hw;rw[hw]at q;exact fo q);rw[if_neg<|yd h]at hw;exact{{_,rfl},rfl,hw}
 rintro aB S' ⟨_,rfl,hw⟩;refine fo {rfl,?_};rw[hw,yD,zb,List.drop_eq_nil_of_le<|by rw[yD];exact zr _];rfl;rintro aB S' ⟨rfl,hw⟩;rw[hw]at q;exact fo q
noncomputable def AK(rs:mW)(k:D)(i:Int):D:=match k with|.str z=>(if kf z=true then wt ((lu rs z).getD []) i else .av)|_=>.av
def UX(C N:Addr):ja:=λds S R Z=>∃a F cs dl rs k m,ds=[.ref a,k,m]/\cA C S a F cs dl rs/\Gt S k/\Gt S m/\(∀i,tP dl.length m=some i->R (AK rs k i) S)/\(tP dl.length m=none->Z N S)
theorem my(T:Txt w K mg t):AJ P w mg base T.dj 3 (UX t.ao t.dO):=by
 refine T.dj.F.bV fC ?_;obtain⟨a,F,cs,dl,rs,k,m,e,hS,hk,hm,q1,q2⟩;obtain⟨ld,lr,ra,h,hF,sI⟩:=id hS;refine{_,(sc (cG (i:=3) fC.nd<|wU (dv 0) T.ak T.cq (iH T) hr<|al 2 an)<|sc (si (cg<|tv<|aY T.k8 (gM T) hr<|al 1 an) (s1<|sr dn) s0)<|s1<|sr<|aY T.fY (jA T) hr<|ac (mg2 hr.u (fl T.ak T.bQ<|dv 0) (dv 1)<|cC an)<|al 3 an),?_};refine !{a,_,rfl,h.ins,rfl,_,rfl,a,F,cs,dl,rs,m,rfl,hS,hm,λi hi=>?_,λhn=>fo<|q2 hn};have q:=q1 i hi;refine !{k,rfl,hk,_,rfl,?_};refine bT (λh1=>?_) λh1=>?_;have e:AK rs k i=.av:=by cases k with|str z=>exact if_neg (by rw[show kf z=false from nt h1];exact zd)|_=>rfl
 rw[e]at q;exact fo q;have h1:=nf h1;obtain⟨z,rfl⟩:∃z,k=.str z:=by cases k with|str z=>exact⟨z,rfl⟩|_=>cases h1
 have e:AK rs (.str z) i=wt ((lu rs z).getD []) i:=if_pos h1;rw[e]at q;refine !{a,_,_,rfl,h.ins,rfl,lr,_,rfl,h.run,_,rfl,sm<|by decide,λp hp=>{dI ra,.inr z,?_,rfl,?_}};rw[ag<|gq h.run hp];exact h.run;rw[gQ];refine{_,rfl,?_};cases e1:sJ ra z with|none=>have e2:lu rs z=none:=(by rw[sI,gw,e1];rfl);rw[e2]at q;exact{p,[],i,rfl,aa,S,.new hp,q}|some ls=>obtain⟨l,uI⟩:=ls;have e2:lu rs z=some uI:=(by rw[sI,gw,e1];rfl);rw[e2]at q;have hc:=h.cell _<|dk e1;exact{l,uI,i,rfl,by rw[ag<|gq hc hp];exact hc,S,.new hp,q}
theorem Nv(h:sJ ra k=some (l,s)):BY (gN ra) k s'=gN (sL ra k s'):=by unfold BY;rw[gw,h,if_pos<|show(Option.map (λx:Addr×List Std=>x.2)<|some (l,s)).isSome=true from rfl];unfold gN sL;rw[zy,zy];exact zS λr _=>by dsimp only[Function.comp];split<;>rfl
theorem Qd(h:sJ ra k=none):BY (gN ra) k s=gN (ra++[(k,l,s)]):=by unfold BY;rw[gw,h,if_neg<|show ¬(Option.map (λx:Addr×List Std=>x.2) none).isSome=true from zd];unfold gN;rw[zK];rfl
theorem Qe(h:sJ ra k=none):dput (dI ra) (.inr k) (.ref l)=dI (ra++[(k,l,s)]):=by
 unfold dput;have e:((dI ra).any λkv=>decide<|kv.1=.inr k)=false:=by rw[List.any_eq_false];intro x hx;unfold dI at hx;obtain⟨r,hr,rfl⟩:=zh.mp hx;simp only[zR];exact λe=>mx h r hr<|yO e
 rw[e,if_neg zd];unfold dI;rw[zK];rfl
theorem Ir:fp a ld lr (sL ra k s)=fp a ld lr ra:=by unfold fp sL;rw[zy];congr 3;exact zS λr _=>by dsimp only[Function.comp];split<;>rfl
theorem rO(h:l∈F):B5 F F S (S.set l c):=λb x hb e=>{hb,by rw[ag<|show b≠l from λz=>hb<|by rw[z];exact h];exact e}
theorem Iu(h:r∈ra):r.2.1∈fp a ld lr ra:=zf _<|zf _<|zf _<|zh.mpr ⟨r,h,rfl⟩
def LN(C:Addr):ja:=λds S R _=>∃a F cs dl rs z ws,ds=[.ref a,.str z,.tup ws]/\cA C S a F cs dl rs/\((lu rs z).getD []).length<dl.length/\dl.length<=9000/\rs.length<=9000/\∀S' F',cA C S' a F' cs dl (BY rs z<|(lu rs z).getD []++[Std.mk dl.length none ws])->B5 F F' S S'->R .av S'
theorem y3(T:Txt w K mg t):AJ P w mg base T.bL 2 (LN t.ao):=by
 refine T.bL.F.bV gL ?_;rintro _ _ _ _ _ _ _ S R Z hr ⟨a,F,cs,dl,rs,z,ws,e,⟨ld,lr,ra,h,hF,sI⟩,hl,hd,hn,q⟩;subst e hF sI;have MA:(dI ra).length<=9000:=by unfold gN at hn;unfold dI;rw[zb]at hn⊢;exact hn
 refine{_,(s1<|se<|bm zO zZ z0 cI (ms2 (fl T.ak T.bQ<|dv 0) (dv 1)<|cC an)<|ac (cj<|ac (qZ (dv 0) T.ak T.dW (rN T) hr)<|ac dn<|al 2 an) an),?_};refine !{a,_,_,rfl,h.ins,rfl,lr,dI ra,rfl,h.run,_,rfl,sm<|by decide,λp hp=>{dI ra,.inr z,?_,rfl,bg<|by lia,λd qq=>?_,λhn=>?_}};rw[ag<|gq h.run hp];exact h.run;rw[gQ]at qq;cases e1:sJ ra z with|none=>(rw[e1]at qq;cases qq)|some ls=>obtain⟨l,uI⟩:=ls;rw[e1]at qq;cases qq;have e2:lu (gN ra) z=some uI:=(by rw[gw,e1];rfl);rw[e2]at q hl;have hc:=h.cell _<|dk e1;have JX:(S.set p<|.lst []) l=some (.lst<|uI.map jz):=(by rw[ag<|gq hc hp];exact hc);have hi':(S.set p<|.lst []) a=some (.ins t.ao [("columns",.tup<|cs.map ay),("deeds",.ref ld),("runs",.ref lr)]):=(by rw[ag<|gq h.ins hp];exact h.ins);have qd:BZ t.ao (S.set p<|.lst []) a ld lr cs dl ra:={hi',by rw[ag<|gq h.y1 hp];exact h.y1,by rw[ag<|gq h.run hp];exact h.run,λr hr=>by rw[ag<|gq (h.cell r hr) hp];exact h.cell r hr,h.kn,h.an,h.sz};refine{{rfl,_,JX},_,rfl,a,_,rfl,hi',rfl,a,_,cs,dl,_,rfl,⟨ld,lr,ra,qd,rfl,rfl⟩,_,rfl,pM,?_};have hle:uI.length<dl.length:=hl;refine{l,uI.map jz,_,rfl,rfl,JX,bg<|by rw[zb];lia,S.set l<|.lst<|(uI++[Std.mk dl.length none ws]).map jz,λb c hb=>?_,q _ _ {ld,lr,_,h.put e1<|by rw[zC];show uI.length+1<=_;lia,rfl,Nv e1} ?_};by_cases Zj:b=l;subst Zj;rw[aa]at hb⊢;rw[zK]at hb;exact hb;rw[ag Zj]at hb;rw[ag Zj,ag<|gq hb hp];exact hb;rw[Ir];exact rO<|Iu<|dk e1
 rw[gQ]at hn;cases e1:sJ ra z with|some ls=>(rw[e1]at hn;cases hn)|none=>have e2:lu (gN ra) z=none:=(by rw[gw,e1];rfl);rw[e2]at q hl;have npr:p≠lr:=(gq h.run hp).symm;generalize Dy:(S.set p<|.lst []).set lr _=S1;have Zk:S1 p=some (.lst []):=(by rw[<-Dy,ag npr,aa]);have s1r:S1 lr=some (.c_<|dI<|ra++[(z,p,[])]):=(by rw[<-Dy,aa,Qe e1]);have Zl:∀b,b≠p->b≠lr->S1 b=S b:=λb h1 h2=>(by rw[<-Dy,ag h2,ag h1]);have qd:BZ t.ao S1 a ld lr cs dl (ra++[(z,p,[])]):=h.add e1 hp (zV _) Zk s1r Zl;refine{{rfl,_,Zk},_,rfl,a,_,rfl,qd.ins,rfl,a,_,cs,dl,_,rfl,{ld,lr,_,qd,rfl,rfl},_,rfl,pM,?_};refine{p,[],_,rfl,rfl,Zk,bg<|by show 0<=_;lia,S1.set p<|.lst<|[Std.mk dl.length none ws].map jz,.refl _,q _ _ {ld,lr,ra++[(z,p,[Std.mk dl.length none ws])],h.add e1 hp (by show 1<=_;have:0<dl.length:=hl;lia) aa ?_ λb h1 h2=>by rw[ag h1];exact Zl b h1 h2,rfl,Qd e1} ?_};rw[ag npr.symm,s1r];unfold dI;rw[zK,zK];rfl;intro b c hb e;have h1:b≠p:=gq e hp;have h2:b≠lr:=λz=>hb (by rw[z];exact zf _<|zf _ zm);refine{λm=>?_,by rw[ag h1,Zl b h1 h2];exact e};unfold fp at m hb;rw[zK]at m;rcases zj.mp m with m|m;exact hb<|m ▸ zm;rcases zj.mp m with m|m;exact hb<|m ▸ zf _ zm;rcases zj.mp m with m|m;exact h2 m;rcases zP.mp m with m|m;exact hb<|zf _<|zf _<|zf _ m;exact h1<|zI.mp m
noncomputable def ik(n:Nat)(l:List Std):List Std:=l.dropLast++(l.getLast?.map λs=>Std.mk s.b (some n) s.ws).toList
noncomputable def nX(rs:mW)(z:Str)(n:Nat):mW:=BY rs z<|ik n<|(lu rs z).getD []
noncomputable def tQ(rs:mW)(z:Str)(n:Nat)(ws:List D):mW:=BY rs z<|(lu rs z).getD []++[Std.mk n none ws]
theorem Iv(h:cA C S a F cs dl rs)(z:Str):((lu rs z).getD []).length<=dl.length:=by obtain⟨ld,lr,ra,h,_,rfl⟩:=h;rw[gw];cases e:sJ ra z with|none=>exact zV _|some ls=>exact h.sz _<|dk (l:=ls.1) (s:=ls.2) e
theorem LO(rs:mW)(z:Str)(s:List Std):(BY rs z s).length<=rs.length+1:=by unfold BY;split;rw[zb];lia;rw[zC];exact zr _
theorem eU:lu (r::rs) k=if r.1=k then some r.2 else lu rs k:=by unfold lu;rw[yb];by_cases h:r.1=k;rw[zw h,if_pos h];rfl;rw[zu h,if_neg h]
theorem jB:lu (BY rs z s) k=if k=z then some s else lu rs k:=by
 unfold BY;by_cases hs:(lu rs z).isSome=true;rw[if_pos hs];by_cases hk:k=z;subst hk;rw[if_pos rfl];induction rs with|nil=>(cases hs)|cons r rs ih=>rw[zx,eU];by_cases h:r.1=k;rw[if_pos h,if_pos h];rw[if_neg h,if_neg h];rw[eU,if_neg h]at hs;exact ih hs
 rw[if_neg hk];clear hs;induction rs with|nil=>rfl|cons r rs ih=>rw[zx,eU,eU,ih];by_cases h:r.1=z;rw[if_pos h,if_neg<|show ¬r.1=k from λe=>hk<|e.symm.trans h,if_neg<|show ¬r.1=k from λe=>hk<|e.symm.trans h];rw[if_neg h]
 rw[if_neg hs];have hn:lu rs z=none:=by cases e:lu rs z<;>simp_all
 clear hs;induction rs with|nil=>rw[List.nil_append,eU];by_cases hk:k=z;rw[if_pos hk,if_pos hk.symm];rw[if_neg hk,if_neg λe=>hk e.symm]|cons r rs ih=>rw[eU]at hn;by_cases h:r.1=z;rw[if_pos h]at hn;cases hn;rw[if_neg h]at hn;rw[List.cons_append,eU,eU,ih hn];by_cases h2:r.1=k;rw[if_pos h2,if_pos h2,if_neg<|show ¬k=z from λe=>h<|h2.trans e];rw[if_neg h2,if_neg h2]
def UY(C:Addr):ja:=λds S R _=>∃a F cs dl rs z,ds=[.ref a,.str z]/\cA C S a F cs dl rs/\(∃s,lu rs z=some s/\s≠[])/\dl.length<=9000/\∀S',cA C S' a F cs dl (nX rs z dl.length)->B5 F F S S'->R .av S'
theorem jT(h:l≠[]):∃r s,l=r++[s]:={l.dropLast,l.getLast h,(List.dropLast_concat_getLast h).symm}
theorem eI(n:Nat)(r:List Std)(s:Std):ik n (r++[s])=r++[Std.mk s.b (some n) s.ws]:=by unfold ik;rw[List.dropLast_concat,List.getLast?_concat];rfl
theorem Iw(T:Txt w K mg t):AJ P w mg base T.cn 2 (UY t.ao):=by refine T.cn.F.bV dM ?_;rintro _ _ _ _ _ _ _ S R Z hr ⟨a,F,cs,dl,rs,z,e,⟨ld,lr,ra,h,hF,sI⟩,⟨s0,Q_,nY⟩,hd,q⟩;subst e hF sI;rw[gw]at Q_;cases e1:sJ ra z with|none=>(rw[e1]at Q_;cases Q_)|some ls=>obtain⟨l,uI⟩:=ls;rw[e1]at Q_;cases Q_;obtain⟨r,sd,rfl⟩:=jT nY;have hlen:=h.sz _<|dk e1;dsimp only at hlen;rw[zC]at hlen;have hlen:r.length+1<=dl.length:=hlen;have hc:=h.cell _<|dk e1;dsimp only at hc;have ed:bY (dI ra) (.inr z)=some (.ref l):=(by rw[gQ,e1];rfl);refine{_,(sc (cG (i:=2) dM.nd<|bm0 zO PySem.F.slot_list_pop PySem.F.type_list_pop TH<|ix hr.u (fl T.ak T.bQ<|dv 0)<|dv 1)<|s1<|se<|bm zO zZ z0 cI (ix hr.u (fl T.ak T.bQ<|dv 0)<|dv 1)<|ac (cj<|ac (ix hr.u (dv 2) di)<|ac (qZ (dv 0) T.ak T.dW (rN T) hr)<|ac (ix hr.u (dv 2) di) an) an),?_};refine !{a,_,_,rfl,h.ins,rfl,_,rfl,dI ra,_,h.run,ed,{rfl,_,hc},l,_,jz sd,rfl,rfl,hc,?_,?_};rw[zK,zC];show(r.map jz++[jz sd])[(r.map jz).length+1-1]?=_;simp;have e2:((r++[sd]).map jz).dropLast=r.map jz:=(by rw[zK];exact List.dropLast_concat);rw[e2];have h1:BZ t.ao (S.set l<|.lst<|r.map jz) a ld lr cs dl (sL ra z r):=h.put e1 (by lia);generalize Dy:S.set l _=S1 at h1;have UZ:sJ (sL ra z r) z=some (l,r):=(by have hm:(z,l,r)∈sL ra z r:=(by unfold sL;exact zh.mpr {_,dk e1,if_pos rfl});cases e3:sJ (sL ra z r) z with|none=>exact absurd rfl (mx e3 _ hm)|some x=>exact congrArg some<|congrArg Prod.snd<|f9 (f:=λr:Str×Addr×List Std=>r.1) h1.kn (dk (l:=x.1) (s:=x.2) e3) hm rfl);have ed':bY (dI<|sL ra z r) (.inr z)=some (.ref l):=(by rw[gQ,UZ];rfl);have Wq:=h1.cell _<|dk UZ;refine !{a,_,_,rfl,h1.ins,rfl,_,rfl,_,_,h1.run,ed',{rfl,_,Wq},_,rfl,_,rfl,_,rfl,a,_,rfl,h1.ins,rfl,a,_,cs,dl,_,rfl,{ld,lr,_,h1,rfl,rfl},_,rfl,_,rfl,pM,l,_,_,rfl,rfl,Wq,bg<|by rw[zb];show r.length<=_;lia,?_};have h2:=h1.put (s':=r++[Std.mk sd.b (some dl.length) sd.ws]) UZ (by rw[zC];exact hlen);have e4:nX (gN ra) z dl.length=gN (sL (sL ra z r) z<|r++[Std.mk sd.b (some dl.length) sd.ws]):=(by unfold nX;rw[gw,e1];show BY (gN ra) z (ik dl.length<|r++[sd])=_;rw[eI,Nv e1];unfold gN sL;rw[zy,zy,zy];exact zS λx _=>by dsimp only[Function.comp];by_cases hx:x.1=z<;>simp[hx]);refine{_,?_,q _ {ld,lr,_,h2,by rw[Ir,Ir],e4} ?_};show Sub (S1.set l<|.lst<|(r++[_]).map jz) (S1.set l<|.lst<|r.map jz++[_]);rw[zK];exact .refl _;rw[<-Dy,dw];exact rO<|Iu<|dk e1
theorem Dz(h:ofStr kf d=true):∃z,d=.str z/\kf z=true:=by cases d with|str z=>exact⟨z,rfl,h⟩|_=>cases h
theorem DB(h:nU cs k v=true):∃z ws,k=.str z/\v=.tup ws/\kf z=true:=by unfold nU at h;rw[zL]at h;obtain⟨z,rfl,hz⟩:=Dz h.1;cases v with|tup ws=>exact⟨z,ws,rfl,rfl,hz⟩|_=>exact absurd h.2 zd
theorem rP:Gt S .av:={{.av,rfl},λ_=>nofun}
theorem Nw(h:ah (wt l m)=false):l≠[]:=by rintro rfl;cases h
theorem wb(hz:kf z=true)(i:Int):AK rs (.str z) i=wt ((lu rs z).getD []) i:=if_pos hz
inductive eJ (t:gY) (ds:List D) (S:aw) (R:KD) (Z:KX):Prop where
 |mk (a F cs dl rs k) (h0:ds=[.ref a,k]) (h1:cA t.ao S a F cs dl rs) (h2:Gt S k) (h3:(ah (AK rs k dl.length)=false->R .av S)) (h4:(ah (AK rs k dl.length)=true->Z t.l5 S))
theorem iI(T:Txt w K mg t):AJ P w mg base T.ck 4 (eJ t):=by refine T.ck.F.bV iO ?_;obtain⟨a,F,cs,dl,rs,k,e,hS,hk,q1,q2⟩;obtain⟨ld,lr,ra,h,_⟩:=id hS;refine{_,(s1<|si (bf fh hr.u (Yp (dv 0) T.ak T.dj.e ((my T).mono<|by decide) hr T.eP d1<|al 1 an) dn) (s1<|qR ⟨T.vH⟩ T.Ij<|ac ds an) s0),?_};refine !{a,_,rfl,h.ins,rfl,_,rfl,a,F,cs,dl,rs,k,.av,rfl,hS,hk,rP,λi hi=>?_,λhn=>by cases hn};cases hi;refine{_,rfl,?_};refine bT (λh1=>?_) λh1=>?_;exact{pL,fo<|q2 h1};exact fo<|q1 h1
inductive jC (t:gY) (ds:List D) (S:aw) (R:KD) (Z:KX):Prop where
 |mk (a F cs dl rs k v) (h0:ds=[.ref a,k,v]) (h1:cA t.ao S a F cs dl rs) (h2:cs.length<=8) (h3:Gt S k) (h4:Rx S v) (h5:dl.length<=8000) (h6:rs.length<=8000) (h7:(nU cs k v=false->Z t.gD S)) (h8:(nU cs k v=true->ah (AK rs k dl.length)=false->Z t.rj S)) (h9:(∀z ws,k=.str z->v=.tup ws->nU cs k v=true->ah (AK rs k dl.length)=true->∀S' F',cA t.ao S' a F' cs (dl++[.tup [.str "put",k,v]]) (tQ rs z (dl.length+1) ws)->B5 F F' S S'->R .av S'))
theorem Qf(T:Txt w K mg t):AJ P w mg base T.eX 6 (jC t):=by refine T.eX.F.bV v8 ?_;obtain⟨a,F,cs,dl,rs,k,v,e,hS,hc,hk,hv,hd,hn,q1,q2,q3⟩;obtain⟨ld,lr,ra,h,hF,sI⟩:=id hS;refine{_,(sc (se<|aY T.jS (mw T) hr<|ac (fl T.ak T.cS<|dv 0)<|ac (cj<|al 1<|al 2 an) an)<|sc (si (bf kP hr.u (Yp (dv 0) T.ak T.dj.e ((my T).mono<|by decide) hr T.eP d1<|al 1 an) dn) (s1<|qR ⟨T.rn⟩ T.Fd<|ac ds an) s0)<|sc (se<|bm zO zZ z0 cI (fl T.ak T.cK<|dv 0)<|ac (cj<|ac ds<|al 1<|al 2 an) an)<|s1<|se<|wU (dv 0) T.ak T.bL (y3 T) hr<|al 1<|al 2 an),?_};refine !{a,_,_,rfl,h.ins,rfl,_,rfl,_,rfl,cu,cs,k,v,rfl,hc,hk,hv,λFt=>?_,λwV=>fo<|q1 wV};refine !{a,_,rfl,h.ins,rfl,_,rfl,a,F,cs,dl,rs,k,.av,rfl,hS,hk,rP,λi hi=>?_,λhn=>by cases hn};cases hi;refine{_,rfl,?_};refine bT (λh1=>?_) λh1=>?_;exact{pL,fo<|q2 Ft<|nt h1};obtain⟨z,ws,rfl,rfl,hz⟩:=DB Ft;refine !{a,_,_,rfl,h.ins,rfl,{rfl,_,h.y1},_,rfl,_,rfl,pM,ld,dl,_,rfl,rfl,h.y1,bg<|by lia,?_};have EK:=h.Qc<|.tup [.str "put",.str z,.tup ws];have Dy:cA t.ao (S.set ld<|.lst<|dl++[.tup [.str "put",.str z,.tup ws]]) a F cs (dl++[.tup [.str "put",.str z,.tup ws]]) rs:=⟨ld,lr,ra,EK,hF,sI⟩;have hl:=Iv hS z;refine !{a,_,rfl,EK.ins,rfl,_,rfl,_,rfl,a,F,cs,_,rs,z,ws,rfl,Dy,by rw[zC];exact Nat.lt_succ_of_le hl,by rw[zC];show dl.length+1<=_;lia,by lia,λS' F' qd hK=>fo<|q3 z ws rfl rfl Ft (nf h1) S' F' ?_ ?_};have:(dl++[D.tup [.str "put",.str z,.tup ws]]).length=dl.length+1:=zC;rw[this]at qd;exact qd;refine B5.trans (rO ?_) hK;rw[hF];exact zf _ zm
inductive fF (t:gY) (ds:List D) (S:aw) (R:KD) (Z:KX):Prop where
 |mk (a F cs dl rs k v) (h0:ds=[.ref a,k,v]) (h1:cA t.ao S a F cs dl rs) (h2:cs.length<=8) (h3:Gt S k) (h4:Rx S v) (h5:dl.length<=8000) (h6:rs.length<=8000) (h7:(nU cs k v=false->Z t.gD S)) (h8:(nU cs k v=true->ah (AK rs k dl.length)=true->Z t.l5 S)) (h9:(∀z ws,k=.str z->v=.tup ws->nU cs k v=true->ah (AK rs k dl.length)=false->∀S' F',cA t.ao S' a F' cs (dl++[.tup [.str "change",k,v]]) (tQ (nX rs z dl.length) z (dl.length+1) ws)->B5 F F' S S'->R .av S'))
theorem Fu(T:Txt w K mg t):AJ P w mg base T.cT 6 (fF t):=by
 refine T.cT.F.bV pK ?_;obtain⟨a,F,cs,dl,rs,k,v,e,hS,hc,hk,hv,hd,hn,q1,q2,q3⟩;obtain⟨ld,lr,ra,h,hF,sI⟩:=id hS;refine{_,(sc (se<|aY T.jS (mw T) hr<|ac (fl T.ak T.cS<|dv 0)<|ac (cj<|al 1<|al 2 an) an)<|sc (se<|wU (dv 0) T.ak T.ck (iI T) hr<|al 1 an)<|sc (se<|wU (dv 0) T.ak T.cn (Iw T) hr<|al 1 an)<|sc (se<|bm zO zZ z0 cI (fl T.ak T.cK<|dv 0)<|ac (cj<|ac ds<|al 1<|al 2 an) an)<|s1<|se<|wU (dv 0) T.ak T.bL (y3 T) hr<|al 1<|al 2 an),?_};refine !{a,_,_,rfl,h.ins,rfl,_,rfl,_,rfl,cu,cs,k,v,rfl,hc,hk,hv,λFt=>?_,λwV=>fo<|q1 wV};refine !{a,_,rfl,h.ins,rfl,_,rfl,a,F,cs,dl,rs,k,rfl,hS,hk,λh1=>?_,λh1=>fo<|q2 Ft h1};obtain⟨z,ws,rfl,rfl,hz⟩:=DB Ft;have nY:∃s,lu rs z=some s/\s≠[]:=by rw[wb hz]at h1;have:=Nw h1;cases e:lu rs z with|none=>rw[e]at this;exact absurd rfl this|some s=>rw[e]at this;exact⟨s,rfl,this⟩
 refine !{a,_,rfl,h.ins,rfl,_,rfl,a,F,cs,dl,rs,z,rfl,hS,nY,by lia,λS1 Dy U0=>?_};obtain⟨Ry,Zm,Zn,EK,U1,Qg⟩:=id Dy;refine !{a,_,_,rfl,EK.ins,rfl,{rfl,_,EK.y1},_,rfl,_,rfl,pM,Ry,dl,_,rfl,rfl,EK.y1,bg<|by lia,?_};have h2:=EK.Qc<|.tup [.str "change",.str z,.tup ws];have U4:cA t.ao (S1.set Ry<|.lst<|dl++[.tup [.str "change",.str z,.tup ws]]) a F cs (dl++[.tup [.str "change",.str z,.tup ws]]) (nX rs z dl.length):=⟨Ry,Zm,Zn,h2,U1,Qg⟩;have hl:=Iv Dy z;have wO:(nX rs z dl.length).length<=rs.length+1:=LO _ _ _;refine !{a,_,rfl,h2.ins,rfl,_,rfl,_,rfl,a,F,cs,_,_,z,ws,rfl,U4,by rw[zC];exact Nat.lt_succ_of_le hl,by rw[zC];show dl.length+1<=_;lia,by lia,λS' F' qd hK=>fo<|q3 z ws rfl rfl Ft h1 S' F' ?_ ?_};have:(dl++[D.tup [.str "change",.str z,.tup ws]]).length=dl.length+1:=zC;rw[this]at qd;exact qd;refine U0.trans<|B5.trans (rO ?_) hK;rw[U1];exact zf _ zm
inductive ip (t:gY) (ds:List D) (S:aw) (R:KD) (Z:KX):Prop where
 |mk (a F cs dl rs k) (h0:ds=[.ref a,k]) (h1:cA t.ao S a F cs dl rs) (h2:Gt S k) (h3:dl.length<=8000) (h4:(ofStr kf k=false->Z t.gD S)) (h5:(ofStr kf k=true->ah (AK rs k dl.length)=true->Z t.l5 S)) (h6:(∀z,k=.str z->kf z=true->ah (AK rs k dl.length)=false->∀S',cA t.ao S' a F cs (dl++[.tup [.str "take",k]]) (nX rs z dl.length)->B5 F F S S'->R .av S'))
theorem LP(T:Txt w K mg t):AJ P w mg base T.dU 6 (ip t):=by
 refine T.dU.F.bV tL ?_;obtain⟨a,F,cs,dl,rs,k,e,hS,hk,hd,q1,q2,q3⟩;obtain⟨ld,lr,ra,h,hF,sI⟩:=id hS;refine{_,(sc (si (cg<|tv<|aY T.k8 (gM T) hr<|al 1 an) (s1<|qR ⟨T.gG⟩ T.jR<|ac ds an) s0)<|sc (se<|wU (dv 0) T.ak T.ck (iI T) hr<|al 1 an)<|sc (se<|wU (dv 0) T.ak T.cn (Iw T) hr<|al 1 an)<|s1<|se<|bm zO zZ z0 cI (fl T.ak T.cK<|dv 0)<|ac (cj<|ac ds<|al 1 an) an),?_};refine !{k,rfl,hk,_,rfl,?_};refine bT (λh0=>?_) λh0=>?_;exact{pL,fo<|q1<|nt h0};have h0:=nf h0;refine !{a,_,rfl,h.ins,rfl,_,rfl,a,F,cs,dl,rs,k,rfl,hS,hk,λh1=>?_,λh1=>fo<|q2 h0 h1};obtain⟨z,rfl,hz⟩:=Dz h0;have nY:∃s,lu rs z=some s/\s≠[]:=by rw[wb hz]at h1;have:=Nw h1;cases e:lu rs z with|none=>rw[e]at this;exact absurd rfl this|some s=>rw[e]at this;exact⟨s,rfl,this⟩
 refine !{a,_,rfl,h.ins,rfl,_,rfl,a,F,cs,dl,rs,z,rfl,hS,nY,by lia,λS1 Dy U0=>?_};obtain⟨Ry,Zm,Zn,EK,U1,Qg⟩:=id Dy;refine !{a,_,_,rfl,EK.ins,rfl,{rfl,_,EK.y1},_,rfl,cu,Ry,dl,_,rfl,rfl,EK.y1,bg<|by lia,?_};refine fo<|q3 z rfl hz h1 _ {Ry,Zm,Zn,EK.Qc _,U1,Qg}<|U0.trans<|rO ?_;rw[U1];exact zf _ zm
inductive gR (t:gY) (ds:List D) (S:aw) (R:KD) (Z:KX):Prop where
 |mk (a cs) (h0:ds=[.ref a,.tup<|cs.map ay]) (h1:Gd cs) (h2:S a=some (.ins t.ao [])) (h3:∀S' F,cA t.ao S' a F cs [] []->B5 [a] F S S'->R .av S')
theorem LQ(T:Txt w K mg t):AJ P w mg base T.fz 5 (gR t):=by
 refine T.fz.F.bV mn ?_;obtain⟨a,cs,e,hg,ha,q⟩;refine{_,(sc (se<|aY T.gu (nW T) hr<|al 1 an)<|sc (sf T.ak T.cS (dv 0)<|dv 1)<|sc (sf T.ak T.cK (dv 0)<|cC an)<|s1<|sf T.ak T.bQ (dv 0) Tu),?_};refine !{cs,rfl,hg,_,rfl,_,rfl,a,[],rfl,ha,(show 0<1000 by decide),?_};refine{tM,λld Rz=>!{a,[("columns",.tup<|cs.map ay)],rfl,?_,(show 1<1000 by decide),λlr wO=>!{a,[("columns",.tup<|cs.map ay),("deeds",.ref ld)],rfl,?_,(show 2<1000 by decide),?_}}};have nl:a≠ld:=by rintro rfl;rw[aa]at Rz;cases Rz
 rw[ag nl,aa];rfl;have nl:a≠lr:=by rintro rfl;rw[aa]at wO;cases wO
 rw[ag nl,aa];rfl;have n1:a≠ld:=by rintro rfl;rw[aa]at Rz;cases Rz
 have n2:a≠lr:=by rintro rfl;rw[aa]at wO;cases wO
 have n3:ld≠lr:=by rintro rfl;rw[ag n1.symm,aa]at wO;cases wO
 rw[ag n1.symm]at Rz;rw[ag n2.symm,ag n3.symm,ag n2.symm]at wO;refine fo<|q _ (fp a ld lr []) {ld,lr,[],{aa,?_,?_,λr hr=>(nomatch hr),List.nodup_nil,(by simp),λr hr=>(nomatch hr)},rfl,rfl} λb c hb e=>?_;rw[ag n1.symm,ag n3,ag n1.symm,aa];rw[ag n2.symm,aa];rfl;have b1:b≠a:=λz=>hb (by rw[z];exact zm);have b2:b≠ld:=gq e Rz;have b3:b≠lr:=gq e wO;refine{λm=>?_,by rw[ag b1,ag b3,ag b1,ag b2,ag b1];exact e};unfold fp at m;simp only[yT,zj,zM,or_false]at m;rcases m with m|m|m;exact b1 m;exact b2 m;exact b3 m
noncomputable def tR(rs:mW)(i:Int)(z:Str):D:=.tup [.str z,wt ((lu rs z).getD []) i]
noncomputable def dZ(rs:mW)(i:Int)(ss:List Str):List D:=(ss.filter λz=>!ah (wt ((lu rs z).getD []) i)).map<|tR rs i
noncomputable def wc:D->Bool|.tup [_,x]=>!ah x|_=>false
theorem y4(ss:List Str):((ss.map<|tR rs i).filter wc).map id=dZ rs i ss:=by unfold dZ;rw[List.map_id,List.filter_map];rfl
def Nx(C N:Addr):ja:=λds S R Z=>∃a F cs dl rs m,ds=[.ref a,m]/\cA C S a F cs dl rs/\rs.length<64/\Gt S m/\(∀i ss,tP dl.length m=some i->ss.Perm (rs.map (·.1))->PyProof.Rows.sortedS ss=true->∀p,S p=none->R (.ref p) (S.set p<|.lst<|dZ rs i ss))/\(tP dl.length m=none->Z N S)
theorem uJ(T:Txt w K mg t):AJ P w mg base T.dD 3 (Nx t.ao t.dO):=by
 refine T.dD.F.bV eN ?_;obtain⟨a,F,cs,dl,rs,m,e,hS,hn,hm,q1,q2⟩;obtain⟨ld,lr,ra,h,hF,sI⟩:=id hS;have ek:(dI ra).map (·.1)=(rs.map (·.1)).map Sum.inr:=by rw[sI];unfold dI gN;rw[zy,zy,zy];rfl
 have el:(dI ra).length<64:=by rw[sI]at hn;unfold gN at hn;unfold dI;rw[zb]at hn⊢;exact hn
 refine{_,(sc (cG (i:=2) eN.nd<|wU (dv 0) T.ak T.cq (iH T) hr<|al 1 an)<|sc (Hr (i:=3) (N:=["key","then","self"]) (src:=[none,some 2,some 0]) eN.nd (iT (ae<|inClass bA 10) ["self","moment","then","rows"] rfl rfl<|by trivial) (il<|cb xG T.gF eW<|ac (fl T.ak T.bQ<|dv 0) an) (oF<|show(["key","then","self"]:List Str).Nodup by trivial) (aQ rfl) aR (λ_ _ _ _ _=>oE) λ_ _ _ _ _=>(cj<|al 0<|ac (aY T.fY (jA T) hr<|ac (ix hr.u (fl T.ak T.bQ<|dv 2)<|dv 0)<|al 1 an) an))<|s1<|sr<|sZ (N:=["row"]) (src:=[none]) (iT (ae<|inClass bA 10) ["self","moment","then","rows"] rfl rfl<|by trivial) (il<|dv 3) (oF<|show(["row"]:List Str).Nodup by trivial) (aQ rfl) aR (λ_ _ _ _ _=>(if1<|bf kP hr.u (ix hr.u (dv 0) di) dn)) λ_ _ _ _ _=>(dv 0)),?_};refine !{a,_,rfl,h.ins,rfl,_,rfl,a,F,cs,dl,rs,m,rfl,hS,hm,λi hi=>?_,λhn=>fo<|q2 hn};refine !{a,_,_,rfl,h.ins,rfl,lr,dI ra,rs.map (·.1),rfl,h.run,ek,el,λss hp hs p kh=>?_};have hlen:ss.length<64:=by rw[hp.length_eq,zb];exact hn
 refine{_,aa,?_};refine comp_map (λd=>match d with|.str z=>tR rs i z|_=>.av) aa (by show(ss.map D.str).length<=1000;rw[zb];omega) (λd hd Q hQ=>?_) λp2 eV=>?_;obtain⟨z,hz,rfl⟩:=zh.mp hd;have X1:z∈rs.map (·.1):=hp.mem_iff.mp hz;obtain⟨r,iR,e⟩:=zh.mp X1;rw[sI]at iR;unfold gN at iR;obtain⟨r0,wV,rfl⟩:=zh.mp iR;have e1:sJ ra z=some r0.2:=by cases e3:sJ ra z with|none=>exact absurd e (mx e3 _ wV)|some x=>exact congrArg some<|congrArg Prod.snd<|f9 (f:=λr:Str×Addr×List Std=>r.1) h.kn (dk (l:=x.1) (s:=x.2) e3) wV e.symm
 have ed:bY (dI ra) (.inr z)=some (.ref r0.2.1):=by rw[gQ,e1];rfl
 have hc:=h.cell _ wV;have eq:(lu rs z).getD []=r0.2.2:=by rw[sI,gw,e1];rfl
 have hQ:Q (.tup [.str z,wt ((lu rs z).getD []) i]) (S.set p<|.lst<|ss.map D.str):=hQ;rw[eq]at hQ;have hi1:(S.set p<|.lst<|ss.map D.str) a=_:=(ag<|gq h.ins kh).trans h.ins;have Ft:(S.set p<|.lst<|ss.map D.str) lr=_:=(ag<|gq h.run kh).trans h.run;have Wq:(S.set p<|.lst<|ss.map D.str) r0.2.1=_:=(ag<|gq hc kh).trans hc;exact !!{a,_,_,rfl,hi1,rfl,_,rfl,dI ra,_,Ft,ed,_,rfl,_,_,i,rfl,Wq,cu,hQ};have em:(ss.map D.str).map (λd=>match d with|.str z=>tR rs i z|_=>.av)=ss.map (tR rs i):=by rw[zy];rfl
 refine !{ss.map<|tR rs i,by show((S.set p _).set p2<|.lst<|(ss.map D.str).map _) p2=_;rw[aa,em],?_};refine e_ wc id (by show((S.set p _).set p2<|.lst<|(ss.map D.str).map _) p2=_;rw[aa,em]) (by show(ss.map<|tR rs i).length<=1000;rw[zb];omega) (λd hd Q Q' hQ Gk=>?_) λp3 Wr=>?_;obtain⟨z,hz,rfl⟩:=zh.mp hd;refine !!!⟨?_⟩;exact bT (λh=>!⟨hQ h⟩) λh=>Gk h;have Zo:S p3=none:=by cases e:S p3 with|none=>rfl|some c=>exact absurd Wr<|by rw[ag (gq e<|by have:(S.set p<|.lst<|ss.map D.str) p2=none:=eV;cases e':S p2 with|none=>rfl|some c'=>rw[ag<|gq e' kh,e']at this;cases this),ag<|gq e kh,e];exact nofun
 refine{S.set p3<|.lst<|dZ rs i ss,λb c hb=>?_,q1 i ss hi hp hs p3 Zo};show((((S.set p<|.lst<|ss.map D.str).set p2 _).set p3<|.lst<|((ss.map<|tR rs i).filter wc).map id)) b=some c;rw[y4];by_cases Zp:b=p3;subst Zp;rw[aa]at hb⊢;exact hb;rw[ag Zp]at hb;have Zr:S p2=none:=by cases e':S p2 with|none=>rfl|some c'=>have:(S.set p<|.lst<|ss.map D.str) p2=none:=eV;rw[ag<|gq e' kh,e']at this;cases this
 rw[ag Zp,ag<|gq hb Zr,ag<|gq hb kh];exact hb
theorem Fv{S:aw}{p:Addr}{c:Ce}(h:S p=some c):S.set p c=S:=by funext b;by_cases e:b=p;subst e;rw[aa,h];rw[ag e]
theorem Iy{S:aw}{p q:Addr}{c e:Ce}(h:S q=none)(hn:p≠q):Sub (S.set p c) ((S.set q e).set p c):=λb x hb=>by by_cases U5:b=p;subst U5;rw[aa]at hb⊢;exact hb;rw[ag U5]at hb⊢;exact(Sub.new h) _ _ hb
theorem dpI:∀xs:List Int,DpAll S (xs.map D.int) (xs.map PyData.int)/\PyData.canLayAll0 (xs.map PyData.int)=true/\PyData.depthAll (xs.map PyData.int)<=0|[]=>{by simp only[yT,DpAll],rfl,zV _}|x::xs=>by obtain⟨a,b,c⟩:=dpI (S:=S) xs;exact{by simp only[zx,DpAll];exact{_,_,rfl,by simp only[Dp],a},by simp only[zx,PyData.canLayAll0,PyData.canLay0,b,Bool.and_self],by simp only[zx,PyData.depthAll,PyData.depth];lia}
theorem LR{S:aw}{a b:Addr}{xs:List Int}{R:KD}(e1:S a=some (.lst<|xs.map D.int))(e2:S b=some (.lst []))(q:R (.bl xs.isEmpty) S):Gb false (.ref a) (.ref b) S R:=by obtain⟨k1,k2,k3⟩:=dpI (S:=S) xs;refine{.list<|xs.map PyData.int,.list [],{_,_,e1,rfl,k1},{[],[],e2,rfl,by simp only[DpAll]},by simp only[PyData.canLay0];exact k2,by simp only[PyData.canLay0,PyData.canLayAll0],.inl<|by simp only[PyData.depth];lia,?_};rw[if_neg zd,show PyData.eqv (.list<|xs.map PyData.int) (.list [])=xs.isEmpty by cases xs<;>simp[PyData.eqv,PyData.eqvAll]];exact q
theorem LS{k n:Nat}(h:k<n):seqIndex? ((k:Nat):Int) n=some k:=by have e:(if ((k:Nat):Int)<0 then ((k:Nat):Int)+(n:Int) else ((k:Nat):Int))=((k:Nat):Int):=if_neg (by lia);unfold seqIndex?;dsimp only;rw[e,if_pos<|by simp;lia];rfl
theorem br{p:Bool}{A B:Prop}(h:p=false)(q:B):if p=true then A else B:=by rw[h];exact aZ q
theorem gZ{p:Bool}{A B:Prop}(h:p=true)(q:A):if p=true then A else B:=by rw[h];exact eC q
theorem bE{L:List D}{S:aw}{p:Addr}{n:Int}{R:KD}(h0:0<=n)(h1:n<(L.length:Int))(hp:S p=none)(q:∀d,d∈L->R d S):Yf p n (S.set p<|.lst L) λd S'=>Fo S' (R d):=by obtain⟨v,e1,e2⟩:=p5 (l:=L) h0 h1;exact{L,v,aa,e1,S,.new hp,q v<|zE e2}
theorem mz{xs:List Int}{i:Int}{P:Int->Prop}(h0:0<=i)(h1:i<((xs.map D.int).length:Int))(h:∀x∈xs,P x):∃x,jK (xs.map D.int) i=some (.int x)/\P x:=by obtain⟨d,e1,e2⟩:=p5 (l:=xs.map D.int) h0 h1;obtain⟨x,hx,rfl⟩:=zh.mp<|zE e2;exact{x,e1,h x hx}
inductive oS (ds:List D) (S:aw) (R:KD) (Z:KX):Prop where
 |mk (ns:List Int) (k:Nat) (h0:ds=[.jO<|ns.map D.int,.int k]) (h1:∀c:Int,R (.int c) S)
theorem fG(T:Txt w K mg t):Ok P w base T.dS 1 oS:=by
 refine T.dS.F.bV v7 ?_;obtain⟨ns,k,e,q⟩;refine{_,(sc (si (bf pC hr.u (dv 1)<|cb aK T.aI aC<|al 0 an) (s1<|sr<|ix hr.u (dv 0)<|dv 1) s0)<|s1<|sr di),?_};refine !!!!⟨?_⟩;refine bT (λh=>?_) λh=>?_;have h:(k:Int)<(((ns.map D.int).length:Nat):Int):=zB h;have hk:k<ns.length:=by rw[zb]at h;lia
 exact !!{.int ns[k],bU<|by rw[zi];simp[hk],fo<|q _};exact fo<|q 0
inductive uK (ds:List D) (S:aw) (R:KD) (Z:KX):Prop where
 |mk (c:Int) (n:Nat) (h0:ds=[.int c,.int (n:Nat)]) (h1:n<=20) (h2:∀(xs:List Int) p,xs.length=n->(∀x∈xs,0<=x)->S p=none->R (.ref p) (S.set p<|.lst<|xs.map D.int))
theorem gT(T:Txt w K mg t):Ok P w base T.fZ 1 uK:=by
 refine T.fZ.F.bV cL ?_;obtain⟨c,n,e,hn,q⟩;refine{_,(sc (cG (i:=2) cL.nd<|cC an)<|sc (cG (i:=3) cL.nd di)<|sc (ux<|si (bf Yd hr.u (dv 0)<|bo lU hr.u di di) (s1<|cG (i:=3) cL.nd<|bo fR hr.u (dv 0)<|bo lU hr.u di di) s0)<|sc (ux<|Y0 (twd<|twand (bf pE hr.u (dv 3) di)<|tw1<|bf pC hr.u (cb aK T.aI aC<|al 2 an)<|dv 1)<|sc (se<|bm zO zZ z0 cI (dv 2)<|ac (bo bh hr.u (dv 3)<|bo lU hr.u di di) an)<|s1<|cG (i:=3) cL.nd<|bo bP hr.u (dv 3)<|bo lU hr.u di di)<|sc (cG (i:=4) cL.nd<|bo bz hr.u (bo bh hr.u (dv 0)<|bo bz hr.u (bo lU hr.u di di) di) di)<|sc (ux<|C9 (JI T.d_<|ac (bo bz hr.u (dv 1) di) an) (gn (i:=5) cL.nd)<|sc (cG (i:=4) cL.nd<|bo bh hr.u (bo bz hr.u (bo bz hr.u (bo qO hr.u (dv 4)<|dv 4)<|bo qO hr.u di<|dv 4)<|dv 5)<|bo bz hr.u (bo lU hr.u di di) di)<|s1<|si (bf pE hr.u (dv 5) di) (s1<|se<|bm zO zZ z0 cI (dv 2)<|ac (bo bh hr.u (bo qO hr.u (dv 4)<|bo bz hr.u (bo bP hr.u (dv 4) di) di)<|bo bz hr.u (bo lU hr.u di di) di) an) s0)<|s1<|sr<|Nn (dv 2) o0<|o1<|dv 1),?_};refine{tM,λlf Fw=>?_};refine{λaB S'=>∃r:Int,aB=[some<|.int c,some<|.int (n:Nat),some<|.ref lf,some<|.int r,none,none]/\S'=S.set lf (.lst []),?_,?_};refine{_,rfl,{by decide,by decide,by decide},_,rfl,bT (λh=>?_) λh=>fo {0,rfl,rfl}};exact{_,rfl,{by decide,by decide,by decide},fo !⟨rfl⟩};rintro aB S' ⟨r,rfl,rfl⟩;refine{λaB S'=>∃(r:Int)(xs:List Int),aB=[some<|.int c,some<|.int (n:Nat),some<|.ref lf,some<|.int r,none,none]/\S'=S.set lf (.lst<|xs.map D.int)/\xs.length<=n/\∀x∈xs,0<=x,?_,?_};refine{λm aB S'=>∃(r:Int)(xs:List Int),aB=[some<|.int c,some<|.int (n:Nat),some<|.ref lf,some<|.int r,none,none]/\S'=S.set lf (.lst<|xs.map D.int)/\xs.length+m=n/\∀x∈xs,0<=x,{n,r,[],rfl,rfl,Nat.zero_add _,λ_ h=>(nomatch h)},?_};rintro m aB S' ⟨r,xs,rfl,rfl,hl,hx⟩;have hS:(S.set lf<|.lst<|xs.map D.int) lf=some (.lst<|xs.map D.int):=aa;refine !!⟨bT (λh1=>!!⟨.inl {_,hS,_,rfl,_,rfl,bT (λh2=>?_) λh2=>?_}⟩) λh1=>aZ<|fo {r,xs,rfl,rfl,by lia,hx}⟩;have h2:(((xs.map D.int).length:Nat):Int)<((n:Nat):Int):=zB h2;rw[zb]at h2;refine{_,rfl,{rfl,_,hS},_,rfl,{by decide,by decide,by decide},by decide,lf,_,_,rfl,rfl,hS,bg<|by rw[zb];lia,?_};refine{_,rfl,{by decide,by decide,by decide},{by decide,by trivial},m-1,by lia,_,xs++[r%10^(15:Int).toNat],rfl,?_,by rw[zC];show xs.length+1+_=_;lia,λx Eh=>?_};rw[dw,zK];rfl;rcases zP.mp Eh with h|h;exact hx x h;rw[zI.mp h];exact zN _ (by decide);exact fo {r,xs,rfl,rfl,by lia,hx};rintro aB S' ⟨r,xs,rfl,rfl,hl,hx⟩;have nb:∀z:Int,0<=z%1000000000000000009/\z%1000000000000000009<1000000000000000009:=λz=>{zN z<|by decide,zJ z<|by decide};have e18:((10:Int)^(18:Int).toNat+9)=1000000000000000009:=by decide
 refine{_,rfl,{by decide,by decide,by decide},by decide,?_};refine{λaB S'=>∃(o4 o5:Option D)(ys:List Int),aB=[some<|.int c,some<|.int (n:Nat),some<|.ref lf,some<|.int r,o4,o5]/\S'=S.set lf (.lst<|ys.map D.int)/\n<=ys.length/\ys.length<=40/\∀x∈ys,0<=x,?_,?_};refine !{((n:Nat):Int)+3,rfl,by lia,by lia,?_};refine{λi aB S'=>∃(nu:Int)(o5:Option D)(ys:List Int),aB=[some<|.int c,some<|.int (n:Nat),some<|.ref lf,some<|.int r,some<|.int nu,o5]/\0<=nu/\nu<1000000000000048280/\S'=S.set lf (.lst<|ys.map D.int)/\ys.length=xs.length+(i-3)/\∀x∈ys,0<=x,?_,λ_ _ _ _=>trivial,?_,?_};have:=nb c;rw[e18];exact{_,none,xs,rfl,by lia,by lia,rfl,rfl,hx};rintro i d aB S' hd ⟨nu,o5,ys,rfl,n0,n1,rfl,hyl,hy⟩;have hd:(df 0 (((n:Nat):Int)+3).toNat)[i]?=some d:=hd;obtain⟨hi,rfl⟩:=cy hd;refine !!{.inl {by lia,by lia},_,rfl,.inl {by decide,by decide},_,rfl,{by decide,by decide,by decide},by decide,?_};rw[e18];have b1:=nb<|nu*nu+48271*nu+(0+(i:Nat));generalize (nu*nu+48271*nu+(0+(i:Nat)))%1000000000000000009=nu2 at b1⊢;have hS:(S.set lf<|.lst<|ys.map D.int) lf=some (.lst<|ys.map D.int):=aa;refine !!⟨bT (λh=>?_) λh=>?_⟩;have h:(2:Int)<0+((i:Nat):Int):=zB h;refine{_,rfl,{rfl,_,hS},_,rfl,_,rfl,{by decide,by trivial},.inl {by lia,by lia},{by decide,by decide,by decide},by decide,lf,_,_,rfl,rfl,hS,bg<|by rw[zb];lia,?_};refine{nu2,_,ys++[nu2*(nu2/1009+69621)%(10^(18:Int).toNat+9)],rfl,by lia,by lia,?_,by rw[zC];show ys.length+1=_;lia,λx Eh=>?_};rw[dw,zK];rfl;rcases zP.mp Eh with h|h;exact hy x h;rw[zI.mp h];exact zN _ (by decide);have h:¬(2:Int)<0+((i:Nat):Int):=yd h;exact{nu2,_,ys,rfl,by lia,by lia,rfl,by lia,hy};rintro aB S' ⟨nu,o5,ys,rfl,_,_,rfl,hyl,hy⟩;rw[show({df 0 (((n:Nat):Int)+3).toNat,λ_=>True}:oB).xs.length=(((n:Nat):Int)+3).toNat from bK]at hyl;exact fo {_,_,ys,rfl,rfl,by lia,by lia,hy};rintro aB S' ⟨o4,o5,ys,rfl,rfl,Nd,MJ,hy⟩;refine !!!{_,aa,λp hp=>?_};have Iz:S p=none:=by rw[ag<|show p≠lf by rintro rfl;rw[aa]at hp;cases hp]at hp;exact hp
 have e:cD (ys.map D.int) none (some ((n:Nat):Int))=(ys.take n).map D.int:=by unfold cD;rw[HT.sIx_nat,HT.sIx_none,zb,Nat.min_eq_left Nd,List.drop_zero,Nat.sub_zero,List.map_take]
 rw[e];refine{_,λb x hb=>?_,q (ys.take n) p (by rw[ym];lia) (λx Eh=>hy x<|List.mem_of_mem_take Eh) Iz};by_cases U5:b=p;subst U5;rw[aa]at hb⊢;exact hb;rw[ag U5]at hb⊢;exact(Sub.new Fw) _ _ hb
inductive uL (ds:List D) (S:aw) (R:KD) (Z:KX):Prop where
 |mk (p:Addr) (xs:List Int) (h0:ds=[.ref p]) (h1:S p=some (.lst<|xs.map D.int)) (h2:xs.length<=20) (h3:∀x∈xs,0<=x) (h4:∀(x:Int)(ys:List Int),0<=x->ys.length<=xs.length->(∀y∈ys,0<=y)->R (.int x) (S.set p<|.lst<|ys.map D.int))
theorem y6(T:Txt w K mg t):Ok P w base T.qh 1 uL:=by refine T.qh.F.bV BU ?_;obtain⟨p,xs,e,hp,hl,hx,q⟩;refine{_,(sc (si (bf aU hr.u (dv 0)<|cC an) (s1<|sr di) s0)<|s1<|sr<|bm zO PySem.F.slot_list_pop PySem.F.type_list_pop Lb (dv 0)<|ac di an),?_};refine !{tM,λp2 eV=>LR ((Sub.new eV) _ _ hp) aa !⟨?_⟩};cases xs with|nil=>refine gZ rfl {S.set p<|.lst [],?_,q 3 [] (by decide) (zr _) λ_ h=>(nomatch h)};rw[Fv<|show S p=some (.lst []) from hp];exact .new eV|cons x xs=>refine br rfl !⟨{rfl,_,(Sub.new eV) _ _ hp},p,_,_,0,.int x,rfl,rfl,(Sub.new eV) _ _ hp,by decide,by decide,LS (k:=0)<|by simp,rfl,?_⟩;refine{_,?_,q x xs (hx x zm) (by simp) λy hy=>hx y<|zf _ hy};exact Iy eV λe=>by rw[e,eV]at hp;cases hp
noncomputable abbrev KW:List Str:=["a","ab","b","abc","z","a1","b22","aa","m","m0","ba","zzzzzzzzz"]
noncomputable abbrev KU:List Str:=["","0","b7","zz","9"]
noncomputable abbrev KS:List Str:=KW.flatMap λa=>KU.map λb=>a++b
theorem fH:∀z∈KS,kf z=true/\z.cps.size<=12/\PyData.strOk z=true:=by trivial
theorem U6:∀a∈KW,∀b∈KU,a.length+b.length<=1000:=by trivial
noncomputable abbrev AL:List Str:=["key","a","ab","at","up","mark","b","price"]
theorem IA:∀z∈AL,kB z=true/\PyData.strOk z=true:=by trivial
noncomputable abbrev WDS:List Str:=["","a","ab","b","a b","B","~","=b"]
theorem Qh:∀z∈WDS,oN z=true:=by trivial
noncomputable def bc:D->Bool|.av=>true|.int _=>true|.str z=>decide (z.cps.size<=40)&&PyData.strOk z|_=>false
def Vg(kind:Str)(d:D):Prop:=iQ kind d=true/\bc d=true
theorem LU(h:oN z=true):bc (.str z)=true:=by unfold oN at h;rw[zL,ya]at h;show(decide (z.cps.size<=40)&&PyData.strOk z)=true;rw[h.1,ye];unfold PyData.strOk;rw[<-Array.all_toList,ya];intro c hc;have:=h.2 c hc;unfold Dw at this;simp only[zL,zR]at this⊢;lia
theorem Qi{k:Str}(h:k ="number")(i:Int):Vg k (.int i):={by rw[h];rfl,rfl}
theorem Qj{k:Str}(h:¬k ="number")(hz:oN z=true):Vg k (.str z):={by unfold iQ;rw[if_neg h];exact hz,LU hz}
theorem Ql(k:Str):Vg k .av:=⟨rfl,rfl⟩
inductive uM (ds:List D) (S:aw) (R:KD) (Z:KX):Prop where
 |mk (k:Str) (x:Int) (h0:ds=[.str k,.int x]) (h1:∀d,Vg k d->R d S)
theorem rQ(T:Txt w K mg t):Ok P w base T.me 1 uM:=by refine T.me.F.bV rF ?_;obtain⟨k,x,e,q⟩;refine{_,(sc (si (bf aU hr.u (bo bh hr.u (dv 1) di) di) (s1<|sr dn) s0)<|sc (si (bf aU hr.u (dv 0) ds) (sc (cG (i:=2) rF.nd<|bo qO hr.u (bo bh hr.u (bo bP hr.u (dv 1) di)<|bo lU hr.u di di)<|bo lU hr.u di di)<|s1<|sr<|s_<|ix hr.u (cC<|ac di<|ac di<|ac di<|ac di<|ac (K9 di)<|ac (K9 di)<|al 2<|ac (bo fR hr.u di<|dv 2) an)<|bo bh hr.u (bo bP hr.u (dv 1) di) di) s0)<|s1<|sr<|s_<|ix hr.u (cC<|ac ds<|ac ds<|ac ds<|ac ds<|ac ds<|ac ds<|ac ds<|ac ds an)<|bo bh hr.u (bo bP hr.u (dv 1) di) di),?_};refine !{by decide,_,rfl,bT (λ_=>fo<|q _<|Ql k) λ_=>!!⟨?_⟩};have i0:0<=x/5%8:=zN _ (by decide);have i1:x/5%8<8:=zJ _ (by decide);refine bT (λh=>?_) λh=>?_;have h:k ="number":=zB h;have g0:0<=x/40%10^(15:Int).toNat:=zN _ (by decide);have g1:x/40%10^(15:Int).toNat<10^(15:Int).toNat:=zJ _ (by decide);refine{_,rfl,{by decide,by trivial},{by decide,by decide,by decide},by decide,{by decide,by decide,by decide},.inl {Int.lt_of_lt_of_le (by decide) g0,Int.lt_trans g1<|by decide},?_};generalize x/40%10^(15:Int).toNat*10^(44:Int).toNat=gr;refine !!!!{Fm,λp hp=>!⟨{by decide,by trivial},by decide,bE i0 i1 hp λd hd=>?_⟩};have hd:d∈[D.int 0,.int 1,.int 2,.int 10,.int (-1),.int (-2),.int gr,.int<|0-gr]:=hd;simp only[zj,zM,or_false]at hd;rcases hd with rfl|rfl|rfl|rfl|rfl|rfl|rfl|rfl<;>exact fo (q _<|Qi h _);refine{Fm,λp hp=>!⟨{by decide,by trivial},by decide,bE i0 i1 hp λd hd=>?_⟩};have hd:d∈WDS.map D.str:=hd;obtain⟨z,hz,rfl⟩:=zh.mp hd;exact fo<|q _<|Qj (yd h)<|Qh z hz
inductive DC (ds:List D) (S:aw) (R:KD) (Z:KX):Prop where
 |mk (x:Int) (h0:ds=[.int x]) (h1:∀z∈KS,R (.str z) S)
theorem B7(T:Txt w K mg t):Ok P w base T.x6 1 DC:=by
 refine T.x6.F.bV yZ ?_;obtain⟨x,e,q⟩;refine{_,(sc (cG (i:=1) yZ.nd<|s_<|ix hr.u (cC<|ac ds<|ac ds<|ac ds<|ac ds<|ac ds<|ac ds<|ac ds<|ac ds<|ac ds<|ac ds<|ac ds<|ac ds an)<|bo bh hr.u (dv 0) di)<|s1<|sr<|bo bz hr.u (dv 1)<|s_<|ix hr.u (cC<|ac ds<|ac ds<|ac ds<|ac ds<|ac ds<|ac ds<|ac ds<|ac ds an)<|bo bh hr.u (bo bP hr.u (dv 0) di) di),?_};refine{UU,λp hp=>!{by decide,bE (zN _<|by decide) (zJ _<|by decide) hp λd hd=>?_}};have hd:d∈KW.map D.str:=hd;obtain⟨a,ha,rfl⟩:=zh.mp hd;refine !{Fm,λp hp=>!⟨{by decide,by trivial},by decide,bE (zN _<|by decide) (zJ _<|by decide) hp λd hd=>?_⟩};obtain⟨b,hb,rfl⟩:∃b∈KU,d=.str b:=by have hd:d∈[D.str "",.str "",.str "",.str "",.str "0",.str "b7",.str "zz",.str "9"]:=hd;simp only[zj,zM,or_false]at hd;rcases hd with h|h|h|h|h|h|h|h<;>exact{_,by simp,h}
 exact{sm<|U6 a ha b hb,fo<|q _<|List.mem_flatMap.mpr {a,ha,zh.mpr ⟨b,hb,rfl⟩}}
theorem b_:∀{l:List α}{m:List β},Paired rel l m->∀{i:Nat}{b:β},m[i]?=some b->∃a,l[i]?=some a/\rel a b|_,_,.nil,_,_,h=>by simp at h|_,_,.cons r t,0,b,h=>(by rw[List.getElem?_cons_zero]at h⊢;cases h;exact{_,rfl,r})|_,_,.cons r t,i+1,b,h=>by rw[List.getElem?_cons_succ]at h⊢;exact b_ t h
theorem nZ:∀{l:List α}{m:List β},m.length=l.length->(∀(i:Nat) a b,l[i]?=some a->m[i]?=some b->rel a b)->Paired rel l m|[],[],_,_=>.nil|a::l,b::m,h,k=>.cons (k 0 a b rfl rfl)<|nZ (by simpa using h) λi x y e1 e2=>k (i+1) x y (by rw[List.getElem?_cons_succ];exact e1)<|by rw[List.getElem?_cons_succ];exact e2
def Wg(cs:List<|Str×Str)(ws:List D):Prop:=Paired (λ(c:Str×Str) v=>Vg c.2 v) cs ws
noncomputable def rR(tr j:Nat):Str:=AL.getD ((tr+3*j)%8) ""
theorem IB:∀tr<8,∀i<9,((List.range i).map<|rR tr).Nodup:=by trivial
theorem Qm(tr j:Nat):rR tr j∈AL:=by have:(tr+3*j)%8<8:=Nat.mod_lt _ (by decide);unfold rR;rw[zG,zg<|show(tr+3*j)%8<AL.length from this];exact List.getElem_mem _
theorem Qn(tr j:Nat):rR (tr%8) j=rR tr j:=by unfold rR;rw[show(tr%8+3*j)%8=(tr+3*j)%8 by lia]
def Cg(cs:List<|Str×Str):Prop:=Gd cs/\∀c∈cs,c.1∈AL
inductive oU (ds:List D) (S:aw) (R:KD) (Z:KX):Prop where
 |mk (c:Int) (h0:ds=[.int c]) (h1:∀cs,Cg cs->R (.tup<|cs.map ay) S)
theorem B8(T:Txt w K mg t):Ok P w base T.nQ 2 oU:=by
 refine T.nQ.F.bV cU ?_;obtain⟨c,e,q⟩;refine{_,(sc (cG (i:=1) cU.nd<|aY T.fZ (gT T) hr<|al 0<|ac di an)<|sc (cG (i:=2) cU.nd<|cC<|ac ds<|ac ds<|ac ds<|ac ds<|ac ds<|ac ds<|ac ds<|ac ds an)<|sc (cG (i:=3) cU.nd<|s_<|ix hr.u (cC<|ac di<|ac di<|ac di<|ac di<|ac di<|ac di<|ac di<|ac di an)<|bo bh hr.u (ix hr.u (dv 1) di) di)<|sc (cG (i:=4) cU.nd<|cC an)<|sc (ux<|C9 (JI T.d_<|al 3 an) (gn (i:=5) cU.nd)<|sc (se<|bm zO zZ z0 cI (dv 4)<|ac (cj<|ac (ix hr.u (dv 2)<|bo bh hr.u (bo bz hr.u (ix hr.u (dv 1) di)<|bo qO hr.u di<|dv 5) di)<|ac (s_<|ix hr.u (cC<|ac ds<|ac ds an)<|bo bh hr.u (ix hr.u (dv 1) di) di) an) an)<|s1<|sls (dv 1) di<|bo bP hr.u (ix hr.u (dv 1) di) di)<|s1<|sr<|ct fS T.bu aW<|al 4 an),?_};refine !{c,3,rfl,by decide,λxs lx JK hx xm=>?_};obtain⟨x0,x1,x2,rfl⟩:∃x0 x1 x2,xs=[x0,x1,x2]:=by match xs,JK with|[a,b,c],_=>exact⟨a,b,c,rfl⟩
 obtain⟨tr,rfl⟩:=Int.eq_ofNat_of_zero_le<|hx x1 (by simp);refine{Fm,λln Ug=>?_};have Gi:((S.set lx<|.lst<|[x0,((tr:Nat):Int),x2].map D.int).set ln<|.lst<|AL.map D.str) lx=some (.lst<|[x0,((tr:Nat):Int),x2].map D.int):=(ag<|gq aa Ug).trans aa;have Nd:((S.set lx<|.lst<|[x0,((tr:Nat):Int),x2].map D.int).set ln<|.lst<|AL.map D.str) ln=some (.lst<|AL.map D.str):=aa;have s1:=(Sub.new (c:=.lst<|[x0,((tr:Nat):Int),x2].map D.int) xm).trans<|.new (c:=.lst<|AL.map D.str) Ug;have nxn:lx≠ln:=gq aa Ug;rw[show[D.str "key",.str "a",.str "ab",.str "at",.str "up",.str "mark",.str "b",.str "price"]=AL.map D.str from rfl];generalize (S.set lx<|.lst<|[x0,((tr:Nat):Int),x2].map D.int).set ln (.lst<|AL.map D.str)=S1 at Gi Nd s1⊢;refine{Fm,λp hp=>!{_,_,(Sub.new hp) _ _ Gi,rfl,by decide,bE (zN _<|by decide) (zJ _<|by decide) hp λd hd=>?_}};obtain⟨m,rfl,hm⟩:∃m:Nat,d=.int m/\m<=8:=by have hd:d∈[D.int 1,.int 2,.int 3,.int 0,.int 2,.int 1,.int 8,.int 3]:=hd;simp only[zj,zM,or_false]at hd;rcases hd with h|h|h|h|h|h|h|h;exact{1,h,by decide};exact{2,h,by decide};exact{3,h,by decide};exact{0,h,by decide};exact{2,h,by decide};exact{1,h,by decide};exact{8,h,by decide};exact{3,h,by decide}
 refine{tM,λlf Fw=>?_};have acR:S1 lx≠none:=by rw[Gi];nofun
 have Zs:lx≠lf:=gq Gi Fw;have nnf:ln≠lf:=gq Nd Fw;have sz:=s1.trans<|Sub.new (c:=.lst []) Fw;have Qo:S lf=none:=by cases e:S lf with|none=>rfl|some z=>have:=s1 _ _ e;rw[Fw]at this;cases this
 refine{λaB S'=>∃(cs:List (Str×Str))(o6:Option D),aB=[some<|.int c,some<|.ref lx,some<|.ref ln,some<|.int (m:Nat),some<|.ref lf,o6]/\Cg cs/\S' lf=some (.lst<|cs.map ay)/\Sub S S',?_,?_};refine !{((m:Nat):Int),rfl,by lia,by lia,?_};refine{λi aB S'=>∃(cs:List (Str×Str))(y2:Int)(o6:Option D),aB=[some<|.int c,some<|.ref lx,some<|.ref ln,some<|.int (m:Nat),some<|.ref lf,o6]/\cs.map Prod.fst=(List.range i).map (rR tr)/\(∀c∈cs,c.2 ="number"\/c.2 ="word")/\S' lx=some (.lst<|[x0,((tr:Nat):Int),y2].map D.int)/\S' ln=some (.lst<|AL.map D.str)/\S' lf=some (.lst<|cs.map ay)/\Sub S S',{[],x2,none,rfl,rfl,λ_ h=>(nomatch h),(ag Zs).trans Gi,(ag nnf).trans Nd,aa,sz},λ_ _ _ _=>trivial,?_,?_};rintro i d aB S' hd ⟨cs,y2,o6,rfl,hn,hk,hX,hN,hF,hs⟩;have hd:(df 0 ((m:Nat):Int).toNat)[i]?=some d:=hd;obtain⟨hi,rfl⟩:=cy hd;have xl:cs.length=i:=by have:=congrArg List.length hn;simpa using this
 have enm:jK (AL.map D.str) ((((tr:Nat):Int)+3*(0+((i:Nat):Int)))%8)=some (.str<|rR tr i):=by rw[show(((tr:Nat):Int)+3*(0+((i:Nat):Int)))%8=(((tr+3*i)%8:Nat):Int) by lia];have eL:(tr+3*i)%8<8:=Nat.mod_lt _ (by decide);refine bU ?_;rw[zi];unfold rR;rw[zG,zg<|show(tr+3*i)%8<AL.length from eL];rfl
 refine{_,rfl,{rfl,_,hF},_,rfl,_,rfl,_,_,hX,rfl,_,rfl,.inl {by decide,by decide},by decide,_,_,hN,enm,cu,λp hp=>!{_,_,(Sub.new hp) _ _ hX,rfl,by decide,bE (zN _<|by decide) (zJ _<|by decide) hp λd hd=>?_}};obtain⟨kd,rfl,U7⟩:∃kd:Str,d=.str kd/\(kd ="number"\/kd ="word"):=by have hd:d∈[D.str "number",.str "word"]:=hd;simp only[zj,zM,or_false]at hd;rcases hd with h|h;exact{_,h,.inl rfl};exact{_,h,.inr rfl}
 refine{cu,lf,_,_,rfl,rfl,hF,bg<|by rw[zb];lia,?_};have sM:(S'.set lf<|.lst<|cs.map ay++[.tup [.str<|rR tr i,.str kd]]) lx=some (.lst<|[x0,((tr:Nat):Int),y2].map D.int):=(ag Zs).trans hX;refine !{_,_,sM,rfl,{by decide,by trivial},_,rfl,lx,_,2,2,rfl,rfl,sM,rfl,?_};refine{cs++[(rR tr i,kd)],y2/2,_,rfl,?_,?_,aa,(ag nxn.symm).trans<|(ag nnf).trans hN,?_,λb x hb=>?_};rw[zK,hn,List.range_succ,zK];rfl;intro c hc;rcases zP.mp hc with h|h;exact hk c h;rw[zI.mp h];exact U7;rw[ag Zs.symm,aa,zK];rfl;have hbx:b≠lx:=gq hb xm;rw[ag hbx,ag<|gq hb Qo];exact hs b x hb;rintro aB S' ⟨cs,y2,o6,rfl,hn,hk,hX,hN,hF,hs⟩;rw[show({df 0 ((m:Nat):Int).toNat,λ_=>True}:oB).xs.length=((m:Nat):Int).toNat from bK,show((m:Nat):Int).toNat=m by lia]at hn;have xl:cs.length=m:=by have:=congrArg List.length hn;simpa using this
 have Q7:∀c∈cs,c.1∈AL:=λc hc=>by have:c.1∈cs.map Prod.fst:=zh.mpr ⟨c,hc,rfl⟩;rw[hn]at this;obtain⟨j,_,e⟩:=zh.mp this;rw[<-e];exact Qm tr j
 have hnd:(cs.map Prod.fst).Nodup:=by rw[hn,zS λj _=>(Qn tr j).symm];exact IB (tr%8) (Nat.mod_lt _<|by decide) m<|by lia
 exact fo {cs,_,rfl,{{by lia,hnd,λc hc=>{(IA _<|Q7 c hc).1,hk c hc}},Q7},hF,hs};rintro aB S' ⟨cs,o6,rfl,hc,hF,hs⟩;exact !{_,_,rfl,.inl hF,S,hs,q cs hc}
inductive rS (ds:List D) (S:aw) (R:KD) (Z:KX):Prop where
 |mk (cs:List<|Str×Str) (l:Addr) (xs:List Int) (h0:ds=[.tup<|cs.map ay,.ref l]) (h1:Gd cs) (h2:S l=some (.lst<|xs.map D.int)) (h3:cs.length<=xs.length) (h4:∀ws,Wg cs ws->R (.tup ws) S)
theorem Fx(T:Txt w K mg t):Ok P w base T.rC 2 rS:=by
 refine T.rC.F.bV y0 ?_;obtain⟨cs,l,xs,e,hg,hl,JK,q⟩;have h8:=hg.1;refine{_,(s1<|sr<|ct fS T.bu aW<|ac (sZ (N:=["_law_k","_law_xs","_law_columns_here"]) (src:=[none,some 1,some 0]) (iT (ae BG) ["_law_columns_here","_law_xs"] rfl rfl<|by trivial) (JI T.d_<|ac (cb aK T.aI aC<|al 0 an) an) (oF<|show(["_law_k","_law_xs","_law_columns_here"]:List Str).Nodup by trivial) (aQ rfl) aR (λ_ _ _ _ _=>oE) λ_ _ _ _ _=>(aY T.me (rQ T) hr<|ac (ix hr.u (ix hr.u (dv 2)<|dv 0) di)<|ac (ix hr.u (dv 1)<|dv 0) an)) an),?_};refine !!!{by rw[zb];lia,by rw[zb];lia,?_};rw[zb];refine fE (λd v=>∃(j:Nat) (c:Str×Str),d=.int (0+(j:Nat))/\cs[j]?=some c/\Vg c.2 v) trivial (by show(df 0 _).length<=_;rw[bK];lia) (λd hd Q hQ=>?_) λout hp p kh=>?_;obtain⟨j,hj⟩:=yt hd;have hj:(df 0 ((cs.length:Nat):Int).toNat)[j]?=some d:=hj;obtain⟨hjn,rfl⟩:=cy hj;have Zt:j<cs.length:=by lia
 have ec:=zg Zt;generalize cs[j]=c at ec;have ex:(xs.map D.int)[j]?=some (.int<|xs[j]'(by lia)):=by rw[zi,zg<|show j<xs.length by lia];rfl
 generalize xs[j]'_=x at ex;have ej:(0:Int)+((j:Nat):Int)=((j:Nat):Int):=Int.zero_add _;refine !!{ay c,by rw[ej];exact bU<|by rw[zi,ec];rfl,_,rfl,_,rfl,_,rfl,_,_,hl,by rw[ej];exact bU ex,c.2,x,rfl,λv hv=>hQ v ⟨j,c,rfl,ec,hv⟩};have hw:Wg cs out:=by have hlen:=yL hp;rw[show({df 0 ((cs.length:Nat):Int).toNat,λ_=>True}:oB).xs=df 0 ((cs.length:Nat):Int).toNat from rfl,bK]at hlen;refine nZ (by lia) λj c v ec ev=>?_;obtain⟨d,hd,j',c',e1,e2,hv⟩:=b_ hp ev;have hd:(df 0 ((cs.length:Nat):Int).toNat)[j]?=some d:=hd;obtain⟨_,e3⟩:=cy hd;rw[e3]at e1;have e1:(0:Int)+((j:Nat):Int)=0+((j':Nat):Int):=D.int.inj e1;obtain rfl:j=j':=(by lia);rw[ec]at e2;cases e2;exact hv
 exact{_,out,rfl,.inl aa,S,.new kh,q out hw}
abbrev Kn:=List<|Str×List D
noncomputable def jD(kn:Kn):List (Key×D):=kn.map λr=>(Sum.inr r.1,D.tup r.2)
noncomputable def iq(kn:Kn)(z:Str):Option (List D):=(kn.find? λr=>decide<|r.1=z).map (·.2)
structure KI(cs:List (Str×Str))(kn:Kn):Prop where
 nd:(kn.map (·.1)).Nodup
 ok:∀r∈kn,r.1∈KS/\Wg cs r.2
theorem bM:iq (r::kn) k=if r.1=k then some r.2 else iq kn k:=by unfold iq;rw[yb];by_cases h:r.1=k;rw[zw h,if_pos h];rfl;rw[zu h,if_neg h]
theorem rT(kn:Kn)(k:Str):bY (jD kn) (.inr k)=(iq kn k).map D.tup:=by induction kn with|nil=>rfl|cons r kn ih=>rw[bM];unfold bY jD at *;rw[zx,yb];by_cases h:r.1=k;have:decide ((Sum.inr r.1:Key)=.inr k)=true:=zw (by rw[h]);dsimp only;rw[this,if_pos h];rfl;have:decide ((Sum.inr r.1:Key)=.inr k)=false:=zu λe=>h<|yO e;dsimp only;rw[this,if_neg h];exact ih
theorem mB(h:iq kn k=some ws):(k,ws)∈kn:=by induction kn with|nil=>(cases h)|cons r kn ih=>rw[bM]at h;by_cases hk:r.1=k;rw[if_pos hk]at h;cases h;rw[<-hk];exact zm;rw[if_neg hk]at h;exact zf _<|ih h
theorem jE(h:k∈kn.map (·.1)):∃ws,iq kn k=some ws:=by induction kn with|nil=>(cases h)|cons r kn ih=>rw[bM];by_cases hk:r.1=k;exact{r.2,if_pos hk};rw[if_neg hk];rw[zx]at h;rcases zj.mp h with e|h;exact absurd e.symm hk;exact ih h
theorem sub_len[DecidableEq α]:∀{l m:List α},l.Nodup->(∀x∈l,x∈m)->l.length<=m.length|[],m,_,_=>zV _|a::l,m,nd,h=>by obtain⟨n1,n2⟩:=yj.mp nd;have h1:=sub_len (m:=m.erase a) n2 λx hx=>(List.mem_erase_of_ne λe=>n1<|by rw[<-e];exact hx).mpr<|h x<|zf _ hx;have h2:=List.length_erase_of_mem<|h a zm;have h3:0<m.length:=List.length_pos_of_mem<|h a zm;rw[zQ];omega
theorem KI.len(h:KI cs kn):kn.length<=60:=by
 have:=sub_len h.nd (m:=KS) λx hx=>by obtain⟨r,hr,rfl⟩:=zh.mp hx;exact(h.ok r hr).1
 rw[zb]at this;exact zH this<|by trivial
noncomputable def pN(kn:Kn)(z:Str)(ws:List D):Kn:=if (iq kn z).isSome then kn.map λr=>if r.1=z then (r.1,ws) else r else kn++[(z,ws)]
noncomputable def wd(kn:Kn)(z:Str):Kn:=kn.filter λr=>decide<|r.1≠z
theorem IC(kn:Kn)(z:Str)(ws:List D):dput (jD kn) (.inr z) (.tup ws)=jD (pN kn z ws):=by
 unfold dput pN;have e:((jD kn).any λkv=>decide<|kv.1=.inr z)=(iq kn z).isSome:=by induction kn with|nil=>rfl|cons r kn ih=>unfold jD at *;rw[zx,yQ,ih,bM];by_cases h:r.1=z;rw[if_pos h,zw<|by rw[h],Bool.true_or];rfl;rw[if_neg h,zu λe=>h<|yO e,yV]
 rw[e];split;unfold jD;rw[zy,zy];refine zS λr _=>?_;dsimp only[Function.comp];by_cases h:r.1=z;rw[if_pos h,if_pos<|by rw[h]];rw[if_neg h,if_neg λe=>h<|yO e];unfold jD;rw[zK];rfl
theorem Qp(kn:Kn)(z:Str):xy (jD kn) (.inr z)=jD (wd kn z):=by unfold xy wd jD;rw[List.filter_map];congr 1;refine List.filter_congr λr _=>?_;dsimp only[Function.comp];rw[yN];exact{λh e=>h<|by rw[e],λh e=>h<|yO e}
theorem LV:iq (pN kn z ws) k=if k=z then some ws else iq kn k:=by
 unfold pN;by_cases hs:(iq kn z).isSome=true;rw[if_pos hs];by_cases hk:k=z;subst hk;rw[if_pos rfl];induction kn with|nil=>(cases hs)|cons r rs ih=>rw[zx,bM];by_cases h:r.1=k;rw[if_pos h,if_pos h];rw[if_neg h,if_neg h];rw[bM,if_neg h]at hs;exact ih hs
 rw[if_neg hk];clear hs;induction kn with|nil=>rfl|cons r rs ih=>rw[zx,bM,bM,ih];by_cases h:r.1=z;rw[if_pos h,if_neg<|show ¬r.1=k from λe=>hk<|e.symm.trans h,if_neg<|show ¬r.1=k from λe=>hk<|e.symm.trans h];rw[if_neg h]
 rw[if_neg hs];have hn:iq kn z=none:=by cases e:iq kn z<;>simp_all
 clear hs;induction kn with|nil=>rw[List.nil_append,bM];by_cases hk:k=z;rw[if_pos hk,if_pos hk.symm];rw[if_neg hk,if_neg λe=>hk e.symm]|cons r rs ih=>rw[bM]at hn;by_cases h:r.1=z;rw[if_pos h]at hn;cases hn;rw[if_neg h]at hn;rw[List.cons_append,bM,bM,ih hn];by_cases h2:r.1=k;rw[if_pos h2,if_pos h2,if_neg<|show ¬k=z from λe=>h<|h2.trans e];rw[if_neg h2,if_neg h2]
theorem LW:iq (wd kn z) k=if k=z then none else iq kn k:=by unfold wd;induction kn with|nil=>(split<;>rfl)|cons r kn ih=>rw[yM,bM];by_cases h:r.1=z;rw[if_neg<|by simp[h],ih];by_cases hk:k=z;rw[if_pos hk,if_pos hk];rw[if_neg hk,if_neg hk,if_neg<|show ¬r.1=k from λe=>hk<|e.symm.trans h];rw[if_pos<|by simp[h],bM,ih];by_cases hk:k=z;rw[if_pos hk,if_pos hk,if_neg<|show ¬r.1=k from λe=>h<|e.trans hk];rw[if_neg hk,if_neg hk]
theorem KI.put(h:KI cs kn)(hz:z∈KS)(hw:Wg cs ws):KI cs (pN kn z ws):=by
 unfold pN;split;refine{?_,λr hr=>?_};have:(kn.map λr=>if r.1=z then (r.1,ws) else r).map (·.1)=kn.map (·.1):=by rw[zy];exact zS λr _=>by dsimp only[Function.comp];split<;>rfl
 rw[this];exact h.nd;obtain⟨r0,wV,e⟩:=zh.mp hr;by_cases q:r0.1=z;rw[if_pos q]at e;subst e;exact{(h.ok r0 wV).1,hw};rw[if_neg q]at e;subst e;exact h.ok r0 wV;rename_i hs;refine{?_,λr hr=>?_};rw[zK];refine lQ h.nd λm=>hs ?_;obtain⟨Ws,e⟩:=jE m;show(iq kn z).isSome=true;rw[show iq kn z=some Ws from e];rfl;rcases zP.mp hr with hr|hr;exact h.ok r hr;rw[zI.mp hr];exact⟨hz,hw⟩
theorem KI.del(h:KI cs kn)(z:Str):KI cs (wd kn z):={(List.Sublist.map _ yw).nodup h.nd,λr hr=>h.ok r (yo.mp hr).1}
def GD(ks:List Str)(cs:List<|Str×Str)(kn:Kn)(d:D):Prop:=(∃z ws,z∈ks/\Wg cs ws/\iq kn z=none/\d=.tup [.str "put",.str z,.tup ws])\/(∃z ws,z∈KS/\Wg cs ws/\(iq kn z).isSome=true/\d=.tup [.str "change",.str z,.tup ws])\/∃z,z∈KS/\(iq kn z).isSome=true/\d=.tup [.str "take",.str z]
def Ly(S:aw)(n:Nat)(d:D):Prop:=∃p,Dp S d p/\p.canLay0=true/\p.depth<=n
theorem Ly.all:∀{ds:List D},(∀d∈ds,Ly S n d)->∃ps:List PyData,DpAll S ds ps/\PyData.canLayAll0 ps=true/\PyData.depthAll ps<=n/\ps.length=ds.length|[],_=>{[],by simp only[DpAll],rfl,zV _,rfl}|d::ds,h=>by obtain⟨p,h1,h2,h3⟩:=h d zm;obtain⟨ps,k1,k2,k3,k4⟩:=Ly.all λx hx=>h x<|zf _ hx;refine{p::ps,by simp only[DpAll];exact⟨p,ps,rfl,h1,k1⟩,by simp only[PyData.canLayAll0,h2,k2,Bool.and_self],by simp only[PyData.depthAll];lia,by rw[zQ,zQ,k4]}
theorem Ly.tup{S:aw}{n:Nat}{ds:List D}(h:∀d∈ds,Ly S n d):Ly S (n+1) (.tup ds):=by obtain⟨ps,k1,k2,k3,_⟩:=Ly.all h;exact{.tuple ps,by simp only[Dp];exact⟨ps,rfl,k1⟩,by simp only[PyData.canLay0];exact k2,by simp only[PyData.depth];lia}
theorem Ly.str(h:PyData.strOk z=true):Ly S 0 (.str z):={.str z,by simp only[Dp],by simp only[PyData.canLay0];exact h,by simp only[PyData.depth];lia}
theorem Ly.le(h:Ly S n d)(l:n<=m):Ly S m d:=by obtain⟨p,a,b,c⟩:=h;exact{p,a,b,zH c l}
theorem Ly.av:Ly S 0 .av:={.none,by simp only[Dp],by simp only[PyData.canLay0],by simp only[PyData.depth];lia}
theorem Ly.plain(h:bc d=true):Ly S 0 d:=by cases d with|av=>exact Ly.av|int i=>exact{.int i,by simp only[Dp],by simp only[PyData.canLay0],by simp only[PyData.depth];lia}|str z=>have h:(decide (z.cps.size<=40)&&PyData.strOk z)=true:=h;rw[zL]at h;exact Ly.str h.2|_=>cases h
theorem Ly.dl(h:Ly S n d):∃p,Dl S d p/\p.canLay0=true/\p.depth<=n:=by obtain⟨p,a,b,c⟩:=h;refine{p,?_,b,c};cases d with|ref x=>simp only[Dp]at a|_=>exact a
theorem Ly.lst{S:aw}{n:Nat}{a:Addr}{ds:List D}(e:S a=some (.lst ds))(h:∀d∈ds,Ly S n d):∃p,Dl S (.ref a) p/\p.canLay0=true/\p.depth<=n+1/\∀b,S b=some (.lst ds)->Dl S (.ref b) p:=by obtain⟨ps,k1,k2,k3,_⟩:=Ly.all h;exact{.list ps,⟨ds,ps,e,rfl,k1⟩,by simp only[PyData.canLay0];exact k2,by simp only[PyData.depth];lia,λb hb=>⟨ds,ps,hb,rfl,k1⟩}
theorem ID{S:aw}{a b:Addr}{ds:List D}{R:KD}{neg:Bool}(e1:S a=some (.lst ds))(e2:S b=some (.lst ds))(h:∀d∈ds,Ly S 60 d)(q:R (.bl<|!neg) S):Gb neg (.ref a) (.ref b) S R:=by
 obtain⟨p,k1,k2,k3,k4⟩:=Ly.lst e1 h;have e:(if neg then !PyData.eqv p p else PyData.eqv p p)=!neg:=by rw[SeqAt.eqv_refl p k2];cases neg<;>rfl
 exact{p,p,k1,k4 b e2,k2,k2,.inl<|by lia,by rw[e];exact q}
theorem IE(ps:List PyData):PyData.eqv (.list ps) (.list [])=ps.isEmpty:=by cases ps<;>simp[PyData.eqv,PyData.eqvAll]
theorem IF(ps:List PyData):PyData.eqv (.tuple ps) (.tuple [])=ps.isEmpty:=by cases ps<;>simp[PyData.eqv,PyData.eqvAll]
theorem LX{S:aw}{ds:List D}{R:KD}(h:∀d∈ds,Ly S 60 d)(q:R (.bl ds.isEmpty) S):Gb false (.tup ds) (.tup []) S R:=by obtain⟨ps,k1,k2,k3,k4⟩:=Ly.all h;refine{.tuple ps,.tuple [],by simp only[Dl,Dp];exact⟨ps,rfl,k1⟩,by simp only[Dl,Dp];exact{[],rfl,by simp only[DpAll]},by simp only[PyData.canLay0];exact k2,by simp only[PyData.canLay0,PyData.canLayAll0],.inl<|by simp only[PyData.depth];lia,?_};rw[if_neg zd,IF,show ps.isEmpty=ds.isEmpty by cases ps<;>cases ds<;>first|rfl|cases k4];exact q
theorem Wg.all(h:Wg cs ws):∀d∈ws,bc d=true:=by unfold Wg at h;induction h with|nil=>exact λ_ h=>(nomatch h)|cons r t ih=>intro d hd;rcases zj.mp hd with e|hd;rw[e];exact r.2;exact ih d hd
theorem Wg.ly{cs:List<|Str×Str}{ws:List D}(h:Wg cs ws){S:aw} : Ly S 1 (.tup ws):=Ly.tup λd hd=>Ly.plain<|h.all d hd
def Mo(sp:ja):ja:=λds S R Z=>∃R0 Z0,sp ds S R0 Z0/\(∀d S',R0 d S'->R d S')/\∀C S',Z0 C S'->Z C S'
theorem Qq(F:bF P w K mg base (fc P w mg) k f fd ps<|mV K sp):bF P w K mg base (fc P w mg) k f fd ps (mV K<|Mo sp):=F.imp <| by rintro vs H Q E ⟨ds,S,R,Z,v,hS,⟨R0,Z0,h,h1,h2⟩,hR,hZ⟩;exact{ds,S,R0,Z0,v,hS,h,λd S' u H' r=>hR d S' u H'<|h1 _ _ r,λC S' H' z=>hZ C S' H'<|h2 _ _ z}
abbrev Ny:=jC
abbrev y7:=fF
abbrev IG:=ip
def Zu(kn:Kn)(d:D)(qk:Kn):Prop:=(∃(n:Str) (z:Str) (ws:List D),(n ="put"\/n ="change")/\d=.tup [.str n,.str z,.tup ws]/\qk=pN kn z ws)\/∃z,(iq kn z).isSome=true/\d=.tup [.str "take",.str z]/\qk=wd kn z
inductive B9 (t:gY) (ds:List D) (S:aw) (R:KD) (Z:KX):Prop where
 |mk (a fs) (h0:S a=some (.ins t.ao fs)) (h1:fs.map Prod.fst=(["columns","deeds","runs"]:List Str)) (h2:((∃k v,ds=[.ref a,.tup [.str "put",k,v]]/\Ny t [.ref a,k,v] S R Z)\/(∃k v,ds=[.ref a,.tup [.str "change",k,v]]/\y7 t [.ref a,k,v] S R Z)\/∃k,ds=[.ref a,.tup [.str "take",k]]/\IG t [.ref a,k] S R Z))
theorem lk0:∀{fs:List (Str×D)},m∉fs.map Prod.fst->fs.lookup m=none|[],_=>rfl| (a,b)::fs,h=>by rw[zx,zj]at h;rw[yf,show(m==a)=false from beq_false_of_ne λe=>h<|.inl e];exact lk0 λq=>h<|.inr q
theorem Zv{fs:List<|Str×D}(h:fs.map Prod.fst=(["columns","deeds","runs"]:List Str)){m:Str}(hm:m∉(["columns","deeds","runs"]:List Str)):fs.lookup m=none:=lk0<|by rw[h];exact hm
def Nz(t:gY):ja:=λds S R Z=>B9 t ds S (λ_=>R .av) Z
theorem LY(T:Txt w K mg t):Ok P w base T.vQ 7 (Nz t):=by have jF:AJ P w mg base T.eX 6 (Mo<|Ny t):=Qq<|Qf T;have fI:AJ P w mg base T.cT 6 (Mo<|y7 t):=Qq<|Fu T;have ir:AJ P w mg base T.dU 6 (Mo<|IG t):=Qq<|LP T;refine T.vQ.F.ok Fi (λds S R Z ⟨_,_,_,_,h⟩=>by rcases h with⟨_,_,e,_⟩|⟨_,_,e,_⟩|⟨_,e,_⟩<;>rw[e]<;>rfl) λfN A outer s H E ds S R Z hr ⟨a,fs,ha,hf,h⟩=>?_;rcases h with⟨k,v,e,h⟩|⟨k,v,e,h⟩|⟨k,e,h⟩;subst e;refine{_,(s1<|si (bf aU hr.u (ix hr.u (dv 1) di) ds) (s1<|se<|wU (dv 0) T.ak T.eX jF hr<|ac (ix hr.u (dv 1) di)<|ac (ix hr.u (dv 1) di) an)<|s1<|si (bf aU hr.u (ix hr.u (dv 1) di) ds) (s1<|se<|wU (dv 0) T.ak T.cT fI hr<|ac (ix hr.u (dv 1) di)<|ac (ix hr.u (dv 1) di) an)<|s1<|se<|wU (dv 0) T.ak T.dU ir hr<|ac (ix hr.u (dv 1) di) an),?_};refine !!!⟨?_⟩;refine bT (λ_=>?_) λh=>absurd h (by decide);exact !{a,_,rfl,ha,Zv hf<|by decide,_,rfl,_,rfl,_,rfl,_,rfl,_,Z,h,λd S' r=>fo r,λC S' z=>fo z};subst e;refine{_,(s1<|si (bf aU hr.u (ix hr.u (dv 1) di) ds) (s1<|se<|wU (dv 0) T.ak T.eX jF hr<|ac (ix hr.u (dv 1) di)<|ac (ix hr.u (dv 1) di) an)<|s1<|si (bf aU hr.u (ix hr.u (dv 1) di) ds) (s1<|se<|wU (dv 0) T.ak T.cT fI hr<|ac (ix hr.u (dv 1) di)<|ac (ix hr.u (dv 1) di) an)<|s1<|se<|wU (dv 0) T.ak T.dU ir hr<|ac (ix hr.u (dv 1) di) an),?_};refine !!!⟨?_⟩;refine bT (λh=>absurd h<|by decide) λ_=>?_;refine !!!⟨?_⟩;refine bT (λ_=>?_) λh=>absurd h (by decide);exact !{a,_,rfl,ha,Zv hf<|by decide,_,rfl,_,rfl,_,rfl,_,rfl,_,Z,h,λd S' r=>fo r,λC S' z=>fo z};subst e;refine{_,(s1<|si (bf aU hr.u (ix hr.u (dv 1) di) ds) (s1<|se<|wU (dv 0) T.ak T.eX jF hr<|ac (ix hr.u (dv 1) di)<|ac (ix hr.u (dv 1) di) an)<|s1<|si (bf aU hr.u (ix hr.u (dv 1) di) ds) (s1<|se<|wU (dv 0) T.ak T.cT fI hr<|ac (ix hr.u (dv 1) di)<|ac (ix hr.u (dv 1) di) an)<|s1<|se<|wU (dv 0) T.ak T.dU ir hr<|ac (ix hr.u (dv 1) di) an),?_};refine !!!⟨?_⟩;refine bT (λh=>absurd h<|by decide) λ_=>?_;refine !!!⟨?_⟩;refine bT (λh=>absurd h<|by decide) λ_=>?_;exact !{a,_,rfl,ha,Zv hf<|by decide,_,rfl,_,rfl,_,Z,h,λd S' r=>fo r,λC S' z=>fo z}
noncomputable def p3(p:Str×Str×Str):D:=.tup [.str p.1,.str p.2.1,.str p.2.2]
noncomputable def mC(z:Str):Bool:=decide (z ="up")||decide (z ="down")
noncomputable def Fy(z:Str):Bool:=decide (z ="first")||decide (z ="last")
theorem IH(z a b:Str)(x y:V):(([(a,x),(b,y)]:List (Str×V)).lookup z).isSome=(decide (z=a)||decide (z=b)):=by rw[yf,yf];by_cases h:z=a;rw[show(z==a)=true by simp[h],zw h];rfl;rw[show(z==a)=false by simp[h],zu h];by_cases h2:z=b;rw[show(z==b)=true by simp[h2],zw h2];rfl;rw[show(z==b)=false by simp[h2],zu h2];rfl
noncomputable def f_(cs:List<|Str×Str)(p:Str×Str×Str):Bool:=decide (p.1∈cs.map Prod.fst)&&(mC p.2.1&&Fy p.2.2)
noncomputable def B_(cs:List<|Str×Str)(ps:List<|Str×Str×Str)(wy:Str):Bool:=decide (ps.length<=8)&&(ps.all (f_ cs)&&(decide ((ps.map Prod.fst).Nodup)&&mC wy))
theorem mD(l:List<|Str×D)(z:Str)(h:bY (fj l) (.inr z)=some d):∃p∈l,p.1=z/\d=p.2:=by
 have all:∀(l:List (Str×D))(c:List (Key×D)),bY (l.foldl (λc p=>dput c (.inr p.1) p.2) c) (.inr z)=some d->(∃p∈l,p.1=z/\d=p.2)\/bY c (.inr z)=some d:=by intro l;induction l with|nil=>intro c h;exact .inr h|cons p l ih=>intro c h;rcases ih _ h with⟨q,hq,e⟩|h;exact .inl {q,zf _ hq,e};rw[xH]at h;by_cases e:(.inr z:Key)=.inr p.1;rw[if_pos e]at h;exact .inl {p,zm,(yO e).symm,(zT h).symm};rw[if_neg e]at h;exact .inr h
 rcases all l [] h with h|h;exact h;cases h
def Zw(p:Str×Str×Str):Prop:=p.1.cps.size<=1000/\p.2.1.cps.size<=1000/\p.2.2.cps.size<=1000
inductive y8 (ds:List D) (S:aw) (R:KD) (Z:KX):Prop where
 |mk (z) (h0:ds=[.str z]) (h1:R (.bl<|mC z) S)
theorem uN(T:Txt w K mg t):Ok P w base T.vK 1 y8:=by refine T.vK.F.bV Ff ?_;obtain⟨z,e,q⟩;refine{_,(s1<|sr<|pB (cb cF T.au aq<|al 0<|ac (p7 T.oH i6) an)<|Ga<|YG T.xX (dv 0)<|dg (v:=.ref t.je) T.vE rfl λ_=>fg _),?_};refine !{_,_,_,_,rfl,cQ,rfl,_,rfl,eC !{z,rfl,rfl,?_}};rw[IH];exact fo q
inductive y9 (ds:List D) (S:aw) (R:KD) (Z:KX):Prop where
 |mk (z) (h0:ds=[.str z]) (h1:R (.bl<|Fy z) S)
theorem Fz(T:Txt w K mg t):Ok P w base T.BK 1 y9:=by refine T.BK.F.bV Fh ?_;obtain⟨z,e,q⟩;refine{_,(s1<|sr<|pB (cb cF T.au aq<|al 0<|ac (p7 T.oH i6) an)<|Ga<|YG T.xY (dv 0)<|dg (v:=.ref t.jf) T.vF rfl λ_=>fg _),?_};refine !{_,_,_,_,rfl,cQ,rfl,_,rfl,eC !{z,rfl,rfl,?_}};rw[IH];exact fo q
inductive mE (ds:List D) (S:aw) (R:KD) (Z:KX):Prop where
 |mk (cs z) (h0:ds=[.tup<|cs.map ay,.str z]) (h1:Gd cs) (h2:z.cps.size<=1000) (h3:(∀k,(z,k)∈cs->R (.str k) S)) (h4:(z∉cs.map Prod.fst->R .av S))
theorem gx(T:Txt w K mg t):Ok P w base T.dQ 3 mE:=by
 refine T.dQ.F.bV tE ?_;obtain⟨cs,z,e,hg,hz,q1,q2⟩;refine{_,(sc (si (cg<|tv<|aY T.qg (rK T) hr<|al 1 an) (s1<|sr dn) s0)<|s1<|sr<|mg1 hr.u (ct Hw T.Ih CW<|al 0 an)<|dv 1),?_};refine !{.str z,rfl,gt_str hz,_,rfl,?_};refine bT (λh=>?_) λh=>?_;have h:kB z=false:=nt h;refine fo<|q2 λm=>?_;obtain⟨c,hc,rfl⟩:=zh.mp m;rw[(hg.2.2 c hc).1]at h;cases h;have ek:cs.map ay=(cs.map λc=>(c.1,D.str c.2)).map Dd:=by rw[zy];rfl
 refine !{(cs.map λc=>(c.1,D.str c.2)),by rw[ek],λp hp=>{p,_,rfl,aa,_,rfl,_,.inr z,aa,rfl,S,.new hp,?_}};have h1:=uy (cs.map λc=>(c.1,D.str c.2)) z;cases q3:bY (fj<|cs.map λc=>(c.1,D.str c.2)) (.inr z) with|none=>(rw[q3]at h1;refine q2 λm=>?_;obtain⟨c,hc,e⟩:=zh.mp m;have:(cs.map λc=>(c.1,D.str c.2)).any (λp=>decide<|p.1=z)=true:=List.any_eq_true.mpr {_,zh.mpr ⟨c,hc,rfl⟩,zw e};rw[this]at h1;cases h1)|some d=>obtain⟨p,hp,e1,rfl⟩:=mD _ _ q3;obtain⟨c,hc,rfl⟩:=zh.mp hp;have e1:c.1=z:=e1;exact q1 c.2<|by rw[<-e1];exact hc
inductive uO (ds:List D) (S:aw) (R:KD) (Z:KX):Prop where
 |mk (cs p) (h0:ds=[.tup<|cs.map ay,p3 p]) (h1:Gd cs) (h2:Zw p) (h3:R (.bl<|f_ cs p) S)
theorem Ca(T:Txt w K mg t):Ok P w base T.vM 4 uO:=by
 have we:Ok P w base T.dQ 3 (λds S R _=>∃cs z,ds=[.tup<|cs.map ay,.str z]/\Gd cs/\z.cps.size<=1000/\∀d,ah d=!decide (z∈cs.map Prod.fst)->R d S):=(gx T).Lh <| by rintro ds S R Z ⟨cs,z,e,hg,hz,q⟩;exact{cs,z,e,hg,hz,λk hk=>q _<|by rw[zw<|zh.mpr {_,hk,rfl}];rfl,λhn=>q _<|by rw[zu hn];rfl}
 refine T.vM.F.bV BR ?_;obtain⟨cs,p,e,hg,hp,q⟩;refine{_,(sc (si (twd<|twor (cg<|tv<|cb cF T.au aq<|al 1<|ac (p7 T.bu aW) an)<|tw1<|bf kQ hr.u (cb aK T.aI aC<|al 1 an) di) (s1<|sr db) s0)<|s1<|sr<|pB (cm kP hr.u (aY T.dQ we hr<|al 0<|ac (ix hr.u (dv 1) di) an) dn)<|pB (aY T.vK (uN T) hr<|ac (ix hr.u (dv 1) di) an)<|Ga<|aY T.BK (Fz T) hr<|ac (ix hr.u (dv 1) di) an),?_};refine !{_,_,_,_,rfl,aV,rfl,_,rfl,aZ !!!⟨aZ ?_⟩};refine !!!{cs,p.1,rfl,hg,hp.1,λd hd=>!⟨?_⟩};unfold f_ at q;refine bT (λh=>?_) λh=>?_;have h:(!ah d)=true:=h;rw[hd,Bool.not_not]at h;rw[h,ye]at q;refine !!{p.2.1,rfl,_,rfl,?_};refine bT (λh2=>?_) λh2=>?_;rw[h2,ye]at q;exact !!{p.2.2,rfl,fo q};rw[h2,zW]at q;exact fo q;have h:(!ah d)=false:=h;rw[hd,Bool.not_not]at h;rw[h,zW]at q;exact fo q
inductive kD (t:gY) (ds:List D) (S:aw) (R:KD) (Z:KX):Prop where
 |mk (cs ps wy) (h0:ds=[.tup<|cs.map ay,.tup [.tup<|ps.map p3,.str wy]]) (h1:Gd cs) (h2:(∀p∈ps,Zw p)) (h3:(B_ cs ps wy=true->R .av S)) (h4:(B_ cs ps wy=false->Z t.kW S))
theorem rV(T:Txt w K mg t):Ok P w base T.jn 5 (kD t):=by
 refine T.jn.F.bV fA ?_;obtain⟨cs,ps,wy,e,hg,hp,q1,q2⟩;have RA:(ps.map p3).length=ps.length:=zb _;refine{_,(sc (si (twd<|twor (cg<|tv<|cb cF T.au aq<|al 1<|ac (p7 T.bu aW) an)<|tw1<|bf kQ hr.u (cb aK T.aI aC<|al 1 an) di) (s1<|qR ⟨T.dq⟩ T.eE<|ac ds an) s0)<|sc (cG (i:=2) fA.nd<|ix hr.u (dv 1) di)<|sc (si (twd<|twor (cg<|tv<|cb cF T.au aq<|al 2<|ac (p7 T.bu aW) an)<|tw1<|bf pE hr.u (cb aK T.aI aC<|al 2 an)<|dg (v:=.int 8) T.ji {_,rfl} λ_=>aN _) (s1<|qR ⟨T.dq⟩ T.eE<|ac ds an) s0)<|sc (si (cg<|tv<|cb i_ T.jk fb<|ac (sZ (N:=["part","columns"]) (src:=[none,some 0]) (iT (ae kx) ["columns","order","parts","names"] rfl rfl<|by trivial) (Gg<|dv 2) (oF<|show(["part","columns"]:List Str).Nodup by trivial) (aQ rfl) aR (λ_ _ _ _ _=>oE) λ_ _ _ _ _=>(aY T.vM (Ca T) hr<|al 1<|al 0 an)) an) (s1<|qR ⟨T.dq⟩ T.eE<|ac ds an) s0)<|sc (Hr (i:=3) (N:=["part"]) (src:=[none]) fA.nd (iT (ae kx) ["columns","order","parts","names"] rfl rfl<|by trivial) (Gg<|dv 2) (oF<|show(["part"]:List Str).Nodup by trivial) (aQ rfl) aR (λ_ _ _ _ _=>oE) λ_ _ _ _ _=>(ix hr.u (dv 0) di))<|sc (si (bf kQ hr.u (lse (dv 3) T.aI T.Nr)<|cb aK T.aI aC<|al 3 an) (s1<|qR ⟨T.dq⟩ T.eE<|ac ds an) s0)<|s1<|si (cg<|tv<|aY T.vK (uN T) hr<|ac (ix hr.u (dv 1) di) an) (s1<|qR ⟨T.dq⟩ T.eE<|ac ds an) s0),?_};refine !{_,_,_,_,rfl,aV,rfl,_,rfl,aZ !!!⟨aZ ?_⟩};refine !!!{_,_,_,_,rfl,aV,rfl,_,rfl,aZ !!!⟨?_⟩};refine bT (λh=>?_) λh=>?_;have h:(8:Int)<(((ps.map p3).length:Nat):Int):=zB h;rw[RA]at h;exact{pL,fo<|q2<|by unfold B_;rw[zu<|by omega];rfl};have h:¬(8:Int)<(((ps.map p3).length:Nat):Int):=yd h;rw[RA]at h;have h8:ps.length<=8:=by omega
 unfold B_ at q1 q2;rw[zw h8,ye]at q1 q2;refine !{_,.inl rfl,?_};refine fE (λd v=>∃p,d=p3 p/\v=.bl (f_ cs p)) trivial (by show(ps.map p3).length<=_;omega) (λd hd Q hQ=>?_) λout ho p kh=>?_;obtain⟨p,NA,rfl⟩:=zh.mp hd;exact !!{cs,p,rfl,hg,hp p NA,hQ _ ⟨p,rfl,rfl⟩};have eo:out=(ps.map<|f_ cs).map D.bl:=by have:∀{ps:List (Str×Str×Str)}{out:List D},Paired (λd v=>∃p,d=p3 p/\v=.bl (f_ cs p)) (ps.map p3) out->out=(ps.map<|f_ cs).map D.bl:=(by intro ps;induction ps with|nil=>(intro out h;cases h;rfl)|cons x ps ih=>intro out h;cases h with|cons r t=>obtain⟨p,e1,e2⟩:=r;have:x=p:=(by obtain⟨a,b,c⟩:=x;obtain⟨a',b',c'⟩:=p;unfold p3 at e1;injection e1 with e1;injection e1 with h1 e1;injection e1 with h2 e1;injection e1 with h3 _;injection h1 with h1;injection h2 with h2;injection h3 with h3;rw[show a=a' from h1,show b=b' from h2,show c=c' from h3]);rw[e2,ih t,<-this];rfl);exact this ho
 subst eo;refine{.ref p,ps.map<|f_ cs,rfl,aa,_,rfl,?_};rw[show(ps.map<|f_ cs).all id=ps.all (f_ cs) from all_map];refine bT (λha=>?_) λha=>?_;have ha:=nt ha;exact{pL,S,.new kh,q2<|by rw[ha];rfl};have ha:=nf ha;rw[ha,ye]at q1 q2;refine !{_,.inl rfl,?_};refine comp_map (λd=>match d with|.tup (x::_)=>x|_=>.av) trivial (by show(ps.map p3).length<=_;omega) (λd hd Q hQ=>?_) λp2 eV=>?_;obtain⟨p,NA,rfl⟩:=zh.mp hd;exact !!⟨hQ⟩;have e3:(ps.map p3).map (λd=>match d with|.tup (x::_)=>x|_=>.av)=(ps.map Prod.fst).map D.str:=by rw[zy,zy];rfl
 rw[show({ps.map p3,λ_=>True}:oB).xs=ps.map p3 from rfl,e3];have sb:Sub S ((S.set p<|.lst<|(ps.map<|f_ cs).map D.bl).set p2<|.lst<|(ps.map Prod.fst).map D.str):=(Sub.new kh).trans<|.new eV;have U4:((S.set p<|.lst<|(ps.map<|f_ cs).map D.bl).set p2<|.lst<|(ps.map Prod.fst).map D.str) p2=some (.lst<|(ps.map Prod.fst).map D.str):=aa;generalize (S.set p<|.lst<|(ps.map<|f_ cs).map D.bl).set p2 (.lst<|(ps.map Prod.fst).map D.str)=S2 at sb U4⊢;refine !{ps.map Prod.fst,U4,by rw[zb];omega,_,rfl,_,rfl,.inl {_,U4,_,rfl,?_}};have e4:decide ((((iB<|ps.map Prod.fst).length:Nat):Int)=((((ps.map Prod.fst).map D.str).length:Nat):Int))=decide ((ps.map Prod.fst).Nodup):=by rw[yN,<-uq,zb];omega
 refine bT (λhn=>?_) λhn=>?_;have hn:(!decide ((((iB<|ps.map Prod.fst).length:Nat):Int)=((((ps.map Prod.fst).map D.str).length:Nat):Int)))=true:=hn;rw[e4]at hn;exact{pL,S,sb,q2<|by rw[nt hn];rfl};have hn:(!decide ((((iB<|ps.map Prod.fst).length:Nat):Int)=((((ps.map Prod.fst).map D.str).length:Nat):Int)))=false:=hn;rw[e4]at hn;rw[nf hn,ye]at q1 q2;refine !!{wy,rfl,_,rfl,?_};refine bT (λhw=>?_) λhw=>?_;exact{pL,S,sb,q2<|nt hw};exact{S,sb,q1<|nf hw}
def wg(o:Str)(c:Str×Str)(v:D):Prop:=o ="is"\/(v≠.av/\(o ="below"\/o ="above"\/(o ="begins"/\c.2 ="word")))
def Lf(cs:List<|Str×Str)(d:D):Prop:=d=.tup [.str "every"]\/(∃ks:List Str,d=.tup [.str "key",.tup<|ks.map .str]/\ks.length<=8/\∀k∈ks,k∈KS)\/∃(o:Str) (c:Str×Str) (v:D),c∈cs/\Vg c.2 v/\wg o c v/\d=.tup [.str o,.str c.1,v]
def Sg(cs:List<|Str×Str):Nat->D->Prop|0,_=>False|n+1,d=>Lf cs d\/(∃e,d=.tup [.str "not",e]/\Sg cs n e)\/∃(o:Str) (ds:List D),(o ="and"\/o ="or")/\d=.tup [.str o,.tup ds]/\ds.length<=8/\∀e∈ds,Sg cs n e
theorem DD(h:Vg k v):Gt S v:=by have h:=h.2;cases v with|av=>(exact{{_,rfl},λz e=>by cases e})|int i=>(exact{{_,rfl},λz e=>by cases e})|str z=>unfold bc at h;simp only[zL,zR]at h;exact gt_str (by lia)|_=>cases h
noncomputable def mF:D->List D|.tup [.str o,.tup ds]=>(if o ="not" then[.tup ds] else if o ="and"\/o ="or" then ds else[])|.tup [.str o,e]=>(if o ="not" then[e] else[])|_=>[]
noncomputable def oV:Nat->D->Nat|0,_=>0|n+1,d=>((mF d).map<|oV n).sum+1
theorem wj(e:D):mF (.tup [.str "not",e])=[e]:=by cases e<;>rfl
theorem wk{o:Str}(h:o ="and"\/o ="or")(ds:List D):mF (.tup [.str o,.tup ds])=ds:=by rcases h with rfl|rfl<;>rfl
def Sq(cs:List<|Str×Str)(d:D):Prop:=Sg cs 7 d/\oV 7 d<=200
inductive gU (ds:List D) (S:aw) (R:KD) (Z:KX):Prop where
 |mk (es) (h0:ds=[.tup es]) (h1:es.length<=8) (h2:R (.bl true) S)
theorem oW(T:Txt w K mg t):Ok P w base T.dG 1 gU:=by refine T.dG.F.bV mh ?_;obtain⟨es,e,hl,q⟩;refine{_,(s1<|sr<|pB (cb cF T.au aq<|al 0<|ac (p7 T.bu aW) an)<|Ga<|cm i8 hr.u (cb aK T.aI aC<|al 0 an)<|dg (v:=.int 8) T.kZ {_,rfl} λ_=>aN _),?_};refine !{_,_,_,_,rfl,aV,rfl,_,rfl,eC !!⟨?_⟩};have e1:decide (((es.length:Nat):Int)<=8)=true:=zw (by lia);show Fo S (R<|.bl<|decide<|((es.length:Nat):Int)<=8);rw[e1];exact fo q
inductive gy (ds:List D) (S:aw) (R:KD) (Z:KX):Prop where
 |mk (cs o c v) (h0:ds=[.tup<|cs.map ay,.tup [.str o,.str c.1,v]]) (h1:Gd cs) (h2:c∈cs) (h3:Vg c.2 v) (h4:wg o c v) (h5:R (.bl true) S)
theorem rW(T:Txt w K mg t):Ok P w base T.jr 4 gy:=by
 refine T.jr.F.bV jt ?_;obtain⟨cs,o,c,v,e,hg,hc,hv,ho,q⟩;have hn:∀k,(c.1,k)∈cs->k=c.2:=λk hk=>by have:=f9 hg.2.1 hk hc rfl;rw[<-this]
 refine{_,(sc (cG (i:=2) jt.nd<|aY T.dQ (gx T) hr<|al 0<|ac (ix hr.u (dv 1) di) an)<|sc (si (twd<|twor (bf fh hr.u (dv 2) dn)<|tw1<|cg<|tv<|aY T.jm (jy T) hr<|al 2<|ac (ix hr.u (dv 1) di) an) (s1<|sr db) s0)<|sc (si (bf aU hr.u (ix hr.u (dv 1) di) ds) (s1<|sr db) s0)<|sc (si (twd<|twand (bf aU hr.u (ix hr.u (dv 1) di) ds)<|tw1<|bf kQ hr.u (dv 2) ds) (s1<|sr db) s0)<|s1<|sr<|cm kP hr.u (ix hr.u (dv 1) di) dn),?_};refine !!!{cs,c.1,rfl,hg,nV (hg.2.2 c hc).1,λk hk=>?_,λhk=>absurd (zh.mpr ⟨c,hc,rfl⟩) hk};cases hn k hk;refine !!⟨aZ !!!{c.2,v,rfl,DD hv,_,rfl,?_}⟩;rw[hv.1];refine aZ !!!⟨?_⟩;rcases ho with rfl|⟨hvn,ho⟩;exact gZ (by trivial)<|fo q;have Nf:ah v=false:=by cases v<;>first|rfl|exact absurd rfl hvn
 have e9:(!ah v)=true:=by rw[Nf];rfl
 have fin:Fo S (R<|.bl<|!ah v):=by rw[e9];exact fo q
 rcases ho with rfl|rfl|⟨rfl,hw⟩;refine br (by trivial) !!!⟨br (by trivial) !!⟨fin⟩⟩;refine br (by trivial) !!!⟨br (by trivial) !!⟨fin⟩⟩;refine br (by trivial) !!!⟨gZ (by trivial) !!⟨?_⟩⟩;rw[hw];exact br (by trivial) !!⟨fin⟩
theorem LZ(h:z∈KS):z.cps.size<=1000:=zH (fH z h).2.1<|by decide
inductive oX (ds:List D) (S:aw) (R:KD) (Z:KX):Prop where
 |mk (cs n d) (h0:ds=[.tup<|cs.map ay,d]) (h1:Gd cs) (h2:Sg cs n d) (h3:R (.bl true) S)
theorem wm(T:Txt w K mg t):Ok P w base T.nN 5 oX:=by
 refine T.nN.F.bV vY ?_;obtain⟨cs,n,d,e,hg,hs,q⟩;refine{_,(sc (si (twd<|twor (cg<|tv<|cb cF T.au aq<|al 1<|ac (p7 T.bu aW) an)<|twor (bf aU hr.u (cb aK T.aI aC<|al 1 an) di)<|tw1<|cg<|tv<|cb cF T.au aq<|ac (ix hr.u (dv 1) di)<|ac (p7 T.oH i6) an) (s1<|sr db) s0)<|sc (si (bf kQ hr.u (mgk T.Fc (by decide) (gK T.BI)<|ix hr.u (dv 1) di)<|cb aK T.aI aC<|al 1 an) (s1<|sr db) s0)<|sc (si (bf vh hr.u (ix hr.u (dv 1) di)<|cj<|ac ds<|ac ds<|ac ds<|ac ds an) (s1<|sr<|aY T.jr (rW T) hr<|al 0<|al 1 an) s0)<|sc (si (bf aU hr.u (ix hr.u (dv 1) di) ds) (s1<|sr<|pB (aY T.dG (oW T) hr<|ac (ix hr.u (dv 1) di) an)<|Ga<|cb i_ T.jk fb<|ac (sZ (N:=["key"]) (src:=[none]) (iT (ae xR) ["columns","thing"] rfl rfl<|by trivial) (Gg<|ix hr.u (dv 1) di) (oF<|show(["key"]:List Str).Nodup by trivial) (aQ rfl) aR (λ_ _ _ _ _=>oE) λ_ _ _ _ _=>(aY T.k8 (gM T) hr<|al 0 an)) an) s0)<|sc (si (bf vh hr.u (ix hr.u (dv 1) di)<|cj<|ac ds<|ac ds an) (s1<|sr<|aY T.dG (oW T) hr<|ac (ix hr.u (dv 1) di) an) s0)<|s1<|sr db),?_};cases n with|zero=>exact hs.elim|succ n =>
 rcases hs with (rfl|⟨ks,rfl,Zx,AI⟩|⟨o,c,v,hc,hv,ho,rfl⟩)|⟨e,rfl,he⟩|⟨o,es,ho,rfl,JL,_⟩;refine !{_,_,_,_,rfl,aV,rfl,_,rfl,aZ !!!⟨br rfl !!{_,_,_,_,rfl,cQ,rfl,_,rfl,aZ ?_}⟩};refine !!!!!!⟨br rfl ?_⟩;exact !!{tN,rfl,rfl,_,rfl,br (by trivial) !!!⟨br (by trivial) !!{cu,rfl,rfl,_,rfl,br (by trivial)<|fo q}⟩};refine !{_,_,_,_,rfl,aV,rfl,_,rfl,aZ !!!⟨br rfl !!{_,_,_,_,rfl,cQ,rfl,_,rfl,aZ ?_}⟩};refine !!!!!!⟨br rfl ?_⟩;refine !!{tN,rfl,rfl,_,rfl,br (by trivial) !!!⟨gZ (by trivial) ?_⟩};refine !!!{by rw[zb];exact Zx,_,rfl,eC !!{_,.inl rfl,?_}};refine comp_map (λ_=>.bl true) trivial (by show(ks.map D.str).length<=1000;rw[zb];lia) (λd hd Q hQ=>?_) λp hp=>?_;obtain⟨k,hk,rfl⟩:=zh.mp hd;refine !{.str k,rfl,gt_str<|LZ<|AI k hk,?_};show Q (.bl<|kf k) S;rw[(fH k<|AI k hk).1];exact hQ;have e2:(ks.map D.str).map (λ_=>D.bl true)=(ks.map λ_=>true).map D.bl:=by rw[zy,zy];rfl
 have e3:(ks.map λ_=>true).all id=true:=by rw[all_map];exact ya.mpr λ_ _=>rfl
 refine{.ref p,ks.map λ_=>true,rfl,?_,S,.new hp,?_};show(S.set p<|.lst<|(ks.map D.str).map _) p=_;rw[aa,e2];rw[e3];exact q;have h4:o ="is"\/o ="below"\/o ="above"\/o ="begins":=by rcases ho with h|⟨_,h|h|⟨h,_⟩⟩;exact .inl h;exact .inr<|.inl h;exact .inr<|.inr<|.inl h;exact .inr<|.inr<|.inr h
 refine !{_,_,_,_,rfl,aV,rfl,_,rfl,aZ !!!⟨br rfl !!{_,_,_,_,rfl,cQ,rfl,_,rfl,aZ ?_}⟩};have fin:∀Zq:KX,gy [D.tup<|cs.map ay,.tup [.str o,.str c.1,v]] S (λd S'=>Fo S'<|R d) Zq:=λ_=>{cs,o,c,v,rfl,hg,hc,hv,ho,fo q};rcases h4 with rfl|rfl|rfl|rfl;exact !!!!!!⟨br rfl !!{tN,rfl,rfl,_,rfl,gZ (by trivial) !!⟨(fin _)⟩}⟩;exact !!!!!!⟨br rfl !!{tN,rfl,rfl,_,rfl,gZ (by trivial) !!⟨(fin _)⟩}⟩;exact !!!!!!⟨br rfl !!{tN,rfl,rfl,_,rfl,gZ (by trivial) !!⟨(fin _)⟩}⟩;exact !!!!!!⟨br rfl !!{tN,rfl,rfl,_,rfl,gZ (by trivial) !!⟨(fin _)⟩}⟩;refine !{_,_,_,_,rfl,aV,rfl,_,rfl,aZ !!!⟨br rfl !!{_,_,_,_,rfl,cQ,rfl,_,rfl,aZ ?_}⟩};refine !!!!!!⟨br rfl ?_⟩;exact !!{tN,rfl,rfl,_,rfl,br (by trivial) !!!⟨br (by trivial) !!{cu,rfl,rfl,_,rfl,br (by trivial)<|fo q}⟩};have h8:es.length<=8:=by lia
 rcases ho with rfl|rfl;refine !{_,_,_,_,rfl,aV,rfl,_,rfl,aZ !!!⟨br rfl !!{_,_,_,_,rfl,cQ,rfl,_,rfl,aZ ?_}⟩};refine !!!!!!⟨br rfl ?_⟩;exact !!{tN,rfl,rfl,_,rfl,br (by trivial) !!!⟨br (by trivial) !!{cu,rfl,rfl,_,rfl,gZ (by trivial) !!!{h8,fo q}}⟩};refine !{_,_,_,_,rfl,aV,rfl,_,rfl,aZ !!!⟨br rfl !!{_,_,_,_,rfl,cQ,rfl,_,rfl,aZ ?_}⟩};refine !!!!!!⟨br rfl ?_⟩;exact !!{tN,rfl,rfl,_,rfl,br (by trivial) !!!⟨br (by trivial) !!{cu,rfl,rfl,_,rfl,gZ (by trivial) !!!{h8,fo q}}⟩}
inductive iJ (ds:List D) (S:aw) (R:KD) (Z:KX):Prop where
 |mk (l es cs m) (h0:ds=[.ref l]) (h1:S l=some (.lst es)) (h2:(es.flatMap mF).length<=900) (h3:(∀e∈es,Sg cs (m+1) e)) (h4:∀p,S p=none->R (.ref p) (S.set p<|.lst<|es.flatMap mF))
theorem n5(T:Txt w K mg t):Ok P w base T.gv 1 iJ:=by
 refine T.gv.F.bV dX ?_;obtain⟨l,es,cs,m,e,hl,h8,JL,q⟩;refine{_,(sc (cG (i:=1) dX.nd<|cC an)<|sc (ux<|C9 (il<|dv 0) (gn (i:=2) dX.nd)<|sc (ux<|si (bf aU hr.u (ix hr.u (dv 2) di) ds) (s1<|se<|bm zO zZ z0 cI (dv 1)<|ac (ix hr.u (dv 2) di) an) s0)<|s1<|si (bf vh hr.u (ix hr.u (dv 2) di)<|cj<|ac ds<|ac ds an) (s1<|se<|bm zO PySem.F.slot_list_extend PySem.F.type_list_extend EW (dv 1)<|ac (ix hr.u (dv 2) di) an) s0)<|s1<|sr<|dv 1),?_};refine{tM,λf hf=>?_};have Fw:l≠f:=gq hl hf;refine{λaB S'=>∃o,aB=[some<|.ref l,some<|.ref f,o]/\S'=S.set f (.lst<|es.flatMap mF),?_,?_};refine !{es,(ag Fw).trans hl,?_};refine{λi aB S'=>∃o,aB=[some<|.ref l,some<|.ref f,o]/\S'=S.set f (.lst<|(es.take i).flatMap mF),⟨none,rfl,rfl⟩,?_,?_,?_};rintro i aB S' ⟨o,rfl,rfl⟩;exact(ag Fw).trans hl;rintro i e aB S' he ⟨o,rfl,rfl⟩;have he:es[i]?=some e:=he;have hem:=JL e<|zE he;have et:(es.take<|i+1).flatMap mF=(es.take i).flatMap mF++mF e:=by rw[List.take_add_one,he,List.flatMap_append];simp
 have L3:((es.take i).flatMap mF).length+(mF e).length<=900:=by rw[<-zC,<-et];refine zH ?_ h8;(conv=>rhs;rw[<-List.take_append_drop (i+1) es,List.flatMap_append,zC]);exact Nat.le_add_right _ _
 generalize (es.take i).flatMap mF=fs at et L3⊢;have RB:(S.set f<|.lst fs) f=some (.lst fs):=aa;have keep:mF e=[]->∃o,[some<|D.ref l,some<|D.ref f,some e]=[some<|.ref l,some<|.ref f,o]/\S.set f (.lst fs)=S.set f (.lst<|(es.take<|i+1).flatMap mF):=λh=>!⟨by rw[et,h,List.append_nil]⟩;have more:∀ds,mF e=ds->∃o,[some<|D.ref l,some<|D.ref f,some e]=[some<|.ref l,some<|.ref f,o]/\(S.set f<|.lst fs).set f (.lst<|fs++ds)=S.set f (.lst<|(es.take<|i+1).flatMap mF):=λds h=>!⟨by rw[et,h,dw]⟩;rcases hem with (rfl|⟨ks,rfl,_,_⟩|⟨o,c,v,_,_,ho,rfl⟩)|⟨e',rfl,V2⟩|⟨o,ds,ho,rfl,Q0,hd⟩;refine{λpX S2=>pX=_/\S2=S.set f (.lst fs),!!!⟨br (by trivial)<|fo ⟨rfl,rfl⟩⟩,?_};rintro _ _ ⟨rfl,rfl⟩;exact !!{cu,rfl,rfl,_,rfl,br (by trivial)<|keep rfl};refine{λpX S2=>pX=_/\S2=S.set f (.lst fs),!!!⟨br (by trivial)<|fo ⟨rfl,rfl⟩⟩,?_};rintro _ _ ⟨rfl,rfl⟩;exact !!{cu,rfl,rfl,_,rfl,br (by trivial)<|keep rfl};rcases ho with rfl|⟨_,rfl|rfl|⟨rfl,_⟩⟩;refine{λpX S2=>pX=_/\S2=S.set f (.lst fs),!!!⟨br (by trivial)<|fo ⟨rfl,rfl⟩⟩,?_};rintro _ _ ⟨rfl,rfl⟩;exact !!{cu,rfl,rfl,_,rfl,br (by trivial)<|keep rfl};refine{λpX S2=>pX=_/\S2=S.set f (.lst fs),!!!⟨br (by trivial)<|fo ⟨rfl,rfl⟩⟩,?_};rintro _ _ ⟨rfl,rfl⟩;exact !!{cu,rfl,rfl,_,rfl,br (by trivial)<|keep rfl};refine{λpX S2=>pX=_/\S2=S.set f (.lst fs),!!!⟨br (by trivial)<|fo ⟨rfl,rfl⟩⟩,?_};rintro _ _ ⟨rfl,rfl⟩;exact !!{cu,rfl,rfl,_,rfl,br (by trivial)<|keep rfl};refine{λpX S2=>pX=_/\S2=S.set f (.lst fs),!!!⟨br (by trivial)<|fo ⟨rfl,rfl⟩⟩,?_};rintro _ _ ⟨rfl,rfl⟩;exact !!{cu,rfl,rfl,_,rfl,br (by trivial)<|keep rfl};refine{λpX S2=>pX=_/\S2=(S.set f<|.lst fs).set f (.lst<|fs++[e']),!!!⟨gZ (by trivial) !⟨{rfl,_,RB},_,rfl,_,rfl,f,_,_,rfl,rfl,RB,bg<|by rw[wj]at L3;simp at L3;omega,fo ⟨rfl,rfl⟩⟩⟩,?_};rintro _ _ ⟨rfl,rfl⟩;exact !!{cu,rfl,rfl,_,rfl,br (by trivial)<|more _<|wj e'};have Zy:=wk ho ds;rw[Zy]at L3;rcases ho with rfl|rfl;refine{λpX S2=>pX=_/\S2=S.set f (.lst fs),!!!⟨br (by trivial)<|fo ⟨rfl,rfl⟩⟩,?_};rintro _ _ ⟨rfl,rfl⟩;exact !!{cu,rfl,rfl,_,rfl,gZ (by trivial) !⟨{rfl,_,RB},_,rfl,_,rfl,f,_,_,rfl,rfl,RB,sm<|by omega,more _ Zy⟩};refine{λpX S2=>pX=_/\S2=S.set f (.lst fs),!!!⟨br (by trivial)<|fo ⟨rfl,rfl⟩⟩,?_};rintro _ _ ⟨rfl,rfl⟩;exact !!{cu,rfl,rfl,_,rfl,gZ (by trivial) !⟨{rfl,_,RB},_,rfl,_,rfl,f,_,_,rfl,rfl,RB,sm<|by omega,more _ Zy⟩};rintro aB S' ⟨o,rfl,rfl⟩;refine fo {o,rfl,?_};rw[show({es,λS=>S l=some (.lst es)}:oB).xs=es from rfl,yG];rintro aB S' ⟨o,rfl,rfl⟩;exact{_,rfl,fo<|q f hf}
theorem II{cs:List<|Str×Str}{n:Nat}{d:D}(h:Sg cs (n+1) d):∀f∈mF d,Sg cs n f:=by
 rcases h with (rfl|⟨ks,rfl,_,_⟩|⟨o,c,v,_,_,ho,rfl⟩)|⟨e',rfl,V2⟩|⟨o,ds,ho,rfl,Q0,hd⟩;exact nofun;exact nofun;exact nofun;rw[wj];exact λf hf=>by rw[zI.mp hf];exact V2
 rw[wk ho];exact hd
theorem IJ(n:Nat):∀es:List D,(es.map<|oV<|n+1).sum=es.length+((es.flatMap mF).map<|oV n).sum|[]=>rfl|e::es=>by have:=IJ n es;rw[zx,List.sum_cons,zQ,List.flatMap_cons,zK,List.sum_append,this,show oV (n+1) e=((mF e).map<|oV n).sum+1 from rfl];lia
theorem Qr{cs:List<|Str×Str}{n:Nat}{es:List D}(h:∀e∈es,Sg cs (n+1) e):(es.flatMap mF).length<=((es.flatMap mF).map<|oV n).sum:=by
 have h:∀f∈es.flatMap mF,Sg cs n f:=λf hf=>by obtain⟨e,he,hf⟩:=List.mem_flatMap.mp hf;exact II (h e he) f hf
 generalize es.flatMap mF=fs at h⊢;induction fs with|nil=>exact zr _|cons f fs ih=>have h1:=h f zm;have ih:=ih λx hx=>h x<|zf _ hx;have:1<=oV n f:=(by cases n with|zero=>exact h1.elim|succ n=>exact Nat.le_add_left _ _);rw[zx,List.sum_cons,zQ];lia
inductive kE (ds:List D) (S:aw) (R:KD) (Z:KX):Prop where
 |mk (cs d) (h0:ds=[.tup<|cs.map ay,d]) (h1:Gd cs) (h2:Sq cs d) (h3:R .av S)
theorem rX(T:Txt w K mg t):Ok P w base T.jq 6 kE:=by
 refine T.jq.F.bV bD ?_;obtain⟨cs,d,e,hg,hd,q⟩;refine{_,(sc (cG (i:=2) bD.nd<|cC<|al 1 an)<|sc (cG (i:=3) bD.nd di)<|sc (cG (i:=4) bD.nd di)<|s1<|Y0 (bf pE hr.u (cb aK T.aI aC<|al 2 an) di)<|sc (sau (i:=3) bD.nd di)<|sc (sau (i:=4) bD.nd<|cb aK T.aI aC<|al 2 an)<|sc (si (twd<|twor (bf pE hr.u (dv 3)<|dg (v:=.int 8) T.vA {_,rfl} λ_=>aN _)<|tw1<|bf pE hr.u (dv 4)<|dg (v:=.int 200) T.jj {_,rfl} λ_=>aN _) (s1<|qR ⟨T.h_⟩ T.oI<|ac ds an) s0)<|sc (si (cg<|tv<|cb i_ T.jk fb<|ac (sZ (N:=["thing","columns"]) (src:=[none,some 0]) (iT (ae tm) ["columns","sieve","level","deep","parts"] rfl rfl<|by trivial) (il<|dv 2) (oF<|show(["thing","columns"]:List Str).Nodup by trivial) (aQ rfl) aR (λ_ _ _ _ _=>oE) λ_ _ _ _ _=>(aY T.nN (wm T) hr<|al 1<|al 0 an)) an) (s1<|qR ⟨T.h_⟩ T.oI<|ac ds an) s0)<|s1<|cG (i:=2) bD.nd<|aY T.gv (n5 T) hr<|al 2 an),?_};refine !{pL,λl0 Ru=>?_};refine{λm aB S'=>∃(l:Addr) (es:List D) (dp p:Nat),aB=[some<|.tup<|cs.map ay,some d,some<|.ref l,some<|.int dp,some<|.int p]/\S' l=some (.lst es)/\Sub S S'/\(∀e∈es,Sg cs m e)/\dp+m=7/\p+(es.map<|oV m).sum<=200,{7,l0,[d],0,0,rfl,aa,.new Ru,λe he=>by rw[zI.mp he];exact hd.1,rfl,by have:=hd.2;simp only[zx,yT,List.sum_cons,List.sum_nil];lia},?_};rintro m aB S' ⟨l,es,dp,p,rfl,hl,sb,JL,hdp,hp⟩;refine !!⟨.inl {_,hl,_,rfl,?_}⟩;refine bT (λh1=>?_) λh1=>?_;have EG:0<es.length:=by have h1:(0:Int)<((es.length:Nat):Int):=zB h1;lia
 obtain⟨e0,he0⟩:=List.exists_mem_of_length_pos EG;obtain⟨n,rfl⟩:∃n,m=n+1:=by cases m with|zero=>exact(JL e0 he0).elim|succ n=>exact⟨n,rfl⟩
 have acZ:=IJ n es;have SR:=Qr (cs:=cs) (n:=n) (es:=es) JL;refine !!!!!⟨.inl {_,hl,_,rfl,?_}⟩;refine !!⟨br (zu<|by lia) !!⟨br (zu<|by lia) ?_⟩⟩;refine !{es,hl,?_};refine comp_map (λ_=>.bl true) hl (by show es.length<=1000;lia) (λe he Q hQ=>?_) λp1 sN=>?_;exact !!{cs,_,e,rfl,hg,JL e he,hQ};have e2:es.map (λ_=>D.bl true)=(es.map λ_=>true).map D.bl:=by rw[zy];rfl
 have e3:(es.map λ_=>true).all id=true:=by rw[all_map];exact ya.mpr λ_ _=>rfl
 refine{.ref p1,es.map λ_=>true,rfl,?_,_,rfl,?_};show(S'.set p1<|.lst<|es.map _) p1=_;rw[aa,e2];rw[e3];refine aZ ?_;have s1:=sb.trans<|.new (c:=.lst<|es.map λ_=>D.bl true) sN;have JM:(S'.set p1<|.lst<|es.map λ_=>D.bl true) l=some (.lst es):=(ag<|gq hl sN).trans hl;refine !{l,es,cs,n,rfl,JM,by lia,JL,λp2 h3=>?_};refine{n,Nat.lt_succ_self n,p2,es.flatMap mF,dp+1,p+es.length,?_,aa,s1.trans<|.new h3,λf hf=>?_,by lia,by lia};show[_,_,_,some<|D.int<|((dp:Nat):Int)+1,some<|D.int<|((p:Nat):Int)+((es.length:Nat):Int)]=_;rw[show(((dp:Nat):Int)+1)=((dp+1:Nat):Int) by lia,show(((p:Nat):Int)+((es.length:Nat):Int))=((p+es.length:Nat):Int) by lia];obtain⟨e,he,hf⟩:=List.mem_flatMap.mp hf;exact II (JL e he) f hf;exact⟨S,sb,q⟩
noncomputable def IK(cs:List<|Str×Str)(z:Str):Nat:=(cs.map Prod.fst).idxOf z
noncomputable def aj(cs:List<|Str×Str)(ws:List D)(z:Str):D:=(ws[IK cs z]?).getD .av
noncomputable def ai(r:Str×List D):D:=.tup [.str r.1,.tup r.2]
theorem rY:∀{l:List α}{m:List β},Paired rel l m->∀{i:Nat}{a:α},l[i]?=some a->∃b,m[i]?=some b/\rel a b|_,_,.nil,_,_,h=>by simp at h|_,_,.cons r t,0,a,h=>(by rw[List.getElem?_cons_zero]at h⊢;cases h;exact{_,rfl,r})|_,_,.cons r t,i+1,a,h=>by rw[List.getElem?_cons_succ]at h⊢;exact rY t h
theorem n6(hg:Gd cs)(h:c∈cs):cs[IK cs c.1]?=some c/\(cs.map Prod.fst)[IK cs c.1]?=some c.1:=by
 have hm:c.1∈cs.map Prod.fst:=zh.mpr ⟨c,h,rfl⟩;have hi:(cs.map Prod.fst).idxOf c.1<(cs.map Prod.fst).length:=List.idxOf_lt_length_of_mem hm;have e1:(cs.map Prod.fst)[(cs.map Prod.fst).idxOf c.1]?=some c.1:=by rw[zg hi,List.getElem_idxOf]
 refine{?_,e1};obtain⟨j,ej⟩:=yt h;have ej1:(cs.map Prod.fst)[j]?=some c.1:=by rw[zi,ej];rfl
 obtain⟨b1,c1⟩:=ze.mp e1;obtain⟨b2,c2⟩:=ze.mp ej1;have:=(List.getElem_inj hg.2.1 (h₀:=b1) (h₁:=b2)).mp<|c1.trans c2.symm;unfold IK;rw[this];exact ej
theorem jU(hg:Gd cs)(hw:Wg cs ws)(h:c∈cs):ws[IK cs c.1]?=some (aj cs ws c.1)/\Vg c.2 (aj cs ws c.1):=by obtain⟨v,e,r⟩:=rY hw (n6 hg h).1;unfold aj;rw[e];exact⟨rfl,r⟩
noncomputable def jV:D->D->Bool|.av,.av=>true|.int i,.int j=>decide (i=j)|.str i,.str j=>decide (i=j)|_,_=>false
theorem aT(ha:bc a=true)(hb:bc b=true):jV a b=true↔a=b:=by cases a<;>cases b<;>first|(cases ha;done)|(cases hb;done)|simp[jV]
theorem mG(ha:bc a=true)(hb:bc b=true)(q:R (.bl<|if neg then !jV a b else jV a b) S):Gb neg a b S R:=by
 have mix:∀{a b:D},bc a=true->bc b=true->(∀p q,Dp S a p->Dp S b q->PyData.eqv p q=jV a b)->(∀i j,a=.int i->b≠.int j)->(∀i j,a=.str i->b≠.str j)->R (.bl<|if neg then !jV a b else jV a b) S->Gb neg a b S R:=by intro a b ha hb h h1 h2 q;obtain⟨p,p1,p2,p3⟩:=Ly.plain (S:=S) ha;obtain⟨r,r1,r2,r3⟩:=Ly.plain (S:=S) hb;have e:=h p r p1 r1;obtain⟨p',p1',p2',p3'⟩:=Ly.dl<|Ly.plain (S:=S) ha;cases a<;>cases b<;>first|(cases ha;done)|(cases hb;done)|exact absurd rfl (h1 _ _ rfl)|exact absurd rfl (h2 _ _ rfl)|exact{p,r,p1,r1,p2,r2,.inl<|by lia,by rw[e];exact q}
 cases a with|av=>(cases b with|av=>exact mix ha hb (λp q h1 h2=>by simp only[Dp]at h1 h2;subst h1 h2;rfl) nofun nofun q|int j=>exact mix ha hb (λp q h1 h2=>by simp only[Dp]at h1 h2;subst h1 h2;rfl) nofun nofun q|str j=>exact mix ha hb (λp q h1 h2=>by simp only[Dp]at h1 h2;subst h1 h2;rfl) nofun nofun q|_=>cases hb)|int i=>(cases b with|av=>exact mix ha hb (λp q h1 h2=>by simp only[Dp]at h1 h2;subst h1 h2;rfl) nofun nofun q|int j=>exact q|str j=>exact mix ha hb (λp q h1 h2=>by simp only[Dp]at h1 h2;subst h1 h2;rfl) nofun nofun q|_=>cases hb)|str i=>(cases b with|av=>exact mix ha hb (λp q h1 h2=>by simp only[Dp]at h1 h2;subst h1 h2;rfl) nofun nofun q|int j=>exact mix ha hb (λp q h1 h2=>by simp only[Dp]at h1 h2;subst h1 h2;rfl) nofun nofun q|str j=>exact q|_=>cases hb)|_=>cases ha
noncomputable def tT:D->D->Bool|.int i,.int j=>decide (i<j)|.str i,.str j=>nh i j|_,_=>false
noncomputable def stP:D->D->Bool|.str i,.str j=>PySem.Txt.startswith i j|_,_=>false
noncomputable def y_(o:Str)(a b:D):Bool:=if o ="is" then jV a b else if ah a then false else if o ="below" then tT a b else if o ="above" then tT b a else stP a b
noncomputable def FA:D->List D|.tup ds=>ds|_=>[]
noncomputable def U8(cs:List<|Str×Str)(r:Str×List D)(f:D->Bool):D->Bool|.tup [.str _]=>true|.tup [.str o,e]=>(if o ="not" then !f e else if o ="key" then A5 (j6<|.str r.1) ((FA e).map j6) else if o ="and" then (FA e).all f else (FA e).any f)|.tup [.str o,.str z,v]=>y_ o (aj cs r.2 z) v|_=>false
noncomputable def bj(cs:List<|Str×Str)(r:Str×List D):Nat->D->Bool|0,_=>false|n+1,d=>U8 cs r (bj cs r n) d
theorem DF(cs:List<|Str×Str)(r:Str×List D)(n:Nat)(o:Str)(e:D):bj cs r (n+1) (.tup [.str o,e])=if o ="not" then !bj cs r n e else if o ="key" then A5 (j6<|.str r.1) ((FA e).map j6) else if o ="and" then (FA e).all (bj cs r n) else (FA e).any (bj cs r n):=rfl
theorem NB(cs:List<|Str×Str)(r:Str×List D)(n:Nat)(o z:Str)(v:D):bj cs r (n+1) (.tup [.str o,.str z,v])=y_ o (aj cs r.2 z) v:=rfl
theorem z_(cs:List<|Str×Str)(r:Str×List D)(n:Nat)(ks:List D):bj cs r (n+1) (.tup [.str "key",.tup ks])=A5 (j6<|.str r.1) (ks.map j6):=by rw[DF,if_neg<|by trivial,if_pos rfl];rfl
theorem Ab(cs:List<|Str×Str)(r:Str×List D)(n:Nat)(e:D):bj cs r (n+1) (.tup [.str "not",e])=!bj cs r n e:=by rw[DF,if_pos rfl]
theorem Ac(cs:List<|Str×Str)(r:Str×List D)(n:Nat)(es:List D):bj cs r (n+1) (.tup [.str "and",.tup es])=es.all (bj cs r n):=by rw[DF,if_neg<|by trivial,if_neg<|by trivial,if_pos rfl];rfl
theorem DH(cs:List<|Str×Str)(r:Str×List D)(n:Nat)(es:List D):bj cs r (n+1) (.tup [.str "or",.tup es])=es.any (bj cs r n):=by rw[DF,if_neg<|by trivial,if_neg<|by trivial,if_neg<|by trivial];rfl
theorem lA{k:Str}(ha:Vg k a)(hb:Vg k b)(na:a≠.av)(nb:b≠.av):(∃i j,a=.int i/\b=.int j)\/∃i j,a=.str i/\b=.str j:=by obtain⟨a1,a2⟩:=ha;obtain⟨b1,b2⟩:=hb;cases a with|av=>exact absurd rfl na|int i=>(cases b with|av=>exact absurd rfl nb|int j=>exact .inl ⟨i,j,rfl,rfl⟩|str j=>(exfalso;unfold iQ at a1 b1;simp only[ah,yV]at a1 b1;by_cases e:k ="number";rw[if_pos e]at b1;cases b1;rw[if_neg e]at a1;cases a1)|_=>cases b2)|str i=>(cases b with|av=>exact absurd rfl nb|str j=>exact .inr ⟨i,j,rfl,rfl⟩|int j=>(exfalso;unfold iQ at a1 b1;simp only[ah,yV]at a1 b1;by_cases e:k ="number";rw[if_pos e]at a1;cases a1;rw[if_neg e]at b1;cases b1)|_=>cases b2)|_=>cases a2
theorem ql(h:Vg "word" a)(n:a≠.av):∃z,a=.str z:=by obtain⟨h1,h2⟩:=h;cases a with|av=>exact absurd rfl n|str z=>exact⟨z,rfl⟩|int i=>(unfold iQ at h1;rw[if_neg<|by trivial]at h1;cases h1)|_=>cases h2
theorem aX(h:ah a=false):a≠.av:=by rintro rfl;cases h
inductive lB (ds:List D) (S:aw) (R:KD) (Z:KX):Prop where
 |mk (cs r c) (h0:ds=[.tup<|cs.map ay,ai r,.str c.1]) (h1:Gd cs) (h2:Wg cs r.2) (h3:c∈cs) (h4:R (aj cs r.2 c.1) S)
theorem dA(T:Txt w K mg t):Ok P w base T.cz 2 lB:=by
 refine T.cz.F.bV yY ?_;obtain⟨cs,r,c,e,hg,hw,hc,q⟩;obtain⟨n1,n2⟩:=n6 hg hc;refine{_,(s1<|sr<|ix hr.u (ix hr.u (dv 1) di)<|bm zO PySem.F.slot_list_index PySem.F.type_list_index qQ (aY T.ma (oQ T) hr<|al 0 an)<|al 2 an),?_};refine !!!{cs,rfl,hg.1,λp hp=>?_};refine{{rfl,_,aa},_,rfl,(cs.map Prod.fst).map D.str,.str c.1,IK cs c.1,rfl,aa,rfl,?_,{.str c.1,by rw[zi,n2];rfl,by show(c.1==c.1)=true;simp},?_,?_};rw[List.all_map];exact ya.mpr λ_ _=>rfl;intro m u hm hu;rw[zi]at hu;cases e:(cs.map Prod.fst)[m]? with|none=>(rw[e]at hu;cases hu)|some z'=>rw[e]at hu;cases hu;show(z'==c.1)=false;have:z'≠c.1:=λq=>(by subst q;obtain⟨b1,c1⟩:=ze.mp e;obtain⟨b2,c2⟩:=ze.mp n2;have:=(List.getElem_inj hg.2.1 (h₀:=b1) (h₁:=b2)).mp<|c1.trans c2.symm;lia);simpa using this
 exact{_,bU (jU hg hw hc).1,S,.new hp,q}
inductive fJ (ds:List D) (S:aw) (R:KD) (Z:KX):Prop where
 |mk (o a b c) (h0:ds=[.str o,a,b]) (h1:Vg c.2 a) (h2:Vg c.2 b) (h3:wg o c b) (h4:R (.bl<|y_ o a b) S)
theorem pO(T:Txt w K mg t):Ok P w base T.ia 1 fJ:=by
 refine T.ia.F.bV pI ?_;obtain⟨o,a,b,c,e,ha,hb,ho,q⟩;refine{_,(sc (si (bf aU hr.u (dv 0) ds) (s1<|sr<|cm aU hr.u (dv 1)<|dv 2) s0)<|sc (si (bf fh hr.u (dv 1) dn) (s1<|sr db) s0)<|sc (si (bf aU hr.u (dv 0) ds) (s1<|sr<|cm pC hr.u (dv 1)<|dv 2) s0)<|sc (si (bf aU hr.u (dv 0) ds) (s1<|sr<|cm pE hr.u (dv 1)<|dv 2) s0)<|s1<|sr<|bm PySem.F.plainAttrs_str PySem.F.slot_str_startswith PySem.F.type_str_startswith Hk (dv 1)<|al 2 an),?_};unfold y_ at q;rcases ho with rfl|⟨nb,ho⟩;rw[if_pos rfl]at q;exact !!⟨gZ (by trivial) !!⟨mG ha.2 hb.2<|fo q⟩⟩;have ne:∀{A B:Bool},o≠"is"->R (.bl<|if o ="is" then A else B) S->R (.bl B) S:=λh q=>by rw[if_neg h]at q;exact q
 rcases ho with rfl|rfl|⟨rfl,hk⟩;rw[if_neg<|by trivial]at q;refine !!⟨br (by trivial) !!⟨bT (λh=>?_) λh=>?_⟩⟩;rw[if_pos h]at q;exact fo q;rw[if_neg<|by rw[show ah a=false from h];exact zd,if_pos rfl]at q;refine !!⟨gZ (by trivial) !!⟨?_⟩⟩;rcases lA ha hb (aX h) nb with⟨i,j,rfl,rfl⟩|⟨i,j,rfl,rfl⟩<;>exact fo q;rw[if_neg<|by trivial]at q;refine !!⟨br (by trivial) !!⟨bT (λh=>?_) λh=>?_⟩⟩;rw[if_pos h]at q;exact fo q;rw[if_neg<|by rw[show ah a=false from h];exact zd,if_neg<|by trivial,if_pos rfl]at q;refine !!⟨br (by trivial) !!⟨gZ (by trivial) !!⟨?_⟩⟩⟩;rcases lA ha hb (aX h) nb with⟨i,j,rfl,rfl⟩|⟨i,j,rfl,rfl⟩<;>exact fo q;rw[if_neg<|by trivial]at q;refine !!⟨br (by trivial) !!⟨bT (λh=>?_) λh=>?_⟩⟩;rw[if_pos h]at q;exact fo q;rw[if_neg<|by rw[show ah a=false from h];exact zd,if_neg<|by trivial,if_neg<|by trivial]at q;refine !!⟨br (by trivial) !!⟨br (by trivial) ?_⟩⟩;rw[hk]at ha hb;obtain⟨i,rfl⟩:=ql ha<|aX h;obtain⟨j,rfl⟩:=ql hb nb;exact !{rfl,_,rfl,i,j,rfl,rfl,fo q}
def IL(n:Nat):ja:=λds S R _=>∃cs d r,ds=[.tup<|cs.map ay,d,ai r]/\Gd cs/\Sg cs n d/\Wg cs r.2/\R (.bl<|bj cs r n d) S
theorem jW(T:Txt w K mg t):∀n,Ok P w base T.passes (3+n) (IL n)
 |0=>by refine T.passes.F.ok (k:=2) uG (by rintro ds S R Z ⟨_,_,_,e,_⟩;exact by rw[e];rfl) (by rintro fN A outer s H E ds S R Z hr ⟨cs,d,r,e,hg,hs,_⟩;exact hs.elim)
 |n+1=>by
  refine T.passes.F.ok (k:=3+n) uG (by rintro ds S R Z ⟨_,_,_,e,_⟩;rw[e];rfl) ?_;obtain⟨cs,d,r,e,hg,hs,hw,q⟩;refine{_,(sc (si (bf aU hr.u (ix hr.u (dv 1) di) ds) (s1<|sr db) s0)<|sc (si (bf aU hr.u (ix hr.u (dv 1) di) ds) (s1<|sr<|cm vh hr.u (ix hr.u (dv 2) di)<|ix hr.u (dv 1) di) s0)<|sc (si (bf aU hr.u (ix hr.u (dv 1) di) ds) (s1<|sr<|Po<|aY T.passes (jW T n) hr<|al 0<|ac (ix hr.u (dv 1) di)<|al 2 an) s0)<|sc (si (bf aU hr.u (ix hr.u (dv 1) di) ds) (s1<|sr<|cb i_ T.jk fb<|ac (sZ (N:=["inner","columns","row"]) (src:=[none,some 0,some 2]) (iT (ae xS) ["columns","sieve","row"] rfl rfl<|by trivial) (Gg<|ix hr.u (dv 1) di) (oF<|show(["inner","columns","row"]:List Str).Nodup by trivial) (aQ rfl) aR (λ_ _ _ _ _=>oE) λ_ _ _ _ _=>(aY T.passes (jW T n) hr<|al 1<|al 0<|al 2 an)) an) s0)<|sc (si (bf aU hr.u (ix hr.u (dv 1) di) ds) (s1<|sr<|cb MY T.Nq G6<|ac (sZ (N:=["inner","columns","row"]) (src:=[none,some 0,some 2]) (iT (ae xS) ["columns","sieve","row"] rfl rfl<|by trivial) (Gg<|ix hr.u (dv 1) di) (oF<|show(["inner","columns","row"]:List Str).Nodup by trivial) (aQ rfl) aR (λ_ _ _ _ _=>oE) λ_ _ _ _ _=>(aY T.passes (jW T n) hr<|al 1<|al 0<|al 2 an)) an) s0)<|s1<|sr<|aY T.ia (pO T) hr<|ac (ix hr.u (dv 1) di)<|ac (aY T.cz (dA T) hr<|al 0<|al 2<|ac (ix hr.u (dv 1) di) an)<|ac (ix hr.u (dv 1) di) an),?_};rcases hs with (rfl|⟨ks,rfl,Zx,AI⟩|⟨o,c,v,hc,hv,ho,rfl⟩)|⟨e,rfl,he⟩|⟨o,es,ho,rfl,JL,S_⟩;exact !!!⟨gZ (by trivial)<|fo q⟩;refine !!!⟨br (by trivial) !!!⟨gZ (by trivial) ?_⟩⟩;refine !!!!{rfl,?_,?_};rw[List.all_map];exact ya.mpr λ_ _=>rfl;rw[z_]at q;exact fo q;rw[NB]at q;have fin:∀Zq,fJ [D.str o,aj cs r.2 c.1,v] S (λd S'=>Fo S'<|R d) Zq:=λ_=>{o,_,v,c,rfl,(jU hg hw hc).2,hv,ho,fo q};have h4:o ="is"\/o ="below"\/o ="above"\/o ="begins":=by rcases ho with h|⟨_,h|h|⟨h,_⟩⟩;exact .inl h;exact .inr<|.inl h;exact .inr<|.inr<|.inl h;exact .inr<|.inr<|.inr h
  rcases h4 with rfl|rfl|rfl|rfl;exact !!!⟨br (by trivial) !!!⟨br (by trivial) !!!⟨br (by trivial) !!!⟨br (by trivial) !!!⟨br (by trivial) !!!!!!{cs,r,c,rfl,hg,hw,hc,_,rfl,_,rfl,fin _}⟩⟩⟩⟩⟩;exact !!!⟨br (by trivial) !!!⟨br (by trivial) !!!⟨br (by trivial) !!!⟨br (by trivial) !!!⟨br (by trivial) !!!!!!{cs,r,c,rfl,hg,hw,hc,_,rfl,_,rfl,fin _}⟩⟩⟩⟩⟩;exact !!!⟨br (by trivial) !!!⟨br (by trivial) !!!⟨br (by trivial) !!!⟨br (by trivial) !!!⟨br (by trivial) !!!!!!{cs,r,c,rfl,hg,hw,hc,_,rfl,_,rfl,fin _}⟩⟩⟩⟩⟩;exact !!!⟨br (by trivial) !!!⟨br (by trivial) !!!⟨br (by trivial) !!!⟨br (by trivial) !!!⟨br (by trivial) !!!!!!{cs,r,c,rfl,hg,hw,hc,_,rfl,_,rfl,fin _}⟩⟩⟩⟩⟩;rw[Ab]at q;exact !!!⟨br (by trivial) !!!⟨br (by trivial) !!!⟨gZ (by trivial) !!!!{cs,e,r,rfl,hg,he,hw,_,rfl,fo q}⟩⟩⟩;have hz:es.length<=1000:=by lia
  rcases ho with rfl|rfl;rw[Ac]at q;refine !!!⟨br (by trivial) !!!⟨br (by trivial) !!!⟨br (by trivial) !!!⟨gZ (by trivial) !!{_,.inl rfl,?_}⟩⟩⟩⟩;refine comp_map (λd=>.bl<|bj cs r n d) trivial hz (λd hd Q hQ=>!!!{cs,d,r,rfl,hg,S_ d hd,hw,hQ}) λp hp=>?_;refine{.ref p,es.map<|bj cs r n,rfl,?_,S,.new hp,?_};show(S.set p<|.lst<|es.map _) p=_;rw[aa,zy];rfl;rw[all_map];exact q;rw[DH]at q;refine !!!⟨br (by trivial) !!!⟨br (by trivial) !!!⟨br (by trivial) !!!⟨br (by trivial) !!!⟨gZ (by trivial) !!{_,.inl rfl,?_}⟩⟩⟩⟩⟩;refine comp_map (λd=>.bl<|bj cs r n d) trivial hz (λd hd Q hQ=>!!!{cs,d,r,rfl,hg,S_ d hd,hw,hQ}) λp hp=>?_;refine{.ref p,es.map<|bj cs r n,rfl,?_,S,.new hp,?_};show(S.set p<|.lst<|es.map _) p=_;rw[aa,zy];rfl;rw[List.any_map];exact q
abbrev Row:=Str×List D
abbrev Part:=Str×Str×Str
theorem Qt{a b:Str}(h:a.cps.toList=b.cps.toList):a=b:=by obtain⟨x⟩:=a;obtain⟨y⟩:=b;exact congrArg Str.mk<|Array.ext' h
theorem DJ(a:Str):nh a a=false:=zu<|List.lt_irrefl _
theorem jX{a b:Str}(h:a≠b):nh b a=!nh a b:=by unfold nh;rw[yp];simp only[decide_eq_true_iff,Bool.not_eq_true',yq];constructor;exact λh1 h2=>List.lt_irrefl _<|List.lt_trans h1 h2;intro h1;by_cases h2:b.cps.toList<a.cps.toList;exact h2;exact absurd (Qt<|List.le_antisymm (List.not_lt.mp h2)<|List.not_lt.mp h1) h
theorem Cb(h1:nh a b=true)(h2:nh b c=true):nh a c=true:=zw<|List.lt_trans (zB h1)<|zB h2
theorem DK(a:D):tT a a=false:=by cases a<;>first|rfl|exact DJ _|exact zu (Int.lt_irrefl _)
theorem mH(ha:Vg k a)(hb:Vg k b)(na:a≠.av)(nb:b≠.av)(h:a≠b):tT b a=!tT a b:=by rcases lA ha hb na nb with⟨i,j,rfl,rfl⟩|⟨i,j,rfl,rfl⟩;have iX:i≠j:=λe=>h<|congrArg D.int e;show decide (j<i)=!decide (i<j);rw[yp];simp only[decide_eq_true_iff,Bool.not_eq_true',yq];lia;exact jX λe=>h<|congrArg D.str e
theorem IM(h1:tT a b=true)(h2:tT b c=true):tT a c=true:=by cases a with|int i=>(cases b with|int j=>(cases c with|int l=>have h1:i<j:=zB h1;have h2:j<l:=zB h2;exact zw (by lia)|_=>cases h2)|_=>cases h1)|str i=>(cases b with|str j=>(cases c with|str l=>exact Cb h1 h2|_=>cases h2)|_=>cases h1)|_=>cases h1
theorem IP(h:Uv a b):tT a b=true:=by cases a with|int i=>(cases b with|int j=>exact zw h|_=>exact h.elim)|str i=>(cases b with|str j=>exact zw h|_=>exact h.elim)|_=>exact h.elim
noncomputable def cB(p:Part)(x y:D):Bool:=if (ah x != ah y)=true then ah x==decide (p.2.2 ="first") else tT x y==decide (p.2.1 ="up")
noncomputable def bG(cs:List<|Str×Str)(wy:Str):List Part->Row->Row->Bool|[],a,b=>nh a.1 b.1==decide (wy ="up")|p::ps,a,b=>if jV (aj cs a.2 p.1) (aj cs b.2 p.1)=true then bG cs wy ps a b else cB p (aj cs a.2 p.1) (aj cs b.2 p.1)
theorem bxor:((!x)==u)=!(x==u):=by cases x<;>cases u<;>rfl
theorem cZ(h:ah x=true):x=.av:=by cases x<;>first|rfl|cases h
theorem n8(hx:Vg k x)(hy:Vg k y)(h:x≠y):cB p y x=!cB p x y:=by unfold cB;cases nx:ah x with|true=>(cases ny:ah y with|true=>exact absurd ((cZ nx).trans (cZ ny).symm) h|false=>rw[if_pos<|by rfl,if_pos<|by rfl];cases decide (p.2.2 ="first")<;>rfl)|false=>cases ny:ah y with|true=>(rw[if_pos<|by rfl,if_pos<|by rfl];cases decide (p.2.2 ="first")<;>rfl)|false=>rw[if_neg<|by simp,if_neg<|by simp,mH hx hy (aX nx) (aX ny) h,bxor]
theorem DL(hx:Vg k x)(hy:Vg k y)(hz:Vg k z)(Qu:x≠y)(hyz:y≠z)(h1:cB p x y=true)(h2:cB p y z=true):x≠z/\cB p x z=true:=by
 have Zz:x≠z:=by rintro rfl;have:=n8 (p:=p) hx hy Qu;rw[h1,h2]at this;cases this
 refine{Zz,?_};unfold cB at h1 h2⊢;cases nx:ah x with|true=>(cases ny:ah y with|true=>exact absurd ((cZ nx).trans (cZ ny).symm) Qu|false=>rw[nx,ny,if_pos<|by rfl]at h1;cases nz:ah z with|true=>exact absurd ((cZ nx).trans (cZ nz).symm) Zz|false=>rw[if_pos<|by rfl];exact h1)|false=>cases ny:ah y with|true=>(rw[nx,ny,if_pos<|by rfl]at h1;cases nz:ah z with|true=>exact absurd ((cZ ny).trans (cZ nz).symm) hyz|false=>rw[ny,nz,if_pos<|by rfl]at h2;cases e:decide (p.2.2 ="first")<;>rw[e]at h1 h2<;>first|cases h1;done|cases h2;done)|false=>rw[nx,ny,if_neg<|by simp]at h1;cases nz:ah z with|true=>rw[ny,nz,if_pos<|by rfl]at h2;rw[if_pos<|by rfl];exact h2|false=>rw[ny,nz,if_neg<|by simp]at h2;rw[if_neg<|by simp];cases e:decide (p.2.1 ="up") with|true=>rw[e]at h1 h2;rw[IM (a:=x) (b:=y) (c:=z) (by simpa using h1)<|by simpa using h2];rfl|false=>rw[e]at h1 h2;have h1:tT x y=false:=(by simpa using h1);have h2:tT y z=false:=(by simpa using h2);have a1:=mH hx hy (aX nx) (aX ny) Qu;have a2:=mH hy hz (aX ny) (aX nz) hyz;rw[h1]at a1;rw[h2]at a2;have a3:=IM a2 a1;have a4:=mH hx hz (aX nx) (aX nz) Zz;rw[a3]at a4;cases q:tT x z with|true=>(rw[q]at a4;cases a4)|false=>rfl
def Pin(cs:List<|Str×Str)(ps:List Part):Prop:=∀p∈ps,∃c∈cs,c.1=p.1
section
variable{cs:List (Str×Str)}{wy:Str}
theorem Pin.tail(h:Pin cs<|p::ps):Pin cs ps:=λq hq=>h q<|zf _ hq
theorem qm(hg:Gd cs)(h:Pin cs<|p::ps):∃k,∀ws,Wg cs ws->Vg k (aj cs ws p.1):=by obtain⟨c,hc,e⟩:=h p zm;rw[<-e];exact{c.2,λws hw=>(jU hg hw hc).2}
theorem rZ(hg:Gd cs):∀{ps:List Part}{a b:Row},Pin cs ps->Wg cs a.2->Wg cs b.2->a.1≠b.1->bG cs wy ps b a=!bG cs wy ps a b|[],a,b,_,_,_,h=>by show(nh b.1 a.1==_)=!(nh a.1 b.1==_);rw[jX h,bxor]|p::ps,a,b,hp,ha,hb,h=>by obtain⟨k,hk⟩:=qm hg hp;have va:=hk _ ha;have vb:=hk _ hb;unfold bG;by_cases e:aj cs a.2 p.1=aj cs b.2 p.1;rw[if_pos<|(aT vb.2 va.2).mpr e.symm,if_pos<|(aT va.2 vb.2).mpr e];exact rZ hg hp.tail ha hb h;rw[if_neg λq=>e ((aT vb.2 va.2).mp q).symm,if_neg λq=>e<|(aT va.2 vb.2).mp q];exact n8 va vb e
theorem IQ(hg:Gd cs):∀{ps:List Part}{a b c:Row},Pin cs ps->Wg cs a.2->Wg cs b.2->Wg cs c.2->a.1≠b.1->b.1≠c.1->a.1≠c.1->bG cs wy ps a b=true->bG cs wy ps b c=true->bG cs wy ps a c=true|[],a,b,c,_,_,_,_,h1,h2,h3,q1,q2=>(by have q1:(nh a.1 b.1==decide (wy ="up"))=true:=q1;have q2:(nh b.1 c.1==decide (wy ="up"))=true:=q2;show(nh a.1 c.1==decide (wy ="up"))=true;cases e:decide (wy ="up") with|true=>rw[e]at q1 q2;rw[Cb (b:=b.1) (by simpa using q1)<|by simpa using q2];rfl|false=>rw[e]at q1 q2;have q1:nh a.1 b.1=false:=(by simpa using q1);have q2:nh b.1 c.1=false:=(by simpa using q2);have a1:=jX h1;have a2:=jX h2;rw[q1]at a1;rw[q2]at a2;have a3:=Cb a2 a1;have a4:=jX h3;rw[a3]at a4;cases q:nh a.1 c.1 with|true=>(rw[q]at a4;cases a4)|false=>rfl)|p::ps,a,b,c,hp,ha,hb,hc,h1,h2,h3,q1,q2=>by obtain⟨k,hk⟩:=qm hg hp;have va:=hk _ ha;have vb:=hk _ hb;have vc:=hk _ hc;unfold bG at q1 q2⊢;by_cases e1:aj cs a.2 p.1=aj cs b.2 p.1;rw[if_pos<|(aT va.2 vb.2).mpr e1]at q1;by_cases e2:aj cs b.2 p.1=aj cs c.2 p.1;rw[if_pos<|(aT vb.2 vc.2).mpr e2]at q2;rw[if_pos<|(aT va.2 vc.2).mpr<|e1.trans e2];exact IQ hg hp.tail ha hb hc h1 h2 h3 q1 q2;rw[if_neg λq=>e2<|(aT vb.2 vc.2).mp q]at q2;rw[e1,if_neg λq=>e2<|(aT vb.2 vc.2).mp q];exact q2;rw[if_neg λq=>e1<|(aT va.2 vb.2).mp q]at q1;by_cases e2:aj cs b.2 p.1=aj cs c.2 p.1;rw[<-e2,if_neg λq=>e1<|(aT va.2 vb.2).mp q];exact q1;rw[if_neg λq=>e2<|(aT vb.2 vc.2).mp q]at q2;obtain⟨e3,q3⟩:=DL va vb vc e1 e2 q1 q2;rw[if_neg λq=>e3<|(aT va.2 vc.2).mp q];exact q3
def Rg(cs:List<|Str×Str)(rs:List Row):Prop:=(∀r∈rs,Wg cs r.2)/\(rs.map Prod.fst).Nodup
theorem Rg.perm(h:Rg cs rs)(p:c9.Perm rs):Rg cs c9:={λr hr=>h.1 r<|p.mem_iff.mp hr,(p.map _).nodup_iff.mpr h.2}
theorem Rg.sub(h:Rg cs rs)(p:c9.Sublist rs):Rg cs c9:={λr hr=>h.1 r<|p.subset hr,h.2.sublist<|p.map _}
theorem L4(hg:Gd cs)(hp:Pin cs ps)(hr:Rg cs m)(hl:l.Pairwise λa b=>bG cs wy ps a b=true)(hm:m.Pairwise λa b=>bG cs wy ps a b=true)(pm:l.Perm m):l=m:=by refine List.Perm.eq_of_pairwise (le:=λa b=>bG cs wy ps a b=true) (λa b ha hb h1 h2=>?_) hl hm pm;have ha:=pm.mem_iff.mp ha;by_cases e:a.1=b.1;exact f9 (f:=Prod.fst) hr.2 ha hb e;have:=rZ (wy:=wy) hg hp (hr.1 a ha) (hr.1 b hb) e;rw[h1,h2]at this;cases this
end
theorem Cc{l m:List Nat}(hl:l.Nodup)(hm:m.Nodup)(h:∀x,x∈l↔x∈m):l.Perm m:=by induction l generalizing m with|nil=>(cases m with|nil=>exact .nil|cons y m=>exact absurd ((h y).mpr zm)<|by simp)|cons x l ih=>obtain⟨n1,n2⟩:=yj.mp hl;have hx:=(h x).mp zm;refine .trans ((ih n2 (hm.erase x) λy=>?_).cons x) (List.perm_cons_erase hx).symm;rw[hm.mem_erase_iff];constructor;intro hy;exact{λe=>n1<|e ▸ hy,(h y).mp<|zf _ hy};rintro⟨h1,h2⟩;rcases zj.mp ((h y).mpr h2) with e|e;exact absurd e h1;exact e
theorem map_range(d:α)(xs:List α):(List.range xs.length).map (λk=>xs.getD k d)=xs:=by refine List.ext_getElem (by simp) λi h1 h2=>?_;simp[zg h2]
theorem FC{α:Type}(d:α){xs:List α}{g:Nat->Nat}(lt:∀k,k<xs.length->g k<xs.length)(inj:∀i j,i<xs.length->j<xs.length->g i=g j->i=j):((List.range xs.length).map λk=>xs.getD (g k) d).Perm xs:=by
 have nd:((List.range xs.length).map g).Nodup:=by refine List.pairwise_map.mpr<|List.nodup_range.imp_of_mem λ{a b} ha hb n e=>n<|inj a b (zU.mp ha) (zU.mp hb) e
 have sub:∀x∈(List.range xs.length).map g,x∈List.range xs.length:=λx hx=>by obtain⟨k,hk,rfl⟩:=zh.mp hx;exact zU.mpr<|lt k<|zU.mp hk
 have p:((List.range xs.length).map g).Perm (List.range xs.length):=Cc nd List.nodup_range λx=>by refine{sub x,λhx=>?_};by_cases h:x∈(List.range xs.length).map g;exact h;exfalso;have:=sub_len nd (m:=(List.range xs.length).erase x) λy hy=>(List.Nodup.mem_erase_iff List.nodup_range).mpr {λe=>h<|e ▸ hy,sub y hy};rw[zb,List.length_erase_of_mem hx,List.length_range]at this;have:=zU.mp hx;lia
 have e:((List.range xs.length).map λk=>xs.getD (g k) d)=((List.range xs.length).map g).map λk=>xs.getD k d:=by rw[zy];rfl
 rw[e];have:=p.map λk=>xs.getD k d;rw[map_range]at this;exact this
theorem FD{α:Type}(d:α){xs:List α}{g:Nat->Nat}{r:α->α->Prop}(h:∀i j,i<j->j<xs.length->r (xs.getD (g i) d) (xs.getD (g j) d)):((List.range xs.length).map λk=>xs.getD (g k) d).Pairwise r:=by rw[List.pairwise_map,List.pairwise_iff_getElem];intro i j hi hj iX;rw[List.length_range]at hj;rw[List.getElem_range,List.getElem_range];exact h i j iX hj
noncomputable def r0:Row:=("",[])
theorem getD_map{rs:List Row}{j:Nat}(h:j<rs.length):(rs.map ai).getD j .av=ai (rs.getD j r0):=by rw[zG,zG,zi,zg h];rfl
theorem getD_mem{rs:List Row}{j:Nat}(h:j<rs.length):rs.getD j r0∈rs:=by rw[zG,zg h];exact List.getElem_mem h
theorem mI{rs:List Row}{b:Bool}{f:D->D}{g:Nat->Nat}(h:PQ b (λj=>f<|(rs.map ai).getD j .av) (rs.map ai).length g): ∃c9:List Row,(List.range (rs.map ai).length).map (λk=>(rs.map ai).getD (g k) .av)=c9.map ai/\c9.Perm rs/\∀q r:Row->Row->Prop,rs.Pairwise q->(∀x y,x∈rs->y∈rs->(if b=true then Uv (f<|ai y) (f<|ai x) else Uv (f<|ai x) (f<|ai y))->r x y)->(∀x y,x∈rs->y∈rs->f (ai x)=f (ai y)->q x y->r x y)->c9.Pairwise r:=by have hn:(rs.map ai).length=rs.length:=zb _;rw[hn]at h⊢;refine{(List.range rs.length).map λk=>rs.getD (g k) r0,?_,FC r0 h.lt h.inj,λq r hq h1 h2=>FD r0 λi j iX hj=>?_};rw[zy];exact zS λk hk=>getD_map<|h.lt k<|zU.mp hk;have gi:=h.lt i<|Nat.lt_trans iX hj;have gj:=h.lt j hj;have o:=h.ord i j iX hj;rw[getD_map gi,getD_map gj]at o;rcases o with o|⟨o,l⟩;exact h1 _ _ (getD_mem gi) (getD_mem gj) o;refine h2 _ _ (getD_mem gi) (getD_mem gj) o ?_;have:=List.pairwise_iff_getElem.mp hq (g i) (g j) gi gj l;rw[zG,zG,zg gi,zg gj];exact this
section
variable{cs:List (Str×Str)}{wy:Str}
noncomputable def valued(cs:List<|Str×Str)(p:Part)(r:Row):Bool:=!ah (aj cs r.2 p.1)
theorem L5(h1:ah x=true)(h2:ah y=true):jV x y=true:=by rw[cZ h1,cZ h2];rfl
theorem wo(h:ah x≠ah y):jV x y=false:=by cases x<;>cases y<;>first|rfl|exact absurd rfl h
theorem FE{ps:List Part}{p:Part}{L V:List Row}(hL:L.Pairwise λa b=>bG cs wy ps a b=true)(hV:V.Perm<|L.filter<|valued cs p)(Wt:V.Pairwise λa b=>bG cs wy (p::ps) a b=true): (if p.2.2 ="first" then L.filter (λr=>!valued cs p r)++V else V++L.filter (λr=>!valued cs p r)).Perm L/\(if p.2.2 ="first" then L.filter (λr=>!valued cs p r)++V else V++L.filter (λr=>!valued cs p r)).Pairwise λa b=>bG cs wy (p::ps) a b=true:=by
 have hN:(L.filter λr=>!valued cs p r).Pairwise λa b=>bG cs wy (p::ps) a b=true:=by refine(hL.sublist yw).imp_of_mem λ{a b} ha hb h=>?_;have ha:=(yo.mp ha).2;have hb:=(yo.mp hb).2;unfold valued at ha hb;rw[Bool.not_not]at ha hb;show(if jV (aj cs a.2 p.1) (aj cs b.2 p.1)=true then bG cs wy ps a b else _)=true;rw[if_pos<|L5 ha hb];exact h
 have NC:∀a∈L.filter (λr=>!valued cs p r),∀b∈V,ah (aj cs a.2 p.1)=true/\ah (aj cs b.2 p.1)=false:=λa ha b hb=>by have ha:=(yo.mp ha).2;have hb:=(yo.mp<|hV.mem_iff.mp hb).2;unfold valued at ha hb;rw[Bool.not_not]at ha;exact{ha,by simpa using hb}
 have pm:(L.filter (λr=>!valued cs p r)++V).Perm L:=(List.Perm.append_left _ hV).trans<|List.perm_append_comm.trans<|List.filter_append_perm (valued cs p) L;by_cases e:p.2.2 ="first";rw[if_pos e];refine{pm,List.pairwise_append.mpr {hN,Wt,λa ha b hb=>?_}};obtain⟨na,nb⟩:=NC a ha b hb;show(if jV (aj cs a.2 p.1) (aj cs b.2 p.1)=true then bG cs wy ps a b else cB p (aj cs a.2 p.1) (aj cs b.2 p.1))=true;rw[wo<|by rw[na,nb];nofun,if_neg zd];unfold cB;rw[na,nb,if_pos<|by rfl,zw e];rfl;rw[if_neg e];refine{List.perm_append_comm.trans pm,List.pairwise_append.mpr {Wt,hN,λa ha b hb=>?_}};obtain⟨na,nb⟩:=NC b hb a ha;show(if jV (aj cs a.2 p.1) (aj cs b.2 p.1)=true then bG cs wy ps a b else cB p (aj cs a.2 p.1) (aj cs b.2 p.1))=true;rw[wo<|by rw[na,nb];nofun,if_neg zd];unfold cB;rw[na,nb,if_pos<|by rfl,zu e];rfl
theorem Ad(hg:Gd cs)(hp:Pin cs ps):∀{F:List Row},Rg cs (x::F)->(F.Pairwise λa b=>bG cs wy ps a b=true)->(F.take (F.filter λy=>bG cs wy ps y x).length++x::F.drop (F.filter λy=>bG cs wy ps y x).length).Pairwise λa b=>bG cs wy ps a b=true|[],_,_=>by simp|y::F,hr,h=>by obtain⟨h1,h2⟩:=List.pairwise_cons.mp h;have nd:=hr.2;rw[zx,zx]at nd;obtain⟨n1,n2⟩:=yj.mp nd;obtain⟨n3,n4⟩:=yj.mp n2;have nxy:y.1≠x.1:=λe=>n1 (by rw[<-e];exact zm);have wx:=hr.1 x zm;have wy':=hr.1 y<|zf _ zm;cases e:bG cs wy ps y x with|true=>(rw[yM,if_pos e,zQ,List.take_succ_cons,List.drop_succ_cons,List.cons_append,List.pairwise_cons];have iR:Rg cs (x::F):=hr.sub<|(List.sublist_cons_self y F).cons₂ x;refine{λz hz=>?_,Ad hg hp iR h2};rcases zP.mp hz with hz|hz;exact h1 z<|List.mem_of_mem_take hz;rcases zj.mp hz with rfl|hz;exact e;exact h1 z<|List.mem_of_mem_drop hz)|false=>have none:∀z∈y::F,bG cs wy ps z x=false:=λz hz=>(by rcases zj.mp hz with rfl|hz;exact e;cases q:bG cs wy ps z x with|false=>rfl|true=>have nyz:y.1≠z.1:=λe=>n3 (by rw[e];exact zh.mpr ⟨z,hz,rfl⟩);have ZA:z.1≠x.1:=λe=>n1 (by rw[<-e];exact zf _<|zh.mpr ⟨z,hz,rfl⟩);have wz:=hr.1 z<|zf _<|zf _ hz;rw[IQ hg hp wy' wz wx nyz ZA nxy (h1 z hz) q]at e;cases e);have e0:(y::F).filter (λy=>bG cs wy ps y x)=[]:=List.filter_eq_nil_iff.mpr λz hz=>(by rw[none z hz];exact zd);rw[e0];show(x::y::F).Pairwise _;refine List.pairwise_cons.mpr {λz hz=>?_,h};have ZA:z.1≠x.1:=λe=>n1 (by rw[<-e];exact zh.mpr ⟨z,hz,rfl⟩);rw[rZ hg hp (hr.1 z<|zf _ hz) wx ZA,none z hz];rfl
theorem IS(x:α)(F:List α)(m:Nat):(F.take m++x::F.drop m).Perm (F++[x]):=by refine(List.perm_middle).trans<|List.Perm.trans ?_ List.perm_append_comm;rw[List.take_append_drop];exact .refl _
end
noncomputable abbrev qK:Str:="sorted_by_keys.<locals>.<lambda>"
noncomputable abbrev qV:Str:="sorted_by_values.<locals>.<lambda>"
noncomputable def Qv:D->D|.tup (x::_)=>x|_=>.av
noncomputable def Cd(cs:List<|Str×Str)(z:Str):D->D|.tup [_,.tup ws]=>aj cs ws z|_=>.av
inductive IT (t:gY) (ds:List D) (S:aw) (R:KD) (Z:KX):Prop where
 |mk (cs:List<|Str×Str) (l:Addr) (rs:List Row) (wy:Str) (h0:ds=[.ref l,.str wy]) (h1:mC wy=true) (h2:S l=some (.lst<|rs.map ai)) (h3:rs.length<64) (h4:Rg cs rs) (h5:S t.aP=some (.tab qK)) (h6:∀(c9:List Row)(p:Addr),c9.Perm rs->(c9.Pairwise λa b=>bG cs wy [] a b=true)->S p=none->R (.ref p) (S.set p<|.lst<|c9.map ai))
theorem cW{S S2:aw}{p:Addr}{c:Ce}(h:Sub S S2):Sub (S.set p c) (S2.set p c):=λb e hb=>by by_cases q:b=p;subst q;rw[aa]at hb⊢;exact hb;rw[ag q]at hb⊢;exact h b e hb
theorem bN{S S2:aw}{p:Addr}(h:Sub S S2)(e:S2 p=none):S p=none:=by cases q:S p with|none=>rfl|some c=>rw[h p c q]at e;cases e
theorem wq{z:Str}(h:mC z=true):z ="up"\/z ="down":=by unfold mC at h;simpa using h
theorem Rg.unlike(h:Rg cs rs):rs.Pairwise λa b=>a.1≠b.1:=List.pairwise_map.mp h.2
theorem mJ(T:Txt w K mg t)(B:Bm mg base):Ok P w base T.fu 4 (IT t):=by
 refine T.fu.F.okC (k:=3) mj (by rintro ds S R Z ⟨_,_,_,_,e,_⟩;rw[e];rfl) ?_;rintro fN A outer s H E ds S R Z oo hr ⟨cs,l,rs,wy,e,JN,hl,hn,iR,ht,q⟩;subst e;have AI:xM ((rs.map ai).map Qv):=.inl {rs.map Prod.fst,by rw[zy,zy];rfl};have un:rs.Pairwise λa b=>a.1≠b.1:=iR.unlike;have MA:(rs.map ai).length<64:=by rw[zb];exact hn
 refine{_,(sc (si (bf aU hr.u (dv 1) ds) (s1<|sr<|Nk (N:=["row"]) (src:=[none]) (oo.trans T.fW) ⟨T.dF,B⟩ hr (iT (ae gB) ["rows","way"] rfl rfl<|by trivial) (dv 0) (λ_ _ _ _=>(ix (hr.in1.in1.deeper _).units (dv 0) di)) T.gF eW) s0)<|s1<|sr<|Ux (N:=["row"]) (src:=[none]) (oo.trans T.fW) ⟨T.dF,B⟩ hr (iT (ae gB) ["rows","way"] rfl rfl<|by trivial) (dv 0) (λ_ _ _ _=>(ix (hr.in1.in1.deeper _).units (dv 0) di)) T.gF eW),?_};rcases wq JN with rfl|rfl;refine !!⟨br (by trivial) !{l,rs.map ai,Qv,rfl,hl,MA,ht,AI,λx hx S' hs Qk hQ=>?_,λg S2 p hg hs hp=>?_}⟩;obtain⟨r,hr,rfl⟩:=zh.mp hx;exact !!⟨hQ S'<|.refl _⟩;obtain⟨c9,e,pm,h⟩:=mI hg;rw[e];refine{S.set p<|.lst<|c9.map ai,cW hs,q c9 p pm (h _ _ un (λx y hx hy eL=>?_) λx y hx hy e ne=>absurd (D.str.inj e) ne)<|bN hs hp};show(nh x.1 y.1==decide (("up": Str) ="up"))=true;have:nh x.1 y.1=true:=zw eL;rw[this];rfl;refine !!⟨gZ (by trivial) !{l,rs.map ai,Qv,rfl,hl,MA,ht,AI,λx hx S' hs Qk hQ=>?_,λg S2 p hg hs hp=>?_}⟩;obtain⟨r,hr,rfl⟩:=zh.mp hx;exact !!⟨hQ S'<|.refl _⟩;obtain⟨c9,e,pm,h⟩:=mI hg;rw[e];refine{S.set p<|.lst<|c9.map ai,cW hs,q c9 p pm (h _ _ un (λx y hx hy eL=>?_) λx y hx hy e ne=>absurd (D.str.inj e) ne)<|bN hs hp};show(nh x.1 y.1==decide (("down": Str) ="up"))=true;have:nh y.1 x.1=true:=zw eL;by_cases e:x.1=y.1;rw[e,DJ]at this;cases this;rw[jX e]at this;have h2:nh x.1 y.1=false:=by simpa using this
 rw[h2,zu<|by trivial];rfl
inductive IU (t:gY) (ds:List D) (S:aw) (R:KD) (Z:KX):Prop where
 |mk (cs:List<|Str×Str) (ps:List Part) (p:Part) (wy:Str) (l:Addr) (rs:List Row) (h0:ds=[.tup<|cs.map ay,p3 p,.ref l]) (h1:Gd cs) (h2:Pin cs<|p::ps) (h3:mC p.2.1=true) (h4:S l=some (.lst<|rs.map ai)) (h5:rs.length<64) (h6:Rg cs rs) (h7:(∀r∈rs,valued cs p r=true)) (h8:(rs.Pairwise λa b=>bG cs wy ps a b=true)) (h9:S t.aH=some (.tab qV)) (h10:∀(c9:List Row)(a:Addr),c9.Perm rs->(c9.Pairwise λa b=>bG cs wy (p::ps) a b=true)->S a=none->R (.ref a) (S.set a<|.lst<|c9.map ai))
theorem Cf{α:Type}{f:α->D}{β:Type}{mk:β->D} : ∀{l:List α},(∀x∈l,∃b,f x=mk b)->∃bs:List β,l.map f=bs.map mk|[],_=>{[],rfl}|x::l,h=>by obtain⟨b,e⟩:=h x zm;obtain⟨bs,e2⟩:=Cf λy hy=>h y<|zf _ hy;exact{b::bs,by rw[zx,e,e2];rfl}
theorem FF{cs:List<|Str×Str}{p:Part}{k:Str}{rs:List Row}(hk:∀r∈rs,Vg k<|aj cs r.2 p.1)(hv:∀r∈rs,valued cs p r=true):xM ((rs.map ai).map<|Cd cs p.1):=by
 rw[zy];have nn:∀r∈rs,aj cs r.2 p.1≠.av:=λr hr=>aX (by have:=hv r hr;unfold valued at this;simpa using this);by_cases e:k ="number";refine .inr<|Cf λr hr=>?_;have h1:=hk r hr;have h2:=nn r hr;show ∃b,aj cs r.2 p.1=.int b;generalize aj cs r.2 p.1=v at h1 h2;cases v with|av=>exact absurd rfl h2|int i=>exact⟨i,rfl⟩|str z=>(have h1:=h1.1;unfold iQ at h1;simp only[ah,yV]at h1;rw[if_pos e]at h1;cases h1)|_=>cases h1.2
 refine .inl<|Cf λr hr=>?_;have h1:=hk r hr;have h2:=nn r hr;show ∃b,aj cs r.2 p.1=.str b;generalize aj cs r.2 p.1=v at h1 h2;cases v with|av=>exact absurd rfl h2|str i=>exact⟨i,rfl⟩|int z=>(have h1:=h1.1;unfold iQ at h1;simp only[ah,yV]at h1;rw[if_neg e]at h1;cases h1)|_=>cases h1.2
theorem IV{cs:List<|Str×Str}{wy:Str}{ps:List Part}{p:Part}{x y:Row}(nx:valued cs p x=true)(ny:valued cs p y=true)(ne:jV (aj cs x.2 p.1) (aj cs y.2 p.1)=false)(h:(tT (aj cs x.2 p.1) (aj cs y.2 p.1)==decide (p.2.1 ="up"))=true):bG cs wy (p::ps) x y=true:=by
 unfold valued at nx ny;have nx:ah (aj cs x.2 p.1)=false:=by simpa using nx
 have ny:ah (aj cs y.2 p.1)=false:=by simpa using ny
 show(if jV (aj cs x.2 p.1) (aj cs y.2 p.1)=true then bG cs wy ps x y else cB p (aj cs x.2 p.1) (aj cs y.2 p.1))=true;rw[ne,if_neg zd];unfold cB;rw[nx,ny,if_neg<|by simp];exact h
theorem IW{x y:D}(h:tT x y=true):jV x y=false:=by cases x with|int i=>(cases y with|int j=>(exact zu λe=>by rw[e,DK]at h;cases h)|_=>cases h)|str i=>(cases y with|str j=>(exact zu λe=>by rw[e,DK]at h;cases h)|_=>cases h)|_=>cases h
theorem IX(x y:D):jV x y=jV y x:=by cases x<;>cases y<;>first|rfl|exact yN.mpr ⟨Eq.symm,Eq.symm⟩
theorem kj(T:Txt w K mg t)(B:Bm mg base):Ok P w base T.dP 6 (IU t):=by
 refine T.dP.F.okC (k:=5) ke (by rintro ds S R Z ⟨_,_,_,_,_,_,e,_⟩;rw[e];rfl) ?_;rintro fN A outer s H E ds S R Z oo hr ⟨cs,ps,p,wy,l,rs,e,hg,IY,JN,hl,hn,iR,hv,U9,ht,q⟩;subst e;obtain⟨c,hc,ec⟩:=IY p zm;obtain⟨k,hk⟩:=qm hg IY;have AI:xM ((rs.map ai).map<|Cd cs p.1):=FF (λr hr=>hk _<|iR.1 r hr) hv;have MA:(rs.map ai).length<64:=by rw[zb];exact hn
 have same:∀x y:Row,x∈rs->y∈rs->Cd cs p.1 (ai x)=Cd cs p.1 (ai y)->bG cs wy ps x y=true->bG cs wy (p::ps) x y=true:=λx y hx hy e h=>by show(if jV (aj cs x.2 p.1) (aj cs y.2 p.1)=true then bG cs wy ps x y else _)=true;rw[if_pos<|(aT (hk _<|iR.1 x hx).2 (hk _<|iR.1 y hy).2).mpr e];exact h
 have step:∀x,x∈rs.map ai->∀Qk:KD,∀S':aw,Qk (Cd cs p.1 x) S'->∀Zq,lB [D.tup<|cs.map ay,x,.str p.1] S' Qk Zq:=λx hx Qk S' hQ _=>by obtain⟨r,hr,rfl⟩:=zh.mp hx;exact{cs,r,c,by rw[ec],hg,iR.1 r hr,hc,by rw[ec];exact hQ}
 refine{_,(sc (si (bf aU hr.u (ix hr.u (dv 1) di) ds) (s1<|sr<|Nk (N:=["row","columns","part"]) (src:=[none,some 0,some 1]) (oo.trans T.eQ) ⟨T.cY,B⟩ hr (iT (ae fq) ["columns","part","rows"] rfl rfl<|by trivial) (dv 2) (λ_ _ _ _=>(cf ((dA T).mono<|by decide) (hr.in1.in1.deeper _) T.cz.m T.cz.k T.cz.b d0<|al 1<|al 0<|ac (ix (hr.in1.in1.deeper _).units (dv 2) di) an)) T.gF eW) s0)<|s1<|sr<|Ux (N:=["row","columns","part"]) (src:=[none,some 0,some 1]) (oo.trans T.eQ) ⟨T.cY,B⟩ hr (iT (ae fq) ["columns","part","rows"] rfl rfl<|by trivial) (dv 2) (λ_ _ _ _=>(cf ((dA T).mono<|by decide) (hr.in1.in1.deeper _) T.cz.m T.cz.k T.cz.b d0<|al 1<|al 0<|ac (ix (hr.in1.in1.deeper _).units (dv 2) di) an)) T.gF eW),?_};rcases wq JN with e1|e1;refine !!!⟨br (by rw[e1];decide +kernel) !{l,rs.map ai,Cd cs p.1,rfl,hl,MA,ht,AI,λx hx S' hs Qk hQ=>!!!!⟨step x hx _ S' (hQ S'<|.refl _) _⟩,λg S2 a hg hs ha=>?_}⟩;obtain⟨c9,e,pm,h⟩:=mI hg;rw[e];refine{S.set a<|.lst<|c9.map ai,cW hs,q c9 a pm (h _ _ U9 (λx y hx hy eL=>?_) same)<|bN hs ha};have eL:=IP (a:=aj cs x.2 p.1) (b:=aj cs y.2 p.1) eL;exact IV (hv x hx) (hv y hy) (IW eL) (by rw[eL,zw e1];rfl);refine !!!⟨gZ (by rw[e1];decide +kernel) !{l,rs.map ai,Cd cs p.1,rfl,hl,MA,ht,AI,λx hx S' hs Qk hQ=>!!!!⟨step x hx _ S' (hQ S'<|.refl _) _⟩,λg S2 a YF hs ha=>?_}⟩;obtain⟨c9,e,pm,h⟩:=mI YF;rw[e];refine{S.set a<|.lst<|c9.map ai,cW hs,q c9 a pm (h _ _ U9 (λx y hx hy eL=>?_) same)<|bN hs ha};have eL:=IP (a:=aj cs y.2 p.1) (b:=aj cs x.2 p.1) eL;have ne:=IW eL;refine IV (hv x hx) (hv y hy) (by rw[IX];exact ne) ?_;have nn:∀r∈rs,aj cs r.2 p.1≠.av:=λr hr=>aX (by have:=hv r hr;unfold valued at this;simpa using this);have nY:aj cs x.2 p.1≠aj cs y.2 p.1:=λe=>by have:=(aT (hk _<|iR.1 y hy).2 (hk _<|iR.1 x hx).2).mpr e.symm;rw[ne]at this;cases this
 have:=mH (hk _<|iR.1 x hx) (hk _<|iR.1 y hy) (nn x hx) (nn y hy) nY;rw[eL]at this;have h2:tT (aj cs x.2 p.1) (aj cs y.2 p.1)=false:=by simpa using this
 rw[h2,e1,zu<|by trivial];rfl
def Tb(t:gY)(S:aw):Prop:=S t.aP=some (.tab qK)/\S t.aH=some (.tab qV)
theorem Tb.sub{t:gY}{S S':aw}(h:Tb t S)(s:Sub S S'):Tb t S':={s _ _ h.1,s _ _ h.2}
noncomputable def DM(b:Bool)(cs:List<|Str×Str)(p:Part):D->Bool|.tup [_,.tup ws]=>ah (aj cs ws p.1)==b|_=>false
theorem n_{rs:List Row}{f:D->Bool}{g:Row->Bool}(h:∀r,f (ai r)=g r):((rs.map ai).filter f).map id=(rs.filter g).map ai:=by rw[List.map_id,List.filter_map];exact congrArg (List.map ai)<|List.filter_congr λr _=>h r
inductive IZ (t:gY) (ds:List D) (S:aw) (R:KD) (Z:KX):Prop where
 |mk (cs:List<|Str×Str) (ps:List Part) (p:Part) (wy:Str) (l:Addr) (rs:List Row) (h0:ds=[.tup<|cs.map ay,p3 p,.ref l]) (h1:Gd cs) (h2:Pin cs<|p::ps) (h3:mC p.2.1=true) (h4:S l=some (.lst<|rs.map ai)) (h5:rs.length<64) (h6:Rg cs rs) (h7:(rs.Pairwise λa b=>bG cs wy ps a b=true)) (h8:Tb t S) (h9:∀(c9:List Row)(a:Addr),c9.Perm rs->(c9.Pairwise λa b=>bG cs wy (p::ps) a b=true)->S a=none->R (.ref a) (S.set a<|.lst<|c9.map ai))
theorem mK(T:Txt w K mg t)(B:Bm mg base):Ok P w base T.fw 7 (IZ t):=by
 refine T.fw.F.bV cH ?_;obtain⟨cs,ps,p,wy,l,rs,e,hg,IY,JN,hl,hn,iR,U9,ht,q⟩;obtain⟨c,hc,ec⟩:=IY p zm;have hz:(rs.map ai).length<=1000:=by rw[zb];lia
 refine{_,(sc (Hr (i:=3) (N:=["row","columns","part"]) (src:=[none,some 0,some 1]) cH.nd (iT (ae gC) ["columns","part","rows","without","valued"] rfl rfl<|by trivial) (il<|dv 2) (oF<|show(["row","columns","part"]:List Str).Nodup by trivial) (aQ rfl) aR (λ_ _ _ _ _=>(if1<|bf fh hr.u (aY T.cz (dA T) hr<|al 1<|al 0<|ac (ix hr.u (dv 2) di) an) dn)) λ_ _ _ _ _=>(dv 0))<|sc (Hr (i:=4) (N:=["row","columns","part"]) (src:=[none,some 0,some 1]) cH.nd (iT (ae gC) ["columns","part","rows","without","valued"] rfl rfl<|by trivial) (il<|dv 2) (oF<|show(["row","columns","part"]:List Str).Nodup by trivial) (aQ rfl) aR (λ_ _ _ _ _=>(if1<|bf kP hr.u (aY T.cz (dA T) hr<|al 1<|al 0<|ac (ix hr.u (dv 2) di) an) dn)) λ_ _ _ _ _=>(dv 0))<|sc (cG (i:=4) cH.nd<|aY T.dP (kj T B) hr<|al 0<|al 1<|al 4 an)<|s1<|sr<|Rh (bf aU hr.u (ix hr.u (dv 1) di) ds) (bo bz hr.u (dv 3)<|dv 4)<|bo bz hr.u (dv 4)<|dv 3),?_};refine !{_,hl,?_};refine e_ (DM true cs p) id hl hz (λd hd Q Q' hQ Gk=>?_) λp1 sN=>?_;obtain⟨r,hr,rfl⟩:=zh.mp hd;refine !!!!{cs,r,c,(show[D.tup<|cs.map ay,ai r,D.str p.1]=[_,_,D.str c.1] by rw[ec]),hg,iR.1 r hr,hc,?_};rw[ec];refine{_,rfl,bT (λh=>!⟨hQ ?_⟩) λh=>Gk ?_};show(ah (aj cs r.2 p.1)==true)=true;rw[show ah (aj cs r.2 p.1)=true from h];rfl;show(ah (aj cs r.2 p.1)==true)=false;rw[show ah (aj cs r.2 p.1)=false from h];rfl;have e1:((rs.map ai).filter<|DM true cs p).map id=(rs.filter λr=>!valued cs p r).map ai:=n_ λr=>by show(ah (aj cs r.2 p.1)==true)=!valued cs p r;unfold valued;cases ah (aj cs r.2 p.1)<;>rfl
 rw[show({rs.map ai,λS=>xw S (.ref l)<|rs.map ai}:oB).xs=rs.map ai from rfl,e1];have Qw:Sub S (S.set p1<|.lst<|(rs.filter λr=>!valued cs p r).map ai):=.new sN;have h1:(S.set p1<|.lst<|(rs.filter λr=>!valued cs p r).map ai) p1=some (.lst<|(rs.filter λr=>!valued cs p r).map ai):=aa;generalize S.set p1 (.lst<|(rs.filter λr=>!valued cs p r).map ai)=S1 at Qw h1⊢;have JM:=Qw _ _ hl;refine !{_,JM,?_};refine e_ (DM false cs p) id JM hz (λd hd Q Q' hQ Gk=>?_) λp2 eV=>?_;obtain⟨r,hr,rfl⟩:=zh.mp hd;refine !!!!{cs,r,c,(show[D.tup<|cs.map ay,ai r,D.str p.1]=[_,_,D.str c.1] by rw[ec]),hg,iR.1 r hr,hc,?_};rw[ec];refine{_,rfl,bT (λh=>!⟨hQ ?_⟩) λh=>Gk ?_};show(ah (aj cs r.2 p.1)==false)=true;rw[show ah (aj cs r.2 p.1)=false from nt h];rfl;show(ah (aj cs r.2 p.1)==false)=false;rw[show ah (aj cs r.2 p.1)=true from nf h];rfl;have e2:((rs.map ai).filter<|DM false cs p).map id=(rs.filter<|valued cs p).map ai:=n_ λr=>by show(ah (aj cs r.2 p.1)==false)=valued cs p r;unfold valued;cases ah (aj cs r.2 p.1)<;>rfl
 rw[show({rs.map ai,λS=>xw S (.ref l)<|rs.map ai}:oB).xs=rs.map ai from rfl,e2];have JG:Sub S (S1.set p2<|.lst<|(rs.filter<|valued cs p).map ai):=Qw.trans<|.new eV;have ZC:(S1.set p2<|.lst<|(rs.filter<|valued cs p).map ai) p1=_:=(ag<|gq h1 eV).trans h1;have h22:(S1.set p2<|.lst<|(rs.filter<|valued cs p).map ai) p2=_:=aa;generalize S1.set p2 (.lst<|(rs.filter<|valued cs p).map ai)=S2 at JG ZC h22⊢;have fl:(rs.filter<|valued cs p).length<=rs.length:=List.length_filter_le _ _;have fl2:(rs.filter λr=>!valued cs p r).length<=rs.length:=List.length_filter_le _ _;refine !!!{cs,ps,p,wy,p2,rs.filter<|valued cs p,rfl,hg,IY,JN,h22,by lia,iR.sub yw,λr hr=>(yo.mp hr).2,U9.sublist yw,(ht.sub JG).2,λV p3 hV Wt Wr=>?_};obtain⟨pm,pw⟩:=FE U9 hV Wt;have ZD:(S2.set p3<|.lst<|V.map ai) p1=_:=(ag<|gq ZC Wr).trans ZC;have ZE:(S2.set p3<|.lst<|V.map ai) p3=some (.lst<|V.map ai):=aa;have U_:Sub S (S2.set p3<|.lst<|V.map ai):=JG.trans<|.new Wr;generalize S2.set p3 (.lst<|V.map ai)=S3 at ZD ZE U_⊢;have hVl:=hV.length_eq;refine !!!⟨bT (λh=>?_) λh=>?_⟩;rw[if_pos<|zB h]at pm pw;refine !!{_,_,ZD,ZE,sm<|by rw[zb,zb];lia,λp4 ZF=>?_};rw[<-zK];exact{_,cW U_,q _ p4 pm pw<|bN U_ ZF};rw[if_neg<|yd h]at pm pw;refine !!{_,_,ZE,ZD,sm<|by rw[zb,zb];lia,λp4 ZF=>?_};rw[<-zK];exact{_,cW U_,q _ p4 pm pw<|bN U_ ZF}
structure Og(cs:List (Str×Str))(ps:List Part)(wy:Str):Prop where
 pin:Pin cs ps
 ZG:∀p∈ps,mC p.2.1=true
 way:mC wy=true
 ok:B_ cs ps wy=true
 tx:∀p∈ps,Zw p
noncomputable def cw(ps:List Part)(wy:Str):D:=.tup [.tup<|ps.map p3,.str wy]
inductive ND (t:gY) (ds:List D) (S:aw) (R:KD) (Z:KX):Prop where
 |mk (cs:List<|Str×Str) (ps:List Part) (wy:Str) (l:Addr) (rs:List Row) (h0:ds=[.tup<|cs.map ay,cw ps wy,.ref l]) (h1:Gd cs) (h2:Og cs ps wy) (h3:S l=some (.lst<|rs.map ai)) (h4:rs.length<64) (h5:Rg cs rs) (h6:Tb t S) (h7:∀(c9:List Row)(a:Addr),c9.Perm rs->(c9.Pairwise λa b=>bG cs wy ps a b=true)->S a=none->R (.ref a) (S.set a<|.lst<|c9.map ai))
structure Vw(C:Addr)(S:aw)(a:Addr)(cs:List (Str×Str))(m:D)(rows:List Row):Prop where
 sh:∃F dl rs,cA C S a F cs dl rs/\rs.length<64/\tP dl.length m≠none/\∀i ss,tP dl.length m=some i->ss.Perm (rs.map (·.1))->PyProof.Rows.sortedS ss=true->dZ rs i ss=rows.map ai
 mo:Gt S m
 len:rows.length<64
 rg:Rg cs rows
theorem cA.sub(b:Sub S S')(h:cA C S a F cs dl rs):cA C S' a F cs dl rs:=by obtain⟨ld,lr,ra,h,e⟩:=h;exact{ld,lr,ra,{b _ _ h.ins,b _ _ h.y1,b _ _ h.run,λr hr=>b _ _<|h.cell r hr,h.kn,h.an,h.sz},e}
theorem Ae(T:Txt w K mg t)(B:Bm mg base):Ok P w base T.rB 8 (ND t):=by
 refine T.rB.F.bV f6 ?_;obtain⟨cs,ps,wy,l,rs,e,hg,ho,hl,hn,iR,ht,q⟩;refine{_,(sc (cG (i:=3) f6.nd<|aY T.fu (mJ T B) hr<|al 2<|ac (ix hr.u (dv 1) di) an)<|sc (ux<|C9 (irt T.rm<|ac (ix hr.u (dv 1) di) an) (gn (i:=4) f6.nd)<|s1<|cG (i:=3) f6.nd<|aY T.fw (mK T B) hr<|al 0<|al 4<|al 3 an)<|s1<|sr<|dv 3),?_};refine !!!{cs,l,rs,wy,rfl,ho.way,hl,hn,iR,ht.1,λrs1 p1 pm1 pw1 sN=>?_};have ZH:ps.reverse.length=ps.length:=yD;refine{λaB S'=>∃(o:Option D)(p:Addr)(c9:List Row),aB=[some<|.tup<|cs.map ay,some<|cw ps wy,some<|.ref l,some<|.ref p,o]/\S p=none/\S' p=some (.lst<|c9.map ai)/\Sub S S'/\c9.Perm rs/\c9.Pairwise λa b=>bG cs wy ps a b=true,?_,?_};refine !!!⟨?_⟩;refine{λi aB S'=>∃(o:Option D)(p:Addr)(c9:List Row),aB=[some<|.tup<|cs.map ay,some<|cw ps wy,some<|.ref l,some<|.ref p,o]/\S p=none/\S' p=some (.lst<|c9.map ai)/\Sub S S'/\c9.Perm rs/\c9.Pairwise λa b=>bG cs wy (ps.reverse.take i).reverse a b=true,{none,p1,rs1,rfl,sN,aa,.new sN,pm1,pw1},λ_ _ _ _=>trivial,?_,?_};rintro i d aB S' hd ⟨o,p,c9,rfl,hp,cP,sb,pm,pw⟩;have hd:(ps.map p3).reverse[i]?=some d:=hd;rw[<-List.map_reverse,zi]at hd;cases e5:ps.reverse[i]? with|none=>(rw[e5]at hd;cases hd)|some pt=>rw[e5]at hd;cases hd;have Pg:pt∈ps:=List.mem_reverse.mp<|zE e5;have et:(ps.reverse.take<|i+1).reverse=pt::(ps.reverse.take i).reverse:=(by rw[List.take_add_one,e5,List.reverse_append];rfl);have Q7:Pin cs (pt::(ps.reverse.take i).reverse):=λx hx=>(by rcases zj.mp hx with rfl|hx;exact ho.pin _ Pg;exact ho.pin _<|List.mem_reverse.mp<|List.mem_of_mem_take<|List.mem_reverse.mp hx);refine !!!{cs,(ps.reverse.take i).reverse,pt,wy,p,c9,rfl,hg,Q7,ho.ZG pt Pg,cP,by rw[pm.length_eq];exact hn,iR.perm pm,pw,ht.sub sb,λYT p2 pm2 pw2 eV=>?_};rw[<-et]at pw2;exact{_,p2,YT,rfl,bN sb eV,aa,sb.trans<|.new eV,pm2.trans pm,pw2}
 rintro aB S' ⟨o,p,c9,rfl,hp,cP,sb,pm,pw⟩;have pw:c9.Pairwise λa b=>bG cs wy (ps.reverse.take (ps.map p3).reverse.length).reverse a b=true:=pw;rw[yD,zb,List.take_of_length_le<|Nat.le_of_eq ZH,List.reverse_reverse]at pw;exact fo ⟨o,p,c9,rfl,hp,cP,sb,pm,pw⟩;rintro aB S' ⟨o,p,c9,rfl,hp,cP,sb,pm,pw⟩;refine !{S.set p<|.lst<|c9.map ai,λb c hb=>?_,q c9 p pm pw hp};by_cases e:b=p;subst e;rw[aa]at hb;cases hb;exact cP;rw[ag e]at hb;exact sb b c hb
noncomputable def Af(cs:List<|Str×Str)(d:D):D->Bool|.tup [.str k,.tup ws]=>bj cs (k,ws) 7 d|_=>false
inductive I0 (t:gY) (ds:List D) (S:aw) (R:KD) (Z:KX):Prop where
 |mk (a cs d m rows) (h0:ds=[.ref a,d,m]) (h1:Gd cs) (h2:Sq cs d) (h3:Vw t.ao S a cs m rows) (h4:∀p,S p=none->R (.ref p) (S.set p<|.lst<|(rows.filter λr=>bj cs r 7 d).map ai))
theorem pP(T:Txt w K mg t):Ok P w base T.ib 11 (I0 t):=by refine T.ib.F.bV iE ?_;obtain⟨a,cs,d,m,rows,e,hg,hd,hv,q⟩;obtain⟨F,dl,rs,hS,hn,Wu,Wv⟩:=hv.sh;obtain⟨ld,lr,ra,h,_⟩:=id hS;refine{_,(sc (cG (i:=3) iE.nd<|qZ (dv 0) T.ak T.aS (b9 T) hr)<|s1<|sr<|sZ (N:=["row","columns","sieve"]) (src:=[none,some 3,some 1]) (iT (ae q8) ["shelf","sieve","moment","columns"] rfl rfl<|by trivial) (il<|wU (dv 0) T.ak T.dD (uJ T) hr<|al 2 an) (oF<|show(["row","columns","sieve"]:List Str).Nodup by trivial) (aQ rfl) aR (λ_ _ _ _ _=>(if1<|tv<|aY T.passes (jW T 7) hr<|al 1<|al 2<|al 0 an)) λ_ _ _ _ _=>(dv 0)),?_};refine !{a,_,rfl,h.ins,rfl,a,F,cs,dl,rs,rfl,hS,?_};refine !{a,_,rfl,h.ins,rfl,_,rfl,a,F,cs,dl,rs,m,rfl,hS,hn,hv.mo,λi ss hi hp hs p kh=>?_,λh=>absurd h Wu};rw[Wv i ss hi hp hs];refine{_,aa,?_};refine e_ (Af cs d) id aa (by show(rows.map ai).length<=1000;rw[zb];have:=hv.len;lia) (λx hx Q Q' hQ Gk=>?_) λp2 eV=>?_;obtain⟨r,hr,rfl⟩:=zh.mp hx;refine !!!{cs,d,r,rfl,hg,hd.1,hv.rg.1 r hr,_,rfl,bT (λh=>!⟨hQ h⟩) λh=>Gk h};have e1:((rows.map ai).filter<|Af cs d).map id=(rows.filter λr=>bj cs r 7 d).map ai:=n_ λr=>rfl;rw[show({rows.map ai,λS=>xw S (.ref p)<|rows.map ai}:oB).xs=rows.map ai from rfl,e1];exact{_,cW<|.new kh,q p2<|bN (.new kh) eV}
inductive Va (t:gY) (ds:List D) (S:aw) (R:KD) (Z:KX):Prop where
 |mk (a cs ps wy d m rows) (h0:ds=[.ref a,cw ps wy,d,m]) (h1:Gd cs) (h2:Og cs ps wy) (h3:Sq cs d) (h4:Vw t.ao S a cs m rows) (h5:Tb t S) (h6:∀(c9:List Row)(p:Addr),c9.Perm (rows.filter λr=>bj cs r 7 d)->(c9.Pairwise λa b=>bG cs wy ps a b=true)->S p=none->R (.ref p) (S.set p<|.lst<|c9.map ai))
theorem gb(T:Txt w K mg t)(B:Bm mg base):Ok P w base T.dH 12 (Va t):=by refine T.dH.F.bV mi ?_;obtain⟨a,cs,ps,wy,d,m,rows,e,hg,ho,hd,hv,ht,q⟩;obtain⟨F,dl,rs,hS,hn,Wu,Wv⟩:=hv.sh;obtain⟨ld,lr,ra,h,_⟩:=id hS;refine{_,(s1<|sr<|aY T.rB (Ae T B) hr<|ac (qZ (dv 0) T.ak T.aS (b9 T) hr)<|al 1<|ac (aY T.ib (pP T) hr<|al 0<|al 2<|al 3 an) an),?_};refine !{a,_,rfl,h.ins,rfl,a,F,cs,dl,rs,rfl,hS,?_};refine !!!!{a,cs,d,m,rows,rfl,hg,hd,hv,λp hp=>?_};have fl:(rows.filter λr=>bj cs r 7 d).length<=rows.length:=List.length_filter_le _ _;have:=hv.len;refine{cs,ps,wy,p,rows.filter λr=>bj cs r 7 d,rfl,hg,ho,aa,Nat.lt_of_le_of_lt fl this,hv.rg.sub yw,ht.sub<|.new hp,λc9 p2 pm pw eV=>?_};exact{_,cW<|.new hp,q c9 p2 pm pw<|bN (.new hp) eV}
theorem kd_sub(h:Sub S S')(hk:Pq S d k):Pq S' d k:=by cases d with|ref a=>(rcases hk with⟨e,ds,q⟩|⟨e,ds,q⟩;exact .inl {e,ds,h _ _ q};exact .inr {e,ds,h _ _ q})|_=>exact hk
theorem Gt.sub(h:Sub S S')(g:Gt S d):Gt S' d:={by obtain⟨k,hk⟩:=g.1;exact{k,kd_sub h hk},g.2}
theorem Qx:Gt S (.tup ws):={{.tup,rfl},λ_=>nofun}
theorem L6(h:ws.length<=1000)(g:∀v∈ws,Gt S v):Rx S (.tup ws):={Qx,λWs e=>by cases e;exact⟨h,g⟩}
theorem gt_int:Gt S (.int i):={{.int,rfl},λ_=>nofun}
theorem DN(h:z.cps.size<=1000):Gt S (.str z):={{.str,rfl},λz' e=>by cases e;exact h}
theorem I9(h:bc d=true):Gt S d:=by cases d with|av=>exact rP|int i=>exact gt_int|str z=>have h:(decide (z.cps.size<=40)&&PyData.strOk z)=true:=h;rw[zL]at h;have:=zB h.1;exact DN (by lia)|_=>cases h
theorem r9:∀{cs:List (Str×Str)}{ws:List D},Paired rel cs ws->ws.length=cs.length|_,_,.nil=>rfl|_,_,.cons _ t=>by rw[zQ,zQ,r9 t]
theorem Wg.len(h:Wg cs ws):ws.length=cs.length:=r9 h
theorem Wg.Qy(h:Wg cs ws):mq cs (.tup ws)=true:=by show(decide (ws.length=cs.length)&&(List.zipWith (λc v=>iQ c.2 v) cs ws).all id)=true;rw[zw h.len,ye];unfold Wg at h;induction h with|nil=>rfl|cons r t ih=>rw[List.zipWith_cons_cons,List.all_cons,ih];show(id (iQ _ _)&&true)=true;rw[show id (iQ _ _)=true from r.1];rfl
theorem Wg.gts(h:Wg cs ws)(hc:cs.length<=8):Rx S (.tup ws):=L6 (by rw[h.len];lia) λv hv=>I9<|h.all v hv
theorem L7(hg:Gd cs)(hN:∀c∈cs,c.1∈AL):∀d∈cs.map ay,Ly S 60 d:=λd hd=>by obtain⟨c,hc,rfl⟩:=zh.mp hd;refine(Ly.tup (n:=0) λx hx=>?_).le (by decide);have hx:x∈[D.str c.1,D.str c.2]:=hx;simp only[zj,zM,or_false]at hx;rcases hx with rfl|rfl;exact Ly.str (IA _<|hN c hc).2;rcases (hg.2.2 c hc).2 with e|e<;>rw[e]<;>exact Ly.str (by trivial)
theorem L8{S:aw}{a b:Addr}{ds:List D}{R:KD}(e1:S a=some (.lst ds))(e2:S b=some (.lst []))(h:∀d∈ds,Ly S 60 d)(q:R (.bl<|!ds.isEmpty) S):Gb true (.ref a) (.ref b) S R:=by obtain⟨ps,k1,k2,k3,k4⟩:=Ly.all h;refine{.list ps,.list [],⟨ds,ps,e1,rfl,k1⟩,{[],[],e2,rfl,by simp only[DpAll]},by simp only[PyData.canLay0];exact k2,by simp only[PyData.canLay0,PyData.canLayAll0],.inl<|by simp only[PyData.depth];lia,?_};rw[if_pos rfl,IE,show ps.isEmpty=ds.isEmpty by cases ps<;>cases ds<;>first|rfl|cases k4];exact q
theorem L9{n a b tn:Nat}(ha:a<n)(hb:b<n)(h:(a+tn)%n=(b+tn)%n):a=b:=by rcases Nat.lt_trichotomy a b with l|l|l;have:=Nat.sub_mod_eq_zero_of_mod_eq h.symm;rw[show b+tn-(a+tn)=b-a by lia,Nat.mod_eq_of_lt<|by lia]at this;lia;exact l;have:=Nat.sub_mod_eq_zero_of_mod_eq h;rw[show a+tn-(b+tn)=a-b by lia,Nat.mod_eq_of_lt<|by lia]at this;lia
noncomputable def r_(cs:List<|Str×Str)(tn k:Nat):Str:=(cs.getD ((tn+k)%cs.length) ("","")).1
theorem Ag(h:0<cs.length):∃c∈cs,cs[(tn+k)%cs.length]?=some c/\c.1=r_ cs tn k:=by have eL:(tn+k)%cs.length<cs.length:=Nat.mod_lt _ h;refine{cs[(tn+k)%cs.length],List.getElem_mem eL,zg eL,?_};unfold r_;rw[zG,zg eL];rfl
theorem Ah{cs:List<|Str×Str}(hg:(cs.map Prod.fst).Nodup){tn i:Nat}(hi:i<=cs.length):((List.range i).map<|r_ cs tn).Nodup:=by
 refine List.pairwise_map.mpr<|List.nodup_range.imp_of_mem λ{a b} ha hb n e=>n ?_;have ha:=zU.mp ha;have hb:=zU.mp hb;have h0:0<cs.length:=by lia
 have la:(tn+a)%cs.length<cs.length:=Nat.mod_lt _ h0;have lb:(tn+b)%cs.length<cs.length:=Nat.mod_lt _ h0;unfold r_ at e;rw[zG,zg la,zG,zg lb]at e;have e:(cs[(tn+a)%cs.length]).1=(cs[(tn+b)%cs.length]).1:=e;have e2:(cs.map Prod.fst)[(tn+a)%cs.length]'(by rw[zb];exact la)=(cs.map Prod.fst)[(tn+b)%cs.length]'(by rw[zb];exact lb):=by rw[List.getElem_map,List.getElem_map];exact e
 have e3:=(List.getElem_inj hg).mp e2;rw[Nat.add_comm tn a,Nat.add_comm tn b]at e3;exact L9 (n:=cs.length) (by lia) (by lia) e3
inductive uP (ds:List D) (S:aw) (R:KD) (Z:KX):Prop where
 |mk (cs:List<|Str×Str) (c:Int) (h0:ds=[.tup<|cs.map ay,.int c]) (h1:Gd cs) (h2:∀(ps:List Part)(wy:Str),Og cs ps wy->R (cw ps wy) S)
theorem I_(T:Txt w K mg t):Ok P w base T.vN 2 uP:=by
 refine T.vN.F.bV dY ?_;obtain⟨cs,c0,e,hg,q⟩;have h8:=hg.1;have xl:(cs.map ay).length=cs.length:=zb _;refine{_,(sc (cG (i:=2) dY.nd<|aY T.fZ (gT T) hr<|al 1<|ac di an)<|sc (cG (i:=3) dY.nd<|cb MZ T.Nt Hf<|ac (cb aK T.aI aC<|al 0 an)<|ac (s_<|ix hr.u (cC<|ac di<|ac di<|ac di<|ac di<|ac di<|ac di<|ac di<|ac di an)<|bo bh hr.u (ix hr.u (dv 2) di) di) an)<|sc (cG (i:=4) dY.nd<|cC an)<|sc (ux<|C9 (JI T.d_<|al 3 an) (gn (i:=5) dY.nd)<|sc (cG (i:=6) dY.nd<|ix hr.u (ix hr.u (dv 0)<|bo bh hr.u (bo bz hr.u (ix hr.u (dv 2) di)<|dv 5)<|cb aK T.aI aC<|al 0 an) di)<|s1<|se<|bm zO zZ z0 cI (dv 4)<|ac (cj<|al 6<|ac (s_<|ix hr.u (cC<|ac ds<|ac ds an)<|bo bh hr.u (ix hr.u (dv 2)<|bo bz hr.u di<|dv 5) di)<|ac (s_<|ix hr.u (cC<|ac ds<|ac ds an)<|bo bh hr.u (bo bP hr.u (ix hr.u (dv 2)<|bo bz hr.u di<|dv 5) di) di) an) an)<|s1<|sr<|cj<|ac (ct fS T.bu aW<|al 4 an)<|ac (s_<|ix hr.u (cC<|ac ds<|ac ds an)<|bo bh hr.u (ix hr.u (dv 2) di) di) an),?_};refine !{c0,12,rfl,by decide,λxs lx JK hx xm=>?_};have s1:=Sub.new (c:=.lst<|xs.map D.int) xm;have hX:(S.set lx<|.lst<|xs.map D.int) lx=some (.lst<|xs.map D.int):=aa;generalize S.set lx (.lst<|xs.map D.int)=S1 at s1 hX⊢;have at_:∀k:Nat,k<12->∃x:Int,jK (xs.map D.int) ((k:Nat):Int)=some (.int x)/\0<=x:=λk hk=>mz (by lia) (by rw[zb];lia) hx;obtain⟨x0,e0,_⟩:=at_ 0 (by decide);obtain⟨x1,e1,x10⟩:=at_ 1 (by decide);obtain⟨x11,e11,_⟩:=at_ 11 (by decide);obtain⟨tn,rfl⟩:=Int.eq_ofNat_of_zero_le x10;refine !!{Fm,λp hp=>!{_,_,(Sub.new hp) _ _ hX,e0,by decide,bE (zN _<|by decide) (zJ _<|by decide) hp λd hd=>?_}};obtain⟨m,rfl⟩:∃m:Nat,d=.int m:=by have hd:d∈[D.int 1,.int 2,.int 0,.int 3,.int 1,.int 2,.int 8,.int 3]:=hd;simp only[zj,zM,or_false]at hd;rcases hd with h|h|h|h|h|h|h|h;exact{1,h};exact{2,h};exact{0,h};exact{3,h};exact{1,h};exact{2,h};exact{8,h};exact{3,h}
 obtain⟨k,hk,ek⟩:∃k:Nat,k<=cs.length/\(if decide ((m:Int)<(((cs.map ay).length:Nat):Int))=true then (m:Int) else (((cs.map ay).length:Nat):Int))=(k:Int):=by rw[xl];by_cases h:(m:Int)<((cs.length:Nat):Int);exact{m,by lia,by rw[zw h,if_pos rfl]};exact{cs.length,zr _,by rw[zu h,if_neg zd]}
 refine{_,_,rfl,?_};have ek2:(if (λi j:Int=>decide<|i<j) ((m:Nat):Int) (((cs.map ay).length:Nat):Int)=true then ((m:Nat):Int) else (((cs.map ay).length:Nat):Int))=((k:Nat):Int):=ek;rw[ek2];refine{tM,λlp hlp=>?_};have nxp:lx≠lp:=gq hX hlp;refine{λaB S'=>∃(o5 o6:Option D)(ps:List Part),aB=[some<|.tup<|cs.map ay,some<|.int c0,some<|.ref lx,some<|.int (k:Nat),some<|.ref lp,o5,o6]/\ps.map Prod.fst=(List.range k).map (r_ cs tn)/\(∀p∈ps,mC p.2.1=true/\Fy p.2.2=true)/\S'=S1.set lp (.lst<|ps.map p3),?_,?_};refine !{((k:Nat):Int),rfl,by lia,by lia,?_};refine{λi aB S'=>∃(o5 o6:Option D)(ps:List Part),aB=[some<|.tup<|cs.map ay,some<|.int c0,some<|.ref lx,some<|.int (k:Nat),some<|.ref lp,o5,o6]/\ps.map Prod.fst=(List.range i).map (r_ cs tn)/\(∀p∈ps,mC p.2.1=true/\Fy p.2.2=true)/\S'=S1.set lp (.lst<|ps.map p3),{none,none,[],rfl,rfl,λ_ h=>(nomatch h),rfl},λ_ _ _ _=>trivial,?_,?_};rintro i d aB S' hd ⟨o5,o6,ps,rfl,hn,dy,rfl⟩;have hd:(df 0 ((k:Nat):Int).toNat)[i]?=some d:=hd;obtain⟨hi,rfl⟩:=cy hd;have hi:i<k:=by lia
 have cP:ps.length=i:=by have:=congrArg List.length hn;simpa using this
 obtain⟨c,hc,ec,ZI⟩:=Ag (cs:=cs) (tn:=tn) (k:=i) (by lia);have sM:(S1.set lp<|.lst<|ps.map p3) lx=some (.lst<|xs.map D.int):=(ag nxp).trans hX;have hP2:(S1.set lp<|.lst<|ps.map p3) lp=some (.lst<|ps.map p3):=aa;have eat:jK (cs.map ay) ((((tn:Nat):Int)+(0+((i:Nat):Int)))%(((cs.map ay).length:Nat):Int))=some (ay c):=by rw[xl,show(((tn:Nat):Int)+(0+((i:Nat):Int)))%((cs.length:Nat):Int)=(((tn+i)%cs.length:Nat):Int) by rw[Int.zero_add,Int.natCast_emod,Int.natCast_add]];refine bU ?_;rw[zi,ec];rfl
 obtain⟨xi,Ww,_⟩:=at_ (2+i) (by lia);have Ww:jK (xs.map D.int) (2+(0+((i:Nat):Int)))=some (.int xi):=by rw[show(2:Int)+(0+((i:Nat):Int))=((2+i:Nat):Int) by lia];exact Ww
 refine !!{_,_,sM,e1,_,rfl,_,rfl,_,rfl,by rw[xl];lia,_,eat,_,rfl,?_};refine{_,rfl,{rfl,_,hP2},_,rfl,cu,λp hp=>!!{_,_,(Sub.new hp) _ _ sM,Ww,by decide,bE (zN _<|by decide) (zJ _<|by decide) hp λd hd=>?_}};obtain⟨wy,rfl,JN⟩:∃wy:Str,d=.str wy/\mC wy=true:=by have hd:d∈[D.str "up",.str "down"]:=hd;simp only[zj,zM,or_false]at hd;rcases hd with h|h;exact{_,h,by trivial};exact{_,h,by trivial}
 refine{cu,λp hp=>!!{_,_,(Sub.new hp) _ _ sM,Ww,{by decide,by trivial},by decide,bE (zN _<|by decide) (zJ _<|by decide) hp λd hd=>?_}};obtain⟨en,rfl,AG⟩:∃en:Str,d=.str en/\Fy en=true:=by have hd:d∈[D.str "first",.str "last"]:=hd;simp only[zj,zM,or_false]at hd;rcases hd with h|h;exact{_,h,by trivial};exact{_,h,by trivial}
 refine{pM,lp,_,_,rfl,rfl,hP2,bg<|by rw[zb];lia,?_};refine{_,_,ps++[(c.1,wy,en)],rfl,?_,λx hx=>?_,?_};rw[zK,hn,List.range_succ,zK];show _=_++[r_ cs tn i];rw[<-ZI];rfl;rcases zP.mp hx with h|h;exact dy x h;rw[zI.mp h];exact⟨JN,AG⟩;rw[dw,zK];rfl;rintro aB S' ⟨o5,o6,ps,rfl,hn,dy,rfl⟩;rw[show({df 0 ((k:Nat):Int).toNat,λ_=>True}:oB).xs.length=((k:Nat):Int).toNat from bK,show((k:Nat):Int).toNat=k by lia]at hn;exact fo ⟨o5,o6,ps,rfl,hn,dy,rfl⟩;rintro aB S' ⟨o5,o6,ps,rfl,hn,dy,rfl⟩;have sM:(S1.set lp<|.lst<|ps.map p3) lx=some (.lst<|xs.map D.int):=(ag nxp).trans hX;refine !{_,_,rfl,.inl aa,cu,λp hp=>!{_,_,(Sub.new hp) _ _ sM,e11,by decide,bE (zN _<|by decide) (zJ _<|by decide) hp λd hd=>?_}};obtain⟨wy,rfl,JN⟩:∃wy:Str,d=.str wy/\mC wy=true:=by have hd:d∈[D.str "up",.str "down"]:=hd;simp only[zj,zM,or_false]at hd;rcases hd with h|h;exact{_,h,by trivial};exact{_,h,by trivial}
 have cP:ps.length=k:=by have:=congrArg List.length hn;simpa using this
 have pin:Pin cs ps:=λx hx=>by have:x.1∈ps.map Prod.fst:=zh.mpr ⟨x,hx,rfl⟩;rw[hn]at this;obtain⟨k,hk,e⟩:=zh.mp this;have:=zU.mp hk;obtain⟨c,hc,_,ec⟩:=Ag (cs:=cs) (tn:=tn) (k:=k) (by lia);exact{c,hc,ec.trans e}
 refine{cu,S,s1.trans<|.new hlp,q ps wy {pin,λx hx=>(dy x hx).1,JN,?_,λx hx=>?_}};unfold B_;rw[zw<|show ps.length<=8 by lia,ye,zL,zL];refine{ya.mpr λx hx=>?_,zw<|by rw[hn];exact Ah hg.2.1 hk,JN};obtain⟨c,hc,ec⟩:=pin x hx;unfold f_;rw[zw<|zh.mpr ⟨c,hc,ec⟩,(dy x hx).1,(dy x hx).2];rfl;obtain⟨c,hc,ec⟩:=pin x hx;obtain⟨h1,h2⟩:=dy x hx;refine{by rw[<-ec];exact nV (hg.2.2 c hc).1,by rcases wq h1 with e|e<;>rw[e]<;>decide +kernel,?_};unfold Fy at h2;simp only[Bool.or_eq_true,zR]at h2;rcases h2 with e|e<;>rw[e]<;>decide +kernel
theorem Ja{c1:Bool}{X A B:Prop}(c2:Bool)(hx:(if c2=true then A else B)->X)(h:if (c1||c2)=true then A else B):if c1=true then (if true=true then A else B) else X:=by cases c1 with|true=>exact h|false=>exact hx h
theorem Ci{c1:Bool}{X A B:Prop}(c2:Bool)(hx:(if c2=true then A else B)->X)(h:if (c1&&c2)=true then A else B):if c1=true then X else (if false=true then A else B):=by cases c1 with|true=>exact hx h|false=>exact h
theorem keys_str{out:List D} : (∀d∈out,∃z∈KS,d=.str z)->∃ks:List Str,out=ks.map D.str/\∀k∈ks,k∈KS:=by induction out with|nil=>exact λ_=>{[],rfl,λ_ h=>(nomatch h)}|cons x l ih=>intro h;obtain⟨z,hz,e⟩:=h x zm;obtain⟨ks,e2,hk⟩:=ih λd hd=>h d<|zf _ hd;exact{z::ks,by rw[e,e2];rfl,λk G0=>(zj.mp G0).elim (λe=>e ▸ hz)<|hk k}
theorem sj{rel:D->D->Prop} : ∀{xs out:List D},Paired rel xs out->∀v∈out,∃x,rel x v|_,_,.nil,_,h=>(nomatch h)|_,_,.cons r t,v,h=>by rcases zj.mp h with rfl|h;exact{_,r};exact sj t v h
theorem NF{cs:List<|Str×Str}{d:D}(h:Lf cs d){n:Nat} : oV (n+1) d=1:=by rcases h with rfl|⟨ks,rfl,_⟩|⟨o,c,v,_,_,_,rfl⟩<;>rfl
theorem Qz(n:Nat)(e:D):oV (n+1) (.tup [.str "not",e])=oV n e+1:=by show((mF _).map<|oV n).sum+1=_;rw[wj];simp
theorem L_{o:Str}(h:o ="and"\/o ="or")(n:Nat)(ds:List D):oV (n+1) (.tup [.str o,.tup ds])=(ds.map<|oV n).sum+1:=by show((mF _).map<|oV n).sum+1=_;rw[wk h]
theorem FG{I:oB}{S1:aw}{g:xC}{te:TD}{σ:SD}{src:List<|Option Nat}{R:KD}(P:Nat->List D->aw->Prop)(h0:P 0 [] S1)(aJ:∀i out S,P i out S->I.ok S) (step:∀i d out S,I.xs[i]?=some d->P i out S->out.length<sizeLine/\g d (lW σ src) S λfM S3=>te fM S3 (λv S5=>P (i+1) (out++[v]) S5) Zf) (fin:∀out S2,P I.xs.length out S2->∀p,S2 p=none->R (.ref p) (S2.set p<|.lst out)):xD σ src g lX te R I S1:=by
 refine{P,h0,aJ,λi d out S hd h=>{(step i d out S hd h).1,?_},fin};have e:(λ(fM:SD)(S3:aw)=>lX fM S3 (λb S4=>if b=true then te fM S4 (λv S5=>P (i+1) (out++[v]) S5) Zf else P (i+1) out S4) Zf)=λfM S3=>te fM S3 (λv S5=>P (i+1) (out++[v]) S5) Zf:=by funext fM S3;simp[lX]
 rw[e];exact(step i d out S hd h).2
theorem Jb{f:D->Nat}{k:Nat} : ∀{l:List D},(∀e∈l,f e<=k)->(l.map f).sum<=k*l.length|[],_=>zV _|e::l,h=>by have h1:=h e zm;have ih:=Jb λx hx=>h x<|zf _ hx;rw[zx,List.sum_cons,zQ,Nat.mul_succ];lia
noncomputable def QA:Nat->Nat|0=>0|n+1=>1+3*QA n
theorem Jc{S S':aw}{p:Addr}{c c':Ce}(h:Sub (S.set p c) S'):Sub (S.set p c') (S'.set p c'):=λb x hb=>by by_cases e:b=p;subst e;rw[aa]at hb⊢;exact hb;rw[ag e]at hb⊢;exact h b x<|(ag e).trans hb
inductive QB (n:Nat) (ds:List D) (S:aw) (R:KD) (Z:KX):Prop where
 |mk (cs:List<|Str×Str) (lx:Addr) (m:Nat) (xs:List Int) (hn:n=m+1) (h0:ds=[.tup<|cs.map ay,.ref lx,.int ((m:Nat):Int)]) (h1:Cg cs) (h2:S lx=some (.lst<|xs.map D.int)) (h3:xs.length<=20) (h4:∀x∈xs,0<=x)
  (h5:∀(d:D)(ys:List Int),Sg cs n d->oV n d<=QA n->ys.length<=20->(∀y∈ys,0<=y)->R d (S.set lx<|.lst<|ys.map D.int)):QB n ds S R Z
theorem oa(T:Txt w K mg t):∀n,Ok P w base T.ig (2+n) (QB n)
 |0=>by refine T.ig.F.bV (k:=1) cM ?_;rintro _ _ _ _ _ _ _ S R Z hr ⟨_,_,_,_,e,_⟩;cases e
 |n+1=>by
  refine T.ig.F.bV (k:=2+n) cM ?_;obtain⟨cs,lx,m,xs,en,e,hc,hX,JK,hx,q⟩;cases en;have hg:=hc.1;have n2:=cu;have n3:=pM;refine{_,(sc (cG (i:=3) cM.nd<|aY T.qh (y6 T) hr<|al 1 an)<|sc (cG (i:=4) cM.nd<|bo bh hr.u (dv 3) di)<|sc (si (twd<|twand (bf pE hr.u (dv 2) di)<|tw1<|bf aU hr.u (dv 4) di) (s1<|sr<|cj<|ac ds<|ac (aY T.ig (oa T n) hr<|al 0<|al 1<|ac (bo fR hr.u (dv 2) di) an) an) s0)<|sc (si (twd<|twand (bf pE hr.u (dv 2) di)<|tw1<|bf pC hr.u (dv 4) di) (sc (Hr (i:=5) (N:=["_law_k","_law_columns_here","_law_xs","_law_deep"]) (src:=[none,some 0,some 1,some 2]) cM.nd (iT (ae uB) ["_law_columns_here","_law_xs","_law_deep","_law_x","_law_way","_law_some","_law_name","_law_kind","_law_value_here"] rfl rfl<|by trivial) (JI T.d_<|ac (s_<|ix hr.u (cC<|ac di<|ac di<|ac di<|ac di an)<|bo bh hr.u (bo bP hr.u (dv 3) di) di) an) (oF<|show(["_law_k","_law_columns_here","_law_xs","_law_deep"]:List Str).Nodup by trivial) (aQ rfl) aR (λ_ _ _ _ _=>oE) λ_ _ _ _ _=>(aY T.ig (oa T n) hr<|al 1<|al 2<|ac (bo fR hr.u (dv 3) di) an))<|s1<|sr<|cj<|ac (s_<|ix hr.u (cC<|ac ds<|ac ds an)<|bo fR hr.u (dv 4) di)<|ac (ct fS T.bu aW<|al 5 an) an) s0)<|sc (si (twd<|twor (bf aU hr.u (dv 4) di)<|tw1<|bf aU hr.u (dv 0)<|cj an) (s1<|sr<|s_<|ix hr.u (cC<|ac (cj<|ac ds an)<|ac (cj<|ac ds<|ac (ct fS T.bu aW<|ac (sZ (N:=["_law_k","_law_x"]) (src:=[none,some 3]) (iT (ae uB) ["_law_columns_here","_law_xs","_law_deep","_law_x","_law_way","_law_some","_law_name","_law_kind","_law_value_here"] rfl rfl<|by trivial) (JI T.d_<|ac (bo bh hr.u (bo bP hr.u (dv 3) di) di) an) (oF<|show(["_law_k","_law_x"]:List Str).Nodup by trivial) (aQ rfl) aR (λ_ _ _ _ _=>oE) λ_ _ _ _ _=>(aY T.x6 (B7 T) hr<|ac (bo bz hr.u (bo bP hr.u (dv 1) di)<|bo qO hr.u di<|dv 0) an)) an) an) an)<|bo bh hr.u (bo bP hr.u (dv 3) di) di) s0)<|sc (sa (ix hr.u (dv 0)<|bo bh hr.u (bo bP hr.u (dv 3) di)<|cb aK T.aI aC<|al 0 an)<|gt (n:=2)<|gc (gn (i:=6) cM.nd)<|gc (gn (i:=7) cM.nd) g0)<|sc (cG (i:=8) cM.nd<|aY T.me (rQ T) hr<|al 7<|ac (aY T.qh (y6 T) hr<|al 1 an) an)<|sc (si (twd<|twor (bf fh hr.u (dv 8) dn)<|tw1<|bf pC hr.u (dv 4) di) (s1<|sr<|cj<|ac ds<|al 6<|al 8 an) s0)<|sc (si (twd<|twand (bf aU hr.u (dv 4) di)<|tw1<|bf aU hr.u (dv 7) ds) (s1<|sr<|cj<|ac ds<|al 6<|al 8 an) s0)<|s1<|sr<|cj<|ac (s_<|ix hr.u (cC<|ac ds<|ac ds an)<|bo bh hr.u (dv 4) di)<|al 6<|al 8 an),?_};refine !{lx,xs,rfl,hX,JK,hx,λx ys x0 yl hy=>?_};have hY:(S.set lx<|.lst<|ys.map D.int) lx=some (.lst<|ys.map D.int):=aa;have q1:∀d,Lf cs d->R d (S.set lx<|.lst<|ys.map D.int):=λd hd=>q d ys (.inl hd) (by rw[NF hd];show 1<=1+_;lia) (by lia) hy;refine !{by decide,?_};have w0:0<=x%9:=zN _ (by decide);have w1:x%9<9:=zJ _ (by decide);generalize x%9=way at w0 w1⊢;have ed:0<n->((n:Nat):Int)-1=((n-1:Nat):Int):=λh=>by lia
  refine !{decide<|(0:Int)<((n:Nat):Int),rfl,Ci (decide<|way=0) (λh=>!!⟨h⟩)<|bT (λh=>?_) λLJ=>?_};rw[zL,zR,zR]at h;have hn:0<n:=by lia
  refine !!!{cs,lx,n-1,ys,by lia,by rw[ed hn];rfl,hc,hY,by lia,hy,λd zs hd hz zl wQ=>{n2,?_}};rw[dw];exact fo<|q _ zs (.inr<|.inl ⟨d,rfl,hd⟩) (by rw[Qz];show _<=1+3*QA n;lia) zl wQ;refine !{decide<|(0:Int)<((n:Nat):Int),rfl,Ci (decide<|way<3) (λh=>!!⟨h⟩)<|bT (λh=>?_) λ_=>?_};rw[zL,zR,zR]at h;have hn:0<n:=by lia
  have hwz:way≠0:=λe=>by rw[Bool.and_eq_false_iff,yq,yq]at LJ;lia
  refine{tN,λp hp=>!⟨{by decide,by trivial},by decide,bE (zN _<|by decide) (zJ _<|by decide) hp λd hd=>?_⟩};obtain⟨k,rfl,hk⟩:∃k:Nat,d=.int k/\k<=3:=by have hd:d∈[D.int 2,.int 3,.int 1,.int 0]:=hd;simp only[zj,zM,or_false]at hd;rcases hd with h|h|h|h;exact{2,h,by decide};exact{3,h,by decide};exact{1,h,by decide};exact{0,h,by decide}
  refine{((k:Nat):Int),rfl,by lia,by lia,?_};refine FG (λi out S'=>∃zs:List Int,Sub (S.set lx<|.lst<|zs.map D.int) S'/\zs.length<=20/\(∀z∈zs,0<=z)/\out.length=i/\∀e∈out,Sg cs n e/\oV n e<=QA n) {ys,.refl _,by lia,hy,rfl,λ_ h=>(nomatch h)} (λ_ _ _ _=>trivial) ?_ ?_;rintro i d out S' hd ⟨zs,sb,zl,hz,Pj,ho⟩;have hi:i<k:=by have hd:(df 0 ((k:Nat):Int).toNat)[i]?=some d:=hd;have:=(cy hd).1;lia
  refine{bg<|by lia,_,rfl,_,rfl,_,rfl,cs,lx,n-1,zs,by lia,by rw[ed hn];rfl,hc,sb _ _ aa,zl,hz,λd vs hd hsz vl hv=>{vs,Jc sb,vl,hv,by rw[zC,Pj];rfl,λe he=>?_}};rcases zP.mp he with he|he;exact ho e he;rw[zI.mp he];exact⟨hd,hsz⟩;rintro out S' ⟨zs,sb,zl,hz,Pj,ho⟩ pl cP;rw[show({df 0 ((k:Nat):Int).toNat,λ_=>True}:oB).xs.length=((k:Nat):Int).toNat from bK]at Pj;refine{n2,λp2 eV=>!⟨bE (by lia) (by show way-1<2;lia) eV λd hd=>?_⟩};obtain⟨o,rfl,hoo⟩:∃o:Str,d=.str o/\(o ="and"\/o ="or"):=by have hd:d∈[D.str "and",.str "or"]:=hd;simp only[zj,zM,or_false]at hd;rcases hd with h|h;exact{_,h,.inl rfl};exact{_,h,.inr rfl}
  refine !{_,_,rfl,.inl aa,n2,_,sb.trans<|.new cP,q _ zs (.inr<|.inr {o,out,hoo,rfl,by lia,λe he=>(ho e he).1}) ?_ zl hz};have hs:=Jb λe he=>(ho e he).2;have:QA n*out.length<=QA n*3:=Nat.mul_le_mul_left _ (by lia);rw[L_ hoo];show _<=1+3*QA n;lia;refine !{decide<|way=8,rfl,Ja (cs.map ay).isEmpty (λh=>!{tM,LX (L7 hc.1 hc.2) !⟨h⟩})<|bT (λh=>?_) λh=>?_};have k0:0<=x/9%4:=zN _ (by decide);have k1:x/9%4<4:=zJ _ (by decide);refine{pL,_,rfl,{by decide,by trivial},by decide,x/9%4,rfl,by lia,by lia,?_};refine fE (λ_ v=>∃z∈KS,v=.str z) trivial (by show(df 0 _).length<=_;rw[bK];lia) (λd hd Q hQ=>?_) λout ho p1 sN=>?_;obtain⟨j,hj⟩:=yt hd;obtain⟨_,rfl⟩:=cy hj;exact{_,rfl,{by decide,by trivial},_,rfl,.inl {by decide,by decide},_,rfl,λz hz=>hQ _ ⟨z,hz,rfl⟩};obtain⟨ks,rfl,AI⟩:=keys_str λd hd=>(sj ho d hd).elim λ_ h=>h;have hl:=yL ho;rw[show({df 0 (x/9%4).toNat,λ_=>True}:oB).xs=df 0 (x/9%4).toNat from rfl,bK,zb]at hl;refine{_,_,rfl,.inl aa,n2,n2,λp hp=>!⟨{by decide,by trivial},by decide,bE (zN _<|by decide) (zJ _<|by decide) hp λd hd=>?_⟩};have hd:d∈[D.tup [.str "every"],.tup [.str "key",.tup<|ks.map D.str]]:=hd;simp only[zj,zM,or_false]at hd;rcases hd with rfl|rfl;exact{_,.new sN,q1 _<|.inl rfl};exact{_,.new sN,q1 _<|.inr<|.inl {ks,rfl,by lia,AI}};rw[Bool.or_eq_false_iff]at h;have xl:0<cs.length:=by cases cs with|nil=>(cases h.2)|cons c cs=>exact Nat.succ_pos _
  have RA:(cs.map ay).length=cs.length:=zb _;obtain⟨d,e1,e2⟩:=p5 (l:=cs.map ay) (i:=x/9%(((cs.map ay).length:Nat):Int)) (zN _<|by lia)<|zJ _ (by lia);obtain⟨c,RP,rfl⟩:=zh.mp<|zE e2;refine !!⟨{by decide,by trivial},_,rfl,_,rfl,by lia,_,e1,_,rfl,rfl,_,_,rfl,_,_,rfl,rfl,?_⟩;refine !!{lx,ys,rfl,hY,by lia,hy,λx2 zs _ zl hz=>{c.2,x2,rfl,λv hv=>?_}};rw[dw];have qc:∀o,wg o c v->Fo (S.set lx<|.lst<|zs.map D.int) (R<|.tup [.str o,.str c.1,v]):=λo ho=>fo<|q _ zs (.inl<|.inr<|.inr ⟨o,c,v,RP,hv,ho,rfl⟩) (by rw[NF<|.inr<|.inr ⟨o,c,v,RP,hv,ho,rfl⟩];show 1<=1+_;lia) (by lia) hz;refine !{ah v,rfl,Ja (decide<|way<4) (λh=>!!⟨h⟩)<|bT (λh4=>?_) λh4=>?_};exact !!{n3,qc _<|.inl rfl};rw[Bool.or_eq_false_iff]at h4;have Nf:=aX h4.1;refine !{decide<|way=4,rfl,Ci (decide<|c.2 ="word") (λh=>!!⟨h⟩)<|bT (λh5=>?_) λh5=>?_};rw[zL]at h5;exact !!{n3,qc _<|.inr {Nf,.inr<|.inr {rfl,zB h5.2}}};refine{n2,λp hp=>!{(by decide:(0:Int)<2),bE (zN _<|by decide) (zJ _<|by decide) hp λd hd=>?_}};obtain⟨o,rfl,ho⟩:∃o:Str,d=.str o/\(o ="below"\/o ="above"):=by have hd:d∈[D.str "below",.str "above"]:=hd;simp only[zj,zM,or_false]at hd;rcases hd with rfl|rfl;exact{_,rfl,.inl rfl};exact{_,rfl,.inr rfl}
  exact !!{n3,qc o<|.inr {Nf,ho.elim .inl λh=>.inr<|.inl h}}
theorem DP:∀{l:List Str}{p:Str},PyProof.Rows.risingS p l=true->(p::l).Pairwise λa b=>a.cps.toList<=b.cps.toList|[],p,_=>List.pairwise_singleton _ _|x::r,p,h=>by have h:(!PySem.Spec.ltCps x.cps.toList p.cps.toList&&PyProof.Rows.risingS x r)=true:=h;rw[zL,PyProof.Rows.ltCps_eq,Bool.not_eq_true',yq]at h;have ih:=DP h.2;have hpx:p.cps.toList<=x.cps.toList:=List.not_lt.mp h.1;refine List.pairwise_cons.mpr {λy hy=>?_,ih};rcases zj.mp hy with e|hy;rw[e];exact hpx;exact List.le_trans hpx<|(List.pairwise_cons.mp ih).1 y hy
theorem jY(h:PyProof.Rows.sortedS l=true):l.Pairwise λa b=>a.cps.toList<=b.cps.toList:=by cases l with|nil=>exact List.Pairwise.nil|cons x r=>exact DP h
theorem Ma{a b:Str}(h:a.cps.toList=b.cps.toList):a=b:=by obtain⟨⟨x⟩⟩:=a;obtain⟨⟨y⟩⟩:=b;cases h;rfl
theorem uQ{l m:List Str}(hl:l.Pairwise λa b=>a.cps.toList<=b.cps.toList)(hm:m.Pairwise λa b=>a.cps.toList<=b.cps.toList)(nl:l.Nodup)(nm:m.Nodup)(h:∀z,z∈l↔z∈m):l=m:=List.Perm.eq_of_pairwise (λa b _ _ h1 h2=>Ma<|List.le_antisymm h1 h2) hl hm<|(List.perm_ext_iff_of_nodup nl nm).mpr h
def TI(l:List Std)(n:Nat):Prop:=∀s∈l,s.b<=n/\∀m,s.e=some m->m<n
noncomputable def Mb(s:Std):D:=match s.e with|none=>.tup s.ws|some _=>.av
noncomputable def cur(l:List Std):D:=match l.getLast? with|none=>.av|some s=>Mb s
theorem jG(r:List Std)(s:Std):cur (r++[s])=Mb s:=by unfold cur;rw[List.getLast?_concat]
theorem QC(h:TI l n):wt l n=cur l:=by by_cases e:l=[];subst e;rfl;obtain⟨r,s,rfl⟩:=jT e;rw[jG];unfold wt;rw[List.reverse_append];obtain⟨h1,h2⟩:=h s<|zD _<|zI.mpr rfl;show Iq (s::r.reverse) (n:Int)=_;unfold Iq Mb;rw[if_pos<|show(s.b:Int)<=(n:Int) by lia];cases q:s.e with|none=>rfl|some m=>have:=h2 m q;exact if_neg<|show ¬(n:Int)<=(m:Int) by lia
theorem TI.up(h:TI l n):TI l (n+1):=λs hs=>{Nat.le_succ_of_le (h s hs).1,λm e=>Nat.lt_succ_of_lt<|(h s hs).2 m e}
theorem TI.close(h:TI l n):TI (ik n l) (n+1):=by by_cases e:l=[];subst e;exact λs hs=>(nomatch hs);obtain⟨r,s,rfl⟩:=jT e;rw[eI];intro x hx;rcases zP.mp hx with hx|hx;exact h.up x<|yn _ hx;rw[zI.mp hx];exact{Nat.le_succ_of_le (h s<|zD _<|zI.mpr rfl).1,λm e=>by cases e;exact Nat.lt_succ_self _}
theorem TI.beg(h:TI l<|n+1):TI (l++[Std.mk (n+1) none ws]) (n+1):=λs hs=>by rcases zP.mp hs with hs|hs;exact h s hs;rw[zI.mp hs];exact{zr _,λm e=>(by cases e)}
theorem FH:cur (ik n l)=.av:=by by_cases e:l=[];subst e;rfl;obtain⟨r,s,rfl⟩:=jT e;rw[eI,jG];rfl
noncomputable def pQ(kn:Kn)(z:Str):D:=match iq kn z with|none=>.av|some ws=>.tup ws
structure RI(rs:mW)(n:Nat)(kn:Kn):Prop where
 ti:∀z,TI ((lu rs z).getD []) n
 eq:∀z,cur ((lu rs z).getD [])=pQ kn z
 ks:∀r∈rs,r.1∈KS
theorem Mc(h:r∈BY rs z s):r.1=z\/∃r'∈rs,r'.1=r.1:=by unfold BY at h;split at h;obtain⟨r0,wV,e⟩:=zh.mp h;refine .inr {r0,wV,?_};subst e;split<;>rfl;rcases zP.mp h with h|h;exact .inr ⟨r,h,rfl⟩;rw[zI.mp h];exact .inl rfl
theorem Jd(h:∀r∈rs,r.1∈KS)(hz:z∈KS):∀r∈BY rs z s,r.1∈KS:=λr hr=>by rcases Mc hr with e|⟨r',iR,e⟩;rw[e];exact hz;rw[<-e];exact h r' iR
theorem DQ:pQ (pN kn z ws) k=if k=z then .tup ws else pQ kn k:=by unfold pQ;rw[LV];by_cases h:k=z;rw[if_pos h,if_pos h];rw[if_neg h,if_neg h]
theorem DR:pQ (wd kn z) k=if k=z then .av else pQ kn k:=by unfold pQ;rw[LW];by_cases h:k=z;rw[if_pos h,if_pos h];rw[if_neg h,if_neg h]
theorem RI.nil:RI [] 0 []:={λz s hs=>(nomatch hs),λz=>rfl,λr hr=>(nomatch hr)}
theorem RI.put(h:RI rs n kn)(hz:z∈KS):RI (tQ rs z (n+1) ws) (n+1) (pN kn z ws):=by refine{λk=>?_,λk=>?_,Jd h.ks hz};unfold tQ;rw[jB];by_cases e:k=z;rw[if_pos e];exact(h.ti z).up.beg;rw[if_neg e];exact(h.ti k).up;unfold tQ;rw[jB,DQ];by_cases e:k=z;rw[if_pos e,if_pos e];exact jG _ _;rw[if_neg e,if_neg e];exact h.eq k
theorem RI.del(h:RI rs n kn)(hz:z∈KS):RI (nX rs z n) (n+1) (wd kn z):=by refine{λk=>?_,λk=>?_,Jd h.ks hz};unfold nX;rw[jB];by_cases e:k=z;rw[if_pos e];exact(h.ti z).close;rw[if_neg e];exact(h.ti k).up;unfold nX;rw[jB,DR];by_cases e:k=z;rw[if_pos e,if_pos e];exact FH;rw[if_neg e,if_neg e];exact h.eq k
theorem RI.change(h:RI rs n kn)(hz:z∈KS):RI (tQ (nX rs z n) z (n+1) ws) (n+1) (pN kn z ws):=by have h1:=h.del hz;refine{λk=>?_,λk=>?_,Jd h1.ks hz};unfold tQ;rw[jB];by_cases e:k=z;rw[if_pos e];exact(h1.ti z).beg;rw[if_neg e];exact h1.ti k;unfold tQ;rw[jB,DQ];by_cases e:k=z;rw[if_pos e,if_pos e];exact jG _ _;rw[if_neg e,if_neg e,h1.eq k,DR,if_neg e]
theorem RI.wt{rs:mW}{n:Nat}{kn:Kn}(h:RI rs n kn)(z:Str):wt ((lu rs z).getD []) n=pQ kn z:=by rw[QC<|h.ti z,h.eq]
theorem RI.AK(h:RI rs n kn)(hz:z∈KS):AK rs (.str z) n=pQ kn z:=by rw[wb (fH z hz).1,h.wt]
theorem og(kn:Kn)(z:Str):ah (pQ kn z)=!(iq kn z).isSome:=by unfold pQ;cases iq kn z<;>rfl
theorem Je(h:cA C S a F cs dl rs):(rs.map (·.1)).Nodup:=by obtain⟨ld,lr,ra,h,_,rfl⟩:=h;unfold gN;rw[zy];exact h.kn
theorem RI.len(h:RI rs n kn)(hs:cA C S a F cs dl rs):rs.length<=60:=by
 have:=sub_len (Je hs) (m:=KS) λx hx=>by obtain⟨r,hr,rfl⟩:=zh.mp hx;exact h.ks r hr
 rw[zb]at this;exact zH this<|by trivial
noncomputable def FI(kn:Kn)(ss:List Str):List D:=ss.map λz=>.tup [.str z,pQ kn z]
theorem NG(h:lu rs k=some s):k∈rs.map (·.1):=by induction rs with|nil=>(cases h)|cons r rs ih=>rw[eU]at h;rw[zx];by_cases e:r.1=k;exact zj.mpr<|.inl e.symm;rw[if_neg e]at h;exact zf _<|ih h
theorem Jf{C a:Addr}{S:aw}{F:List Addr}{cs:List<|Str×Str}{dl:List D}{rs:mW}{kn:Kn}(h:RI rs dl.length kn)(hs:cA C S a F cs dl rs)(hI:KI cs kn){ss s2:List Str} (p1:ss.Perm (rs.map (·.1))) (o1:PyProof.Rows.sortedS ss=true) (p2:s2.Perm (kn.map (·.1))) (o2:PyProof.Rows.sortedS s2=true):dZ rs dl.length ss=FI kn s2:=by
 have e:ss.filter (λz=>!ah (wt ((lu rs z).getD []) dl.length))=s2:=by refine uQ ((jY o1).filter _) (jY o2) ?_ (p2.nodup_iff.mpr hI.nd) λz=>?_;exact yw.nodup<|p1.nodup_iff.mpr<|Je hs;rw[yo,h.wt,og,Bool.not_not,p1.mem_iff,p2.mem_iff];constructor;rintro⟨_,hz⟩;obtain⟨ws,tU⟩:=Option.isSome_iff_exists.mp hz;exact zh.mpr {_,mB tU,rfl};intro hz;obtain⟨ws,tU⟩:=jE hz;refine{?_,by rw[tU];rfl};have e:=h.eq z;unfold pQ at e;rw[tU]at e;cases q:lu rs z with|none=>(rw[q]at e;cases e)|some s=>exact NG q
 unfold dZ FI;rw[e];refine zS λz _=>?_;unfold tR;rw[h.wt]
theorem QD(hI:KI cs kn)(p:ss.Perm (kn.map (·.1))):∀d∈FI kn ss,Ly S 60 d:=λd hd=>by
 obtain⟨z,hz,rfl⟩:=zh.mp hd;obtain⟨ws,tU⟩:=jE<|p.mem_iff.mp hz;obtain⟨hzK,hwg⟩:=hI.ok _<|mB tU;have e:pQ kn z=.tup ws:=by unfold pQ;rw[tU]
 rw[e];refine(Ly.tup (n:=1) λx hx=>?_).le (by decide);simp only[zj,zM,or_false]at hx;rcases hx with rfl|rfl;exact(Ly.str (fH z hzK).2.2).le (by decide);exact hwg.ly
noncomputable def oh(k:Nat)(l:List Std):List Std:=match l.getLast? with|none=>l|some s=>match s.e with|none=>ik k l|some _=>l
theorem oY(h:s.e=none):oh k (r++[s])=r++[Std.mk s.b (some k) s.ws]:=by unfold oh;rw[List.getLast?_concat];dsimp only;rw[h];exact eI _ _ _
theorem Ai(h:s.e=some n):oh k (r++[s])=r++[s]:=by unfold oh;rw[List.getLast?_concat];dsimp only;rw[h]
theorem Md{s:Std}{r:List Std}{m:Nat}(h:m<s.b):Iq (s::r) m=Iq r m:=by show(if (s.b:Int)<=(m:Int) then _ else Iq r m)=_;rw[if_neg<|by lia]
theorem FJ(hm:m<=n):wt (oh n l) m=wt l m:=by by_cases e:l=[];subst e;rfl;obtain⟨r,s,rfl⟩:=jT e;cases q:s.e with|some k=>rw[Ai q]|none=>rw[oY q];unfold wt;rw[List.reverse_append,List.reverse_append];show(if (s.b:Int)<=(m:Int) then (if (m:Int)<=(n:Int) then D.tup s.ws else .av) else Iq r.reverse m)=(if (s.b:Int)<=(m:Int) then (match s.e with|none=>.tup s.ws|some n=>if (m:Int)<=(n:Int) then .tup s.ws else .av) else Iq r.reverse m);rw[q,if_pos<|show(m:Int)<=(n:Int) by lia]
theorem Cj(h:cur l≠.av):oh n l=ik n l:=by by_cases e:l=[];subst e;rfl;obtain⟨r,s,rfl⟩:=jT e;rw[jG]at h;cases q:s.e with|none=>rw[oY q,eI]|some m=>unfold Mb at h;rw[q]at h;exact absurd rfl h
theorem FK:u9 "list"= some Kz:=(if_neg<|by decide).trans<|(if_neg<|by decide).trans<|(if_neg<|by decide).trans<|(if_neg<|by decide).trans<|if_pos rfl
noncomputable def iK(kn:Kn)(ss:List Str):List Row:=ss.map λz=>(z,(iq kn z).getD [])
structure Snap(rs:mW)(cs:List (Str×Str))(m:Nat)(rows:List Row):Prop where
 ex:∃kn ss,rows=iK kn ss/\KI cs kn/\ss.Perm (kn.map (·.1))/\PyProof.Rows.sortedS ss=true/\∀z,wt ((lu rs z).getD []) m=pQ kn z
theorem jZ(p:ss.Perm (kn.map (·.1))):(iK kn ss).map ai=FI kn ss:=by unfold iK FI;rw[zy];refine zS λz hz=>?_;obtain⟨ws,tU⟩:=jE<|p.mem_iff.mp hz;show D.tup [.str z,.tup<|(iq kn z).getD []]=.tup [.str z,pQ kn z];unfold pQ;rw[tU];rfl
theorem Jg(hI:KI cs kn)(p:ss.Perm (kn.map (·.1))):Rg cs (iK kn ss):=by refine{λr hr=>?_,?_};obtain⟨z,hz,rfl⟩:=zh.mp hr;obtain⟨ws,tU⟩:=jE<|p.mem_iff.mp hz;show Wg cs ((iq kn z).getD []);rw[tU];exact(hI.ok _<|mB tU).2;unfold iK;rw[zy];show(ss.map id).Nodup;rw[List.map_id];exact p.nodup_iff.mpr hI.nd
theorem FL(hI:KI cs kn)(p:ss.Perm (kn.map (·.1))):(iK kn ss).length<=60:=by unfold iK;rw[zb,p.length_eq,zb];exact hI.len
theorem Snap.rg(h:Snap rs cs m rows):Rg cs rows/\rows.length<=60:=by obtain⟨kn,ss,rfl,hI,p,_⟩:=h.ex;exact{Jg hI p,FL hI p}
theorem Snap.key(h:Snap rs cs m rows):∀r∈rows,r.1∈KS:=by obtain⟨kn,ss,rfl,hI,p,_⟩:=h.ex;intro r hr;obtain⟨z,hz,rfl⟩:=zh.mp hr;obtain⟨ws,tU⟩:=jE<|p.mem_iff.mp hz;exact(hI.ok _<|mB tU).1
theorem FN{C a:Addr}{S:aw}{F:List Addr}{cs:List<|Str×Str}{dl:List D}{rs:mW}{m:Nat}{rows:List Row}(h:Snap rs cs m rows)(hs:cA C S a F cs dl rs){ss:List Str} (p1:ss.Perm (rs.map (·.1))) (o1:PyProof.Rows.sortedS ss=true):dZ rs m ss=rows.map ai:=by
 obtain⟨kn,s2,rfl,hI,p2,o2,hw⟩:=h.ex;rw[jZ p2];have e:ss.filter (λz=>!ah (wt ((lu rs z).getD []) m))=s2:=by refine uQ ((jY o1).filter _) (jY o2) ?_ (p2.nodup_iff.mpr hI.nd) λz=>?_;exact yw.nodup<|p1.nodup_iff.mpr<|Je hs;rw[yo,hw,og,Bool.not_not,p1.mem_iff,p2.mem_iff];constructor;rintro⟨_,hz⟩;obtain⟨ws,tU⟩:=Option.isSome_iff_exists.mp hz;exact zh.mpr {_,mB tU,rfl};intro hz;obtain⟨ws,tU⟩:=jE hz;refine{?_,by rw[tU];rfl};have e:=hw z;unfold pQ at e;rw[tU]at e;cases q:lu rs z with|none=>(rw[q]at e;cases e)|some s=>exact NG q
 unfold dZ FI;rw[e];refine zS λz _=>?_;unfold tR;rw[hw]
def HI(rs:mW)(cs:List<|Str×Str)(n:Nat)(hs:List<|List Row):Prop:=hs.length=n+1/\∀m rows,hs[m]?=some rows->Snap rs cs m rows
theorem HI.step{rs c9:mW}{cs:List<|Str×Str}{n:Nat}{hs:List<|List Row}(h:HI rs cs n hs)(old:∀z m,m<=n->wt ((lu c9 z).getD []) m=wt ((lu rs z).getD []) m){kn:Kn}(hI:KI cs kn)(hR:RI c9 (n+1) kn){ss:List Str}(p:ss.Perm (kn.map (·.1)))(o:PyProof.Rows.sortedS ss=true):HI c9 cs (n+1) (hs++[iK kn ss]):=by
 refine{by rw[zC,h.1];rfl,λm rows e=>?_};by_cases hm:m<hs.length;rw[List.getElem?_append_left hm]at e;obtain⟨kn0,s0,e0,h1,h2,h3,h4⟩:=(h.2 m rows e).ex;have:=h.1;exact{kn0,s0,e0,h1,h2,h3,λz=>(old z m<|by lia).trans<|h4 z};rw[List.getElem?_append_right<|by lia]at e;have Nb:m-hs.length=0:=by cases q:m-hs.length with|zero=>rfl|succ k=>rw[q]at e;simp at e
 rw[Nb]at e;cases e;have:=h.1;have hmn:m=n+1:=by lia
 subst hmn;exact{kn,ss,rfl,hI,p,o,λz=>hR.wt z}
theorem QE{l:List Std}{n m:Nat}{ws:List D}(hm:m<=n):wt (l++[Std.mk (n+1) none ws]) m=wt l m:=by unfold wt;rw[List.reverse_append];exact Md<|show m<n+1 by lia
theorem DU(k:Str)(m:Nat)(hm:m<=n):wt ((lu (tQ rs z (n+1) ws) k).getD []) m=wt ((lu rs k).getD []) m:=by unfold tQ;rw[jB];by_cases e:k=z;rw[if_pos e,e];exact QE hm;rw[if_neg e]
theorem DV(h:RI rs n kn)(hz:(iq kn z).isSome=true)(k:Str)(m:Nat)(hm:m<=n):wt ((lu (nX rs z n) k).getD []) m=wt ((lu rs k).getD []) m:=by
 unfold nX;rw[jB];by_cases e:k=z;rw[if_pos e,e];have hc:cur ((lu rs z).getD [])≠.av:=by rw[h.eq];unfold pQ;cases q:iq kn z with|none=>(rw[q]at hz;cases hz)|some ws=>exact λe=>by cases e
 show wt (ik n<|(lu rs z).getD []) m=_;rw[<-Cj hc,FJ hm];rw[if_neg e]
theorem DX(hz:z∈KS):Gt S (.str z):=DN<|by have:=(fH z hz).2.1;lia
section
variable{t:gY}{S:aw}{a:Addr}{F:List Addr}{cs:List (Str×Str)}{dl:List D}{rs:mW}{kn:Kn}{d:D}{R:KD}{Z:KX}
theorem Jh(hz:z∈KS)(h:Wg cs ws):nU cs (.str z) (.tup ws)=true:=by unfold nU;rw[h.Qy,show ofStr kf (.str z)=true from(fH z hz).1];rfl
theorem Ck(hR:RI rs dl.length kn)(hz:z∈KS):ah (AK rs (.str z) dl.length)=!(iq kn z).isSome:=by rw[hR.AK hz,og]
theorem Vb(h:iq kn z=none):(!(iq kn z).isSome)=true:=by rw[h];rfl
theorem Ji(h:(iq kn z).isSome=true):(!(iq kn z).isSome)=false:=by rw[h];rfl
theorem tf{b:Bool}(h1:b=true)(h2:b=false){p:Prop} : p:=by rw[h1]at h2;cases h2
theorem cA.out(hS:cA C S a F cs dl rs)(hb:S b=none):b∉F:=λm=>by obtain⟨ld,lr,ra,h,rfl,_⟩:=hS;unfold fp at m;simp only[zj,zh]at m;rcases m with e|e|e|⟨r,hr,e⟩;have:=h.ins;rw[<-e,hb]at this;cases this;have:=h.y1;rw[<-e,hb]at this;cases this;have:=h.run;rw[<-e,hb]at this;cases this;have:=h.cell r hr;rw[e,hb]at this;cases this
theorem cA.off(hS:cA C S a F cs dl rs)(hp:p∉F):cA C (S.set p c) a F cs dl rs:=by obtain⟨ld,lr,ra,hh,rfl,e2⟩:=hS;unfold fp at hp;simp only[zj,not_or]at hp;obtain⟨n1,n2,n3,n4⟩:=hp;exact{ld,lr,ra,{(ag<|Ne.symm n1).trans hh.ins,(ag<|Ne.symm n2).trans hh.y1,(ag<|Ne.symm n3).trans hh.run,λr hr=>(ag λe=>n4<|by rw[<-e];exact zh.mpr ⟨r,hr,rfl⟩).trans<|hh.cell r hr,hh.kn,hh.an,hh.sz},rfl,e2}
structure Dos(t:gY)(ds:List D)(S:aw)(R:KD)(Z:KX):Prop where
 of:B9 t ds S R Z
theorem FO(hS:cA t.ao S a F cs dl rs)(hg:Gd cs)(hI:KI cs kn)(hR:RI rs dl.length kn)(hl:dl.length<=100)(hd:GD KS cs kn d){qk:Kn}(ZJ:Zu kn d qk) (q:∀S' F' c9,cA t.ao S' a F' cs (dl++[d]) c9->B5 F F' S S'->RI c9 (dl.length+1) qk->(∀z m,m<=dl.length->wt ((lu c9 z).getD []) m=wt ((lu rs z).getD []) m)->R .av S'):Dos t [.ref a,d] S R Z:=by
 have ZH:=hR.len hS;have Vc:=hg.1;obtain⟨ld,lr,ra,h,_,_⟩:=id hS;refine{a,_,h.ins,rfl,?_};rcases hd with⟨z,ws,hz,hw,hn,rfl⟩|⟨z,ws,hz,hw,hn,rfl⟩|⟨z,hz,hn,rfl⟩;have ro:=Jh hz hw;have st:=(Ck hR hz).trans<|Vb hn;refine .inl {_,_,rfl,a,F,cs,_,rs,_,_,rfl,hS,Vc,DX hz,hw.gts Vc,by lia,by lia,λe=>tf ro e,λ_ e=>tf st e,λz' Ws e1 e2 _ _ S' F' qd hK=>?_};cases e1;cases e2;have Vd:qk=pN kn z ws:=by rcases ZJ with⟨n,y,vs,_,e1,e2⟩|⟨y,_,e1,_⟩<;>cases e1;exact e2
 subst Vd;exact q S' F' _ qd hK (hR.put hz) DU;have ro:=Jh hz hw;have st:=(Ck hR hz).trans<|Ji hn;refine .inr<|.inl {_,_,rfl,a,F,cs,_,rs,_,_,rfl,hS,Vc,DX hz,hw.gts Vc,by lia,by lia,λe=>tf ro e,λ_ e=>tf e st,λz' Ws e1 e2 _ _ S' F' qd hK=>?_};cases e1;cases e2;have Vd:qk=pN kn z ws:=by rcases ZJ with⟨n,y,vs,_,e1,e2⟩|⟨y,_,e1,_⟩<;>cases e1;exact e2
 subst Vd;exact q S' F' _ qd hK (hR.change hz) λk m hm=>(DU k m hm).trans<|DV hR hn k m hm;have st:=(Ck hR hz).trans<|Ji hn;refine .inr<|.inr !{a,F,cs,_,rs,_,rfl,hS,DX hz,by lia,λe=>tf (fH z hz).1 e,λ_ e=>tf e st,λz' e1 _ _ S' qd hK=>?_};cases e1;have Vd:qk=wd kn z:=by rcases ZJ with⟨n,y,vs,_,e1,e2⟩|⟨y,_,e1,e2⟩<;>cases e1;exact e2
 subst Vd;exact q S' F _ qd hK (hR.del hz)<|DV hR hn
theorem Snap.vw(h:Snap rs cs m rows)(hS:cA t.ao S a F cs dl rs)(hR:RI rs dl.length kn)(hm:tP dl.length md=some (m:Int))(V9:Gt S md):Vw t.ao S a cs md rows:=by have:=h.rg;refine{{F,dl,rs,hS,by have:=hR.len hS;lia,(λe=>by rw[hm]at e;cases e),λi ss hi hp hs=>?_},V9,by lia,this.1};rw[hm]at hi;cases hi;exact FN h hS hp hs
end
def Wx(S:aw)(F:List Addr)(S':aw):Prop:=∀b c,S b=some c->b∉F/\S' b=some c
theorem Wx.sub(h:Wx S F S'):Sub S S':=λb c e=>(h b c e).2
theorem KI.nil(cs:List<|Str×Str):KI cs []:={List.nodup_nil,λ_ h=>(nomatch h)}
theorem mL(ns:List Int)(lo hi:Option Int):cD (ns.map D.int) lo hi=(cD ns lo hi).map D.int:=by unfold cD;rw[zb,List.map_take,List.map_drop]
structure St(t:gY)(S0:aw)(a:Addr)(fs:List (Addr×Ce))(F:List Addr)(cs:List (Str×Str))(dl:List D)(rs:mW)(S:aw):Prop where
 sh:cA t.ao S a F cs dl rs
 fa:∀x∈fs,S x.1=some x.2/\x.1∉F/\S0 x.1=none
 nd:(fs.map Prod.fst).Nodup
 Jj:Wx S0 F S
section
variable{t:gY}{S0:aw}{a:Addr}{fs:List (Addr×Ce)}{F:List Addr}{cs:List (Str×Str)}{dl:List D}{rs:mW}{S:aw}
theorem St.at(h:St t S0 a fs F cs dl rs S)(i:Nat)(e:fs[i]?=some (b,c)):S b=some c:=(h.fa _<|zE e).1
theorem St.sub(h:St t S0 a fs F cs dl rs S)(b:Sub S S'):St t S0 a fs F cs dl rs S':={h.sh.sub b,λx hx=>{b _ _ (h.fa x hx).1,(h.fa x hx).2},h.nd,λx c hx=>{(h.Jj x c hx).1,b _ _ (h.Jj x c hx).2}}
theorem St.zero(h:St t S0 a fs F cs dl rs S)(hb:S b=none):S0 b=none:=by cases e:S0 b with|none=>rfl|some c=>have:=h.Jj.sub _ _ e;rw[hb]at this;cases this
theorem St.new(h:St t S0 a fs F cs dl rs S)(hp:S p=none)(c:Ce):St t S0 a (fs++[(p,c)]) F cs dl rs (S.set p c):=by
 have h1:=h.sub<|.new (c:=c) hp;refine{h1.sh,λx hx=>?_,?_,h1.Jj};rcases zP.mp hx with hx|hx;exact h1.fa x hx;rw[zI.mp hx];exact{aa,h.sh.out hp,h.zero hp};rw[zK,List.nodup_append];refine{h.nd,by simp,λx hx y hy e=>?_};obtain⟨z,hz,rfl⟩:=zh.mp hx;have hy:y=p:=by simpa using hy
 have:=(h.fa z hz).1;rw[e,hy,hp]at this;cases this
theorem St.put(h:St t S0 a fs F cs dl rs S)(i:Nat)(e:fs[i]?=some (b,c))(c':Ce):St t S0 a (fs.set i (b,c')) F cs dl rs (S.set b c'):=by
 have hb:=h.fa _<|zE e;have hi:=(ze.mp e).1;have em:(fs.set i (b,c')).map Prod.fst=fs.map Prod.fst:=by refine List.ext_getElem? λj=>?_;rw[zi,zi];by_cases q:j=i;subst q;rw[List.getElem?_set_self hi,e];rfl;rw[List.getElem?_set_ne<|Ne.symm q]
 refine{h.sh.off hb.2.1,λx hx=>?_,by rw[em];exact h.nd,λx c hx=>{(h.Jj x c hx).1,(ag<|gq hx hb.2.2).trans (h.Jj x c hx).2}};obtain⟨j,hj⟩:=yt hx;by_cases q:j=i;subst q;rw[List.getElem?_set_self hi]at hj;cases hj;exact⟨aa,hb.2⟩;rw[List.getElem?_set_ne<|Ne.symm q]at hj;have Lg:=h.fa x<|zE hj;refine{(ag λe2=>q ?_).trans Lg.1,Lg.2};have a1:(fs.map Prod.fst)[j]?=some x.1:=by rw[zi,hj];rfl
 have a2:(fs.map Prod.fst)[i]?=some b:=by rw[zi,e];rfl
 obtain⟨b1,c1⟩:=ze.mp a1;obtain⟨b2,c2⟩:=ze.mp a2;exact(List.getElem_inj h.nd (h₀:=b1) (h₁:=b2)).mp<|by rw[c1,c2];exact e2
theorem St.perm(h:St t S0 a fs F cs dl rs S)(p:QX.Perm fs):St t S0 a QX F cs dl rs S:={h.sh,λx hx=>h.fa x<|p.mem_iff.mp hx,(p.map _).nodup_iff.mpr h.nd,h.Jj}
theorem St.less(h:St t S0 a fs F cs dl rs S)(n:(QX.map Prod.fst).Nodup)(p:∀x∈QX,x∈fs):St t S0 a QX F cs dl rs S:={h.sh,λx hx=>h.fa x<|p x hx,n,h.Jj}
theorem St.ZK(h:St t S0 a fs F cs dl rs S)(hS:cA t.ao S' a F' cs dl' c9)(hK:B5 F F' S S'):St t S0 a fs F' cs dl' c9 S':={hS,λx hx=>by obtain⟨h1,h2,h3⟩:=h.fa x hx;exact by obtain⟨k1,k2⟩:=hK _ _ h2 h1;exact⟨k2,k1,h3⟩,h.nd,λx c hx=>by obtain⟨h1,h2⟩:=h.Jj x c hx;exact hK _ _ h1 h2}
end
abbrev RC:=List<|Addr×List Row
noncomputable def Ve(x:Addr×List Row):Addr×Ce:=(x.1,.lst<|x.2.map ai)
theorem QF(hk:r.1∈KS)(hw:Wg cs r.2):Ly S 60 (ai r):=by refine(Ly.tup (n:=1) λx hx=>?_).le (by decide);simp only[zj,zM,or_false]at hx;rcases hx with rfl|rfl;exact(Ly.str (fH _ hk).2.2).le (by decide);exact hw.ly
theorem Vw.sub(h:Vw C S a cs m rows)(b:Sub S S'):Vw C S' a cs m rows:=by obtain⟨F,dl,rs,h1,h2⟩:=h.sh;exact{{F,dl,rs,h1.sub b,h2},h.mo.sub b,h.len,h.rg}
theorem oZ(q:R (.bl<|if neg then !(x==y) else (x==y)) S):Gb neg (.bl x) (.bl y) S R:=⟨.bool x,.bool y,by simp only[Dl,Dp],by simp only[Dl,Dp],by simp only[PyData.canLay0],by simp only[PyData.canLay0],.inl<|by simp only[PyData.depth];lia,by
 have e:PyData.eqv (.bool x) (.bool y)=(x==y):=by cases x<;>cases y<;>rfl
 rw[e];exact q⟩
theorem NH(q:R (.bl<|if neg then !decide (i=j) else decide (i=j)) S):Gb neg (.str i) (.str j) S R:=q
noncomputable def cV(w e:Str)(x y:D):Int:=if jV x y=true then 0 else if cB ("",w,e) x y=true then -1 else 1
def Cm(x y:D):Prop:=∃k,Vg k x/\Vg k y
theorem iL{w e:Str}(h:Cm x y):cV w e x y=0↔x=y:=by obtain⟨k,hx,hy⟩:=h;unfold cV;by_cases q:jV x y=true;rw[if_pos q];simpa using (aT hx.2 hy.2).mp q;rw[if_neg q];have q':¬x=y:=λz=>q<|(aT hx.2 hy.2).mpr z;constructor;intro z;split at z<;>cases z;exact λz=>absurd z q'
theorem o9{w e:Str}(h:Cm x y):cV w e x y<0↔x≠y/\cB ("",w,e) x y=true:=by obtain⟨k,hx,hy⟩:=h;unfold cV;by_cases q:jV x y=true;rw[if_pos q];have:=(aT hx.2 hy.2).mp q;simp[this];rw[if_neg q];have q':¬x=y:=λz=>q<|(aT hx.2 hy.2).mpr z;by_cases l:cB ("",w,e) x y=true;rw[if_pos l];simp[q',l];rw[if_neg l];simp[l]
theorem Me{w e:Str}(h:Cm x y):cV w e y x<0↔0<cV w e x y:=by
 have h':Cm y x:=by obtain⟨k,a,b⟩:=h;exact⟨k,b,a⟩
 rw[o9 h'];obtain⟨k,hx,hy⟩:=h;unfold cV;by_cases q:jV x y=true;rw[if_pos q];have:=(aT hx.2 hy.2).mp q;simp[this];rw[if_neg q];have q':¬x=y:=λz=>q<|(aT hx.2 hy.2).mpr z;have:=n8 (p:=("",w,e)) hx hy q';rw[this];cases cB ("",w,e) x y<;>simp[Ne.symm q']
inductive cO (ds:List D) (S:aw) (R:KD) (Z:KX):Prop where
 |mk (x y wy e) (h0:ds=[x,y,.str e]) (h1:Cm x y) (h2:(x=.av\/y=.av)) (h3:R (.int<|cV wy e x y) S)
theorem iS(T:Txt w K mg t):Ok P w base T.du 1 cO:=by
 refine T.du.F.bV dJ ?_;rintro _ _ _ _ _ _ _ S R Z hr ⟨x,y,wy,e,e0,⟨k,hx,hy⟩,hn,q⟩;subst e0;refine{_,(sc (si (twd<|twand (bf fh hr.u (dv 0) dn)<|tw1<|bf fh hr.u (dv 1) dn) (s1<|sr di) s0)<|sc (cG (i:=3) dJ.nd<|cm aU hr.u (dv 2) ds)<|s1<|sr<|Rh (bf aU hr.u (dv 3)<|cm fh hr.u (dv 0) dn) (K9 di) di),?_};unfold cV at q;refine !!⟨bT (λh=>!!⟨bT (λh2=>?_) λh2=>?_⟩) λh=>?_⟩;rw[cZ h,cZ h2]at q;exact fo q;have e1:ah x≠ah y:=by rw[show ah x=true from h,show ah y=false from h2];decide
 rw[wo e1,if_neg zd]at q;unfold cB at q;rw[show ah x=true from h,show ah y=false from h2]at q;refine !!!⟨?_⟩;dsimp only[dC,Ye];refine oZ !⟨?_⟩;have q:R (.int<|if (ah x==decide (e ="first"))=true then -1 else 1) S:=by rw[show ah x=true from h];exact q
 rw[Bool.beq_comm]at q;refine bT (λz=>?_) λz=>?_;rw[if_pos<|show(decide (e ="first")==ah x)=true from z]at q;exact{_,rfl,fo q};rw[if_neg λz2=>tf z2<|show(decide (e ="first")==ah x)=false from z]at q;exact fo q;have hy1:ah y=true:=by rcases hn with rfl|rfl;cases h;rfl
 have e1:ah x≠ah y:=by rw[show ah x=false from h,hy1];decide
 rw[wo e1,if_neg zd]at q;unfold cB at q;rw[show ah x=false from h,hy1]at q;refine !!!⟨?_⟩;dsimp only[dC,Ye];refine oZ !⟨?_⟩;have q:R (.int<|if (ah x==decide (e ="first"))=true then -1 else 1) S:=by rw[show ah x=false from h];exact q
 rw[Bool.beq_comm]at q;refine bT (λz=>?_) λz=>?_;rw[if_pos<|show(decide (e ="first")==ah x)=true from z]at q;exact{_,rfl,fo q};rw[if_neg λz2=>tf z2<|show(decide (e ="first")==ah x)=false from z]at q;exact fo q
inductive so (ds:List D) (S:aw) (R:KD) (Z:KX):Prop where
 |mk (x y wy e) (h0:ds=[x,y,.str wy,.str e]) (h1:Cm x y) (h2:R (.int<|cV wy e x y) S)
theorem o_(T:Txt w K mg t):Ok P w base T.compared 2 so:=by refine T.compared.F.bV oJ ?_;rintro _ _ _ _ _ _ _ S R Z hr ⟨x,y,wy,e,e0,hc,q⟩;subst e0;obtain⟨k,hx,hy⟩:=id hc;refine{_,(sc (si (twd<|twor (bf fh hr.u (dv 0) dn)<|tw1<|bf fh hr.u (dv 1) dn) (s1<|sr<|aY T.du (iS T) hr<|al 0<|al 1<|al 3 an) s0)<|sc (si (bf aU hr.u (dv 0)<|dv 1) (s1<|sr di) s0)<|sc (cG (i:=4) oJ.nd<|cm pC hr.u (dv 0)<|dv 1)<|s1<|sr<|Rh (bf aU hr.u (dv 4)<|cm aU hr.u (dv 2) ds) (K9 di) di),?_};have none:∀Zq:KX,x=.av\/y=.av->cO [x,y,.str e] S (λd S'=>Fo S'<|R d) Zq:=λ_ hn=>{x,y,wy,e,rfl,hc,hn,fo q};refine !!⟨bT (λh=>?_) λh=>!!⟨bT (λh2=>?_) λh2=>?_⟩⟩;exact !!!⟨none _<|.inl<|cZ h⟩;exact !!!⟨none _<|.inr<|cZ h2⟩;clear none;have nx:ah x=false:=h;have ny:ah y=false:=h2;unfold cV at q;refine !!⟨mG hx.2 hy.2 !⟨bT (λh3=>?_) λh3=>?_⟩⟩;have h3:jV x y=true:=h3;rw[if_pos h3]at q;exact fo q;have h3:jV x y=false:=h3;rw[h3,if_neg zd]at q;unfold cB at q;rw[nx,ny]at q;have q:R (.int<|if (tT x y==decide (wy ="up"))=true then -1 else 1) S:=q;rcases lA hx hy (aX nx) (aX ny) with⟨i,j,rfl,rfl⟩|⟨i,j,rfl,rfl⟩;refine !!!!⟨?_⟩;dsimp only[dC];refine NH ?_;refine oZ ?_;refine{_,rfl,?_};refine bT (λz=>?_) λz=>?_;rw[if_pos<|show(tT (.int i) (.int j)==decide (wy ="up"))=true from z]at q;exact{_,rfl,fo q};rw[if_neg λz2=>tf z2<|show(tT (.int i) (.int j)==decide (wy ="up"))=false from z]at q;exact fo q;refine !!!!⟨?_⟩;dsimp only[dC];refine NH ?_;refine oZ ?_;refine{_,rfl,?_};refine bT (λz=>?_) λz=>?_;rw[if_pos<|show(tT (.str i) (.str j)==decide (wy ="up"))=true from z]at q;exact{_,rfl,fo q};rw[if_neg λz2=>tf z2<|show(tT (.str i) (.str j)==decide (wy ="up"))=false from z]at q;exact fo q
noncomputable def kF(ps:List Part)(wy:Str):List (Str×Str):=ps.map Prod.snd++[(wy,("last": Str))]
noncomputable def bH:List (Str×Str)->List D->List D->Int|w::ws,x::xs,y::ys=>(if cV w.1 w.2 x y=0 then bH ws xs ys else cV w.1 w.2 x y)|_,_,_=>0
def PV(ks:List Str)(xs:List D):Prop:=Paired (λk x=>Vg k x) ks xs
theorem mM:∀{ws:List (Str×Str)}{ks:List Str}{xs ys:List D},ws.length=ks.length->PV ks xs->PV ks ys->(bH ws xs ys=0↔xs=ys)|[],_,_,_,h,.nil,.nil=>by simp[bH]|w::ws,_,_,_,h,.cons (b:=x) a1 a2,.cons (b:=y) b1 b2=>by unfold bH;have c:=iL (w:=w.1) (e:=w.2) {_,a1,b1};by_cases q:cV w.1 w.2 x y=0;rw[if_pos q,mM (Nat.succ.inj h) a2 b2,c.mp q];simp;rw[if_neg q];exact{λz=>absurd z q,λz=>absurd (c.mpr (List.cons.inj z).1) q}
theorem Aj:∀{ws:List (Str×Str)}{ks:List Str}{xs ys:List D},PV ks xs->PV ks ys->(bH ws ys xs<0↔0<bH ws xs ys)|[],_,_,_,_,_=>by simp[bH]|w::ws,_,_,_,.nil,.nil=>by simp[bH]|w::ws,_,_,_,.cons (b:=x) a1 a2,.cons (b:=y) b1 b2=>by unfold bH;have c:=iL (w:=w.1) (e:=w.2) {_,a1,b1};have c':=iL (w:=w.1) (e:=w.2) {_,b1,a1};by_cases q:x=y;rw[if_pos<|c.mpr q,if_pos<|c'.mpr q.symm];exact Aj a2 b2;rw[if_neg λz=>q<|c.mp z,if_neg λz=>q (c'.mp z).symm];exact Me {_,a1,b1}
theorem Co:∀{ws:List (Str×Str)}{ks:List Str}{xs ys zs:List D},PV ks xs->PV ks ys->PV ks zs->bH ws xs ys<0->bH ws ys zs<0->bH ws xs zs<0|[],_,_,_,_,_,_,_,h,_=>by simp[bH]at h|w::ws,_,_,_,_,.nil,.nil,.nil,h,_=>by simp[bH]at h|w::ws,_,_,_,_,.cons (b:=x) a1 a2,.cons (b:=y) b1 b2,.cons (b:=z) c1 c2,h1,h2=>by unfold bH at h1 h2⊢;have e1:=iL (w:=w.1) (e:=w.2) {_,a1,b1};have e2:=iL (w:=w.1) (e:=w.2) {_,b1,c1};have e3:=iL (w:=w.1) (e:=w.2) {_,a1,c1};by_cases q1:x=y;subst q1;rw[if_pos<|e1.mpr rfl]at h1;by_cases q2:x=z;subst q2;rw[if_pos<|e2.mpr rfl]at h2⊢;exact Co a2 b2 c2 h1 h2;rw[if_neg λz=>q2<|e2.mp z]at h2⊢;exact h2;rw[if_neg λz=>q1<|e1.mp z]at h1;by_cases q2:y=z;subst q2;rw[if_neg λz=>q1<|e3.mp z];exact h1;rw[if_neg λz=>q2<|e2.mp z]at h2;obtain⟨q3,l3⟩:=DL (p:=("",w.1,w.2)) a1 b1 c1 q1 q2 ((o9 {_,a1,b1}).mp h1).2 ((o9 {_,b1,c1}).mp h2).2;rw[if_neg λz=>q3<|e3.mp z];exact(o9 {_,a1,c1}).mpr ⟨q3,l3⟩
noncomputable def FP(cs:List<|Str×Str)(z:Str):Str:=((cs[IK cs z]?).map Prod.snd).getD "word"
noncomputable def Vf(cs:List<|Str×Str)(ps:List Part):List Str:=ps.map (λp=>FP cs p.1)++[("word": Str)]
noncomputable def sO(cs:List<|Str×Str)(ps:List Part)(r:Row):List D:=ps.map (λp=>aj cs r.2 p.1)++[.str r.1]
theorem kG:∀z∈KS,Vg "word" (.str z):=by
 have h:∀z∈KS,(oN z&&bc (.str z))=true:=by trivial
 exact λz hz=>let q:=Bool.and_eq_true_iff.mp<|h z hz;⟨q.1,q.2⟩
theorem lC:∀{l:List α}{m:List β}{l':List α}{m':List β},Paired r l m->Paired r l' m'->Paired r (l++l') (m++m')|_,_,_,_,.nil,h=>h|_,_,_,_,.cons a t,h=>.cons a<|lC t h
theorem oi(hg:Gd cs)(hp:Pin cs ps)(hw:Wg cs ws):Paired (λk x=>Vg k x) (ps.map λp=>FP cs p.1) (ps.map λp=>aj cs ws p.1):=by induction ps with|nil=>exact .nil|cons p ps ih=>refine .cons ?_<|ih hp.tail;obtain⟨c,hc,e⟩:=hp p zm;show Vg (FP cs p.1) (aj cs ws p.1);unfold FP;rw[<-e,(n6 hg hc).1];exact(jU hg hw hc).2
theorem su(hg:Gd cs)(hp:Pin cs ps)(hw:Wg cs r.2)(hk:r.1∈KS):PV (Vf cs ps) (sO cs ps r):=lC (oi hg hp hw)<|.cons (kG _ hk) .nil
theorem DY(hg:Gd cs){wy:Str}(ha:Wg cs a.2)(hb:Wg cs b.2)(ka:a.1∈KS)(kb:b.1∈KS)(n:a.1≠b.1):∀{ps:List Part},Pin cs ps->(bG cs wy ps a b=true↔bH (kF ps wy) (sO cs ps a) (sO cs ps b)<0)|[],_=>(by show(nh a.1 b.1==decide (wy ="up"))=true↔(if cV wy "last" (.str a.1) (.str b.1)=0 then 0 else cV wy "last" (.str a.1) (.str b.1))<0;have n':(.str a.1:D)≠.str b.1:=λe=>n<|D.str.inj e;rw[if_neg λz=>n'<|(iL {_,kG _ ka,kG _ kb}).mp z,o9 {_,kG _ ka,kG _ kb}];exact{λh=>⟨n',h⟩,λh=>h.2})|p::ps,hp=>by obtain⟨k,hk⟩:=qm hg hp;have va:=hk _ ha;have vb:=hk _ hb;show(if jV (aj cs a.2 p.1) (aj cs b.2 p.1)=true then bG cs wy ps a b else cB p (aj cs a.2 p.1) (aj cs b.2 p.1))=true↔(if cV p.2.1 p.2.2 (aj cs a.2 p.1) (aj cs b.2 p.1)=0 then bH (kF ps wy) (sO cs ps a) (sO cs ps b) else cV p.2.1 p.2.2 (aj cs a.2 p.1) (aj cs b.2 p.1))<0;by_cases q:aj cs a.2 p.1=aj cs b.2 p.1;rw[if_pos<|(aT va.2 vb.2).mpr q,if_pos<|(iL {_,va,vb}).mpr q];exact DY hg ha hb ka kb n hp.tail;rw[if_neg λz=>q<|(aT va.2 vb.2).mp z,if_neg λz=>q<|(iL {_,va,vb}).mp z,o9 {_,va,vb}];exact{λh=>⟨q,h⟩,λh=>h.2}
noncomputable def Vh(ws:List<|Str×Str)(g:List D)(sd:Str)(x:List D):Bool:=decide (bH ws x g<0)||(decide (bH ws x g=0)&&decide (sd ="behind"))
theorem Vi{ws:List<|Str×Str}{ks:List Str}{g x y:List D}{sd:Str}(hl:ws.length=ks.length)(hx:PV ks x)(hy:PV ks y)(hg:PV ks g)(h:bH ws x y<0)(q:Vh ws g sd y=true):Vh ws g sd x=true:=by unfold Vh at q⊢;simp only[Bool.or_eq_true,zL,zR]at q⊢;rcases q with q|⟨q,_⟩;exact .inl<|Co hx hy hg h q;rw[<-(mM hl hy hg).mp q];exact .inl h
theorem Cp:∀{l:List α},(l.Pairwise λa b=>g b=true->g a=true)->∀{i:Nat}{a:α},l[i]?=some a->(g a=true↔i<l.countP g)
 |[],_,i,a,h=>by simp at h
 |x::l,hp,i,a,h=>by
  obtain⟨h1,h2⟩:=List.pairwise_cons.mp hp;rw[List.countP_cons];by_cases q:g x=true;rw[if_pos q];cases i with|zero=>(cases h;simp[q])|succ i=>rw[Cp h2<|show l[i]?=some a from h];lia
  have z:l.countP g=0:=List.countP_eq_zero.mpr λb hb e=>q<|h1 b hb e;rw[if_neg q,z];have:g a≠true:=by cases i with|zero=>(cases h;exact q)|succ i=>exact λe=>q<|h1 a (zE h) e
  simp[this]
theorem Jl{α:Type}{g:α->Bool}{l:List α}(hp:l.Pairwise λa b=>g b=true->g a=true){n:Nat}(hn:n<=l.length)(h1:∀i a,i<n->l[i]?=some a->g a=true)(h2:∀i a,n<=i->l[i]?=some a->g a=false):n=l.countP g:=by
 have hc:l.countP g<=l.length:=List.countP_le_length;rcases Nat.lt_trichotomy n (l.countP g) with h|h|h;have hi:n<l.length:=by lia
 have e:=zg hi;have:=(Cp hp e).mpr h;rw[h2 n _ (zr _) e]at this;cases this;exact h;have hi:l.countP g<l.length:=by lia
 have e:=zg hi;have:=(Cp hp e).mp<|h1 _ _ h e;lia
noncomputable def sv(xs:List D)(k:Str):D:=.tup [.tup xs,.str k]
abbrev wW:=List D×Str×Str
noncomputable def wu(g:wW):D:=.tup [sv g.1 g.2.1,.str g.2.2]
noncomputable def FQ:Option wW->D|none=>.av|some g=>wu g
noncomputable def DZ(z:Str):Bool:=decide (z ="ahead")||decide (z ="behind")
structure Gp(cs:List (Str×Str))(ps:List Part)(g:wW):Prop where
 pv:Paired (λk x=>Vg k x) (ps.map λp=>FP cs p.1) g.1
 key:g.2.1∈KS
 side:DZ g.2.2=true
def Bg(cs:List<|Str×Str)(ps:List Part)(b:Option wW):Prop:=∀g,b=some g->Gp cs ps g
noncomputable def sx(g:wW):List D:=g.1++[.str g.2.1]
theorem Gp.vs(h:Gp cs ps g):PV (Vf cs ps) (sx g):=lC h.pv<|.cons (kG _ h.key) .nil
theorem Gp.len(h:Gp cs ps g):g.1.length=ps.length:=by have:=yL h.pv;rw[zb]at this;exact this.symm
theorem Og.len(h:Og cs ps wy):ps.length<=8:=by have:=h.ok;unfold B_ at this;simp only[zL,zR]at this;exact this.1
theorem Cq(hg:Gd cs)(hc:c∈cs):c.1.cps.size<=1000:=by have h:=(hg.2.2 c hc).1;unfold kB at h;simp only[zL,zR]at h;lia
inductive uR (ds:List D) (S:aw) (R:KD) (Z:KX):Prop where
 |mk (z) (h0:ds=[.str z]) (h1:R (.bl<|DZ z) S)
theorem Cr(T:Txt w K mg t):Ok P w base T.vL 1 uR:=by refine T.vL.F.bV BQ ?_;obtain⟨z,e,q⟩;refine{_,(s1<|sr<|pB (cb cF T.au aq<|al 0<|ac (p7 T.oH i6) an)<|Ga<|YG T.vG (dv 0)<|dg (v:=.ref t.hW) T.tD rfl λ_=>fg _),?_};refine !{_,_,_,_,rfl,cQ,rfl,_,rfl,eC !{z,rfl,rfl,?_}};rw[IH];exact fo q
inductive fK (ds:List D) (S:aw) (R:KD) (Z:KX):Prop where
 |mk (cs ps xs) (h0:ds=[.tup<|cs.map ay,.tup<|ps.map p3,.tup xs]) (h1:Gd cs) (h2:Pin cs ps) (h3:ps.length<=8) (h4:Paired (λk x=>Vg k x) (ps.map λp=>FP cs p.1) xs) (h5:R (.bl true) S)
theorem kl(T:Txt w K mg t):Ok P w base T.dR 4 fK:=by
 refine T.dR.F.bV j_ ?_;obtain⟨cs,ps,xs,e,hg,hp,h8,hv,q⟩;have hl:xs.length=ps.length:=by have:=yL hv;rw[zb]at this;exact this.symm
 have RA:(ps.map p3).length=ps.length:=zb _;refine{_,(sc (si (twd<|twor (cg<|tv<|cb cF T.au aq<|al 2<|ac (p7 T.bu aW) an)<|tw1<|bf kQ hr.u (cb aK T.aI aC<|al 2 an)<|cb aK T.aI aC<|al 1 an) (s1<|sr db) s0)<|s1<|sr<|cb i_ T.jk fb<|ac (sZ (N:=["part","value","columns"]) (src:=[none,none,some 0]) (iT (ae kT) ["columns","parts","thing"] rfl rfl<|by trivial) (izn T.Ii<|al 1<|al 2 an) (Rj<|show(["part","value","columns"]:List Str).Nodup by trivial) (jM rfl rfl) jP (λ_ _ _ _ _=>oE) λ_ _ _ _ _=>(aY T.jm (jy T) hr<|ac (aY T.dQ (gx T) hr<|al 2<|ac (ix hr.u (dv 0) di) an)<|al 1 an)) an),?_};refine !{_,_,_,_,rfl,aV,rfl,_,rfl,aZ !!!!!⟨br (by rw[hl,RA];simp) ?_⟩};refine !!{_,_,rfl,by rw[hl,RA],?_};refine comp_map (λ_=>.bl true) trivial (by show(cE _ _).length<=_;unfold cE;rw[List.length_zipWith];lia) (λd hd Q hQ=>?_) λp kh=>?_;have hd:d∈cE (ps.map p3) xs:=hd;unfold cE at hd;obtain⟨i,ei⟩:=yt hd;obtain⟨x,y,e2,e3,e4⟩:=List.getElem?_zipWith_eq_some.mp ei;subst e4;rw[zi]at e2;cases e5:ps[i]? with|none=>(rw[e5]at e2;cases e2)|some pt=>rw[e5]at e2;cases e2;obtain⟨c,hc,ec⟩:=hp pt<|zE e5;obtain⟨k,ek,hk⟩:=b_ hv e3;rw[zi,e5]at ek;cases ek;have hk:Vg (FP cs pt.1) y:=hk;unfold FP at hk;rw[<-ec,(n6 hg hc).1]at hk;have hk:Vg c.2 y:=hk;refine !{rfl,_,_,rfl,_,_,rfl,rfl,_,rfl,_,rfl,_,rfl,cs,pt.1,rfl,hg,by rw[<-ec];exact Cq hg hc,λk' G0=>?_,λhn=>absurd (zh.mpr ⟨c,hc,ec⟩) hn};have e6:k'=c.2:=(by have:=f9 (f:=Prod.fst) hg.2.1 G0 hc ec.symm;rw[<-this]);rw[e6];refine !{c.2,y,rfl,DD hk,?_};rw[hk.1];exact hQ
 have e2:(cE (ps.map p3) xs).map (λ_=>D.bl true)=((cE (ps.map p3) xs).map λ_=>true).map D.bl:=by rw[zy];rfl
 have e3:((cE (ps.map p3) xs).map λ_=>true).all id=true:=by rw[all_map];exact ya.mpr λ_ _=>rfl
 refine{.ref p,(cE (ps.map p3) xs).map λ_=>true,rfl,?_,?_};show(S.set p<|.lst<|(cE (ps.map p3) xs).map _) p=_;rw[aa,e2];rw[e3];exact{S,.new kh,q}
inductive kH (ds:List D) (S:aw) (R:KD) (Z:KX):Prop where
 |mk (cs ps wy xs k) (h0:ds=[.tup<|cs.map ay,cw ps wy,sv xs k]) (h1:Gd cs) (h2:Pin cs ps) (h3:ps.length<=8) (h4:Paired (λk x=>Vg k x) (ps.map λp=>FP cs p.1) xs) (h5:k∈KS) (h6:R .av S)
theorem sy(T:Txt w K mg t):Ok P w base T.jo 5 kH:=by refine T.jo.F.bV rD ?_;obtain⟨cs,ps,wy,xs,k,e,hg,hp,h8,hv,hk,q⟩;refine{_,(sc (si (twd<|twor (cg<|tv<|cb cF T.au aq<|al 2<|ac (p7 T.bu aW) an)<|tw1<|bf kQ hr.u (cb aK T.aI aC<|al 2 an) di) (s1<|qR ⟨T.dr⟩ T.eF<|ac ds an) s0)<|sc (si (cg<|tv<|aY T.dR (kl T) hr<|al 0<|ac (ix hr.u (dv 1) di)<|ac (ix hr.u (dv 2) di) an) (s1<|qR ⟨T.dr⟩ T.eF<|ac ds an) s0)<|s1<|si (cg<|tv<|aY T.k8 (gM T) hr<|ac (ix hr.u (dv 2) di) an) (s1<|qR ⟨T.dr⟩ T.eF<|ac ds an) s0),?_};refine !{_,_,_,_,rfl,aV,rfl,_,rfl,aZ !!!⟨aZ ?_⟩};refine !!!!!{cs,ps,xs,rfl,hg,hp,h8,hv,_,rfl,aZ ?_};refine !!{.str k,rfl,DX hk,_,rfl,?_};rw[show ofStr kf (.str k)=true from(fH k hk).1];exact aZ<|fo q
inductive pb (ds:List D) (S:aw) (R:KD) (Z:KX):Prop where
 |mk (cs ps wy g) (h0:ds=[.tup<|cs.map ay,cw ps wy,wu g]) (h1:Gd cs) (h2:Pin cs ps) (h3:ps.length<=8) (h4:Gp cs ps g) (h5:R .av S)
theorem wA(T:Txt w K mg t):Ok P w base T.nM 6 pb:=by refine T.nM.F.bV vX ?_;obtain⟨cs,ps,wy,g,e,hg,hp,h8,hv,q⟩;refine{_,(sc (si (twd<|twor (cg<|tv<|cb cF T.au aq<|al 2<|ac (p7 T.bu aW) an)<|tw1<|bf kQ hr.u (cb aK T.aI aC<|al 2 an) di) (s1<|qR ⟨T.dr⟩ T.eF<|ac ds an) s0)<|sc (se<|aY T.jo (sy T) hr<|al 0<|al 1<|ac (ix hr.u (dv 2) di) an)<|s1<|si (cg<|tv<|aY T.vL (Cr T) hr<|ac (ix hr.u (dv 2) di) an) (s1<|qR ⟨T.dr⟩ T.eF<|ac ds an) s0),?_};refine !{_,_,_,_,rfl,aV,rfl,_,rfl,aZ !!!⟨aZ ?_⟩};refine !!!!{cs,ps,wy,g.1,g.2.1,rfl,hg,hp,h8,hv.pv,hv.key,?_};refine !!{g.2.2,rfl,_,rfl,?_};rw[hv.side];exact aZ<|fo q
inductive kI (ds:List D) (S:aw) (R:KD) (Z:KX):Prop where
 |mk (cs ps wy b) (h0:ds=[.tup<|cs.map ay,cw ps wy,FQ b]) (h1:Gd cs) (h2:Pin cs ps) (h3:ps.length<=8) (h4:Bg cs ps b) (h5:R .av S)
theorem sA(T:Txt w K mg t):Ok P w base T.js 7 kI:=by refine T.js.F.bV rE ?_;obtain⟨cs,ps,wy,b,e,hg,hp,h8,hv,q⟩;refine{_,(s1<|si (bf kP hr.u (dv 2) dn) (s1<|se<|aY T.nM (wA T) hr<|al 0<|al 1<|al 2 an) s0),?_};cases b with|none=>exact (!!⟨aZ<|fo q⟩)|some g=>exact !!⟨eC !!!{cs,ps,wy,g,rfl,hg,hp,h8,hv g rfl,fo q}⟩
inductive mO (ds:List D) (S:aw) (R:KD) (Z:KX):Prop where
 |mk (n:Int) (h0:ds=[.int n]) (h1:1<=n) (h2:n<=1000) (h3:R .av S)
theorem tV(T:Txt w K mg t):Ok P w base T.lh 2 mO:=by refine T.lh.F.bV tJ ?_;obtain⟨n,e,h1,h2,q⟩;refine{_,(s1<|si (twd<|twor (cg<|tv<|aY T.jl (jx T) hr<|al 0 an)<|tw1<|cg<|VW i8 i8 hr.u di (dv 0)<|dg (v:=.int 1000) T.vB {_,rfl} λ_=>aN _) (s1<|qR ⟨T.nJ⟩ T.BJ<|ac ds an) s0),?_};refine !{.int n,rfl,gt_int,_,rfl,aZ !!⟨gZ (zw h1) !⟨?_⟩⟩};exact br (by show(!decide (n<=1000))=false;rw[zw h2];rfl)<|fo q
inductive mP (ds:List D) (S:aw) (R:KD) (Z:KX):Prop where
 |mk (cs ps wy d n b) (h0:ds=[.tup<|cs.map ay,cw ps wy,d,.int n,FQ b]) (h1:Gd cs) (h2:Og cs ps wy) (h3:Sq cs d) (h4:1<=n) (h5:n<=1000) (h6:Bg cs ps b) (h7:R .av S)
theorem kJ(T:Txt w K mg t):Ok P w base T.ie 8 mP:=by refine T.ie.F.bV tI ?_;obtain⟨cs,ps,wy,d,n,b,e,hg,ho,hd,h1,h2,hv,q⟩;refine{_,(sc (se<|aY T.jn (rV T) hr<|al 0<|al 1 an)<|sc (se<|aY T.jq (rX T) hr<|al 0<|al 2 an)<|sc (se<|aY T.lh (tV T) hr<|al 3 an)<|s1<|se<|aY T.js (sA T) hr<|al 0<|al 1<|al 4 an),?_};refine !!{cs,ps,wy,rfl,hg,ho.tx,λ_=>?_,λz=>tf ho.ok z};refine !!{cs,d,rfl,hg,hd,_,rfl,n,rfl,h1,h2,?_};exact !!!{cs,ps,wy,b,rfl,hg,ho.pin,ho.len,hv,fo q}
structure An(cs:List (Str×Str))(ps:List Part)(wy:Str)(A:List Row):Prop where
 rg:Rg cs A
 ky:∀r∈A,r.1∈KS
 pw:A.Pairwise λa b=>bG cs wy ps a b=true
noncomputable def gP(cs:List<|Str×Str)(ps:List Part)(wy:Str)(g:wW)(r:Row):Bool:=Vh (kF ps wy) (sx g) g.2.2<|sO cs ps r
theorem wB:(kF ps wy).length=(Vf cs ps).length:=by unfold kF Vf;simp
theorem An.lex(hg:Gd cs)(hp:Pin cs ps)(h:An cs ps wy A):A.Pairwise λa b=>bH (kF ps wy) (sO cs ps a) (sO cs ps b)<0:=by have nd:A.Pairwise λa b=>a.1≠b.1:=List.pairwise_map.mp h.rg.2;refine(h.pw.and nd).imp_of_mem λ{a b} ha hb q=>?_;exact(DY hg (h.rg.1 a ha) (h.rg.1 b hb) (h.ky a ha) (h.ky b hb) q.2 hp).mp q.1
theorem An.mono(hg:Gd cs)(hp:Pin cs ps)(h:An cs ps wy A)(hv:Gp cs ps g):A.Pairwise λa b=>gP cs ps wy g b=true->gP cs ps wy g a=true:=by refine(h.lex hg hp).imp_of_mem λ{a b} ha hb q=>?_;exact Vi wB (su hg hp (h.rg.1 a ha)<|h.ky a ha) (su hg hp (h.rg.1 b hb)<|h.ky b hb) hv.vs q
inductive sC (ds:List D) (S:aw) (R:KD) (Z:KX):Prop where
 |mk (cs ps wy r) (h0:ds=[.tup<|cs.map ay,cw ps wy,ai r]) (h1:Gd cs) (h2:Pin cs ps) (h3:ps.length<=8) (h4:Wg cs r.2) (h5:R (sv (ps.map λp=>aj cs r.2 p.1) r.1) S)
theorem Al(T:Txt w K mg t):Ok P w base T.rq 3 sC:=by
 refine T.rq.F.bV oK ?_;obtain⟨cs,ps,wy,r,e,hg,hp,h8,hw,q⟩;refine{_,(sc (Hr (i:=3) (N:=["part","columns","row"]) (src:=[none,some 0,some 2]) oK.nd (iT (ae BF) ["columns","order","row","values"] rfl rfl<|by trivial) (Gg<|ix hr.u (dv 1) di) (oF<|show(["part","columns","row"]:List Str).Nodup by trivial) (aQ rfl) aR (λ_ _ _ _ _=>oE) λ_ _ _ _ _=>(aY T.cz (dA T) hr<|al 1<|al 2<|ac (ix hr.u (dv 0) di) an))<|s1<|sr<|cj<|ac (ct fS T.bu aW<|al 3 an)<|ac (ix hr.u (dv 2) di) an),?_};refine !!{_,.inl rfl,?_};refine comp_map (λd=>match d with|.tup (.str z::_)=>aj cs r.2 z|_=>.av) trivial (by show(ps.map p3).length<=_;rw[zb];lia) (λd hd Q hQ=>?_) λp kh=>?_;obtain⟨pt,ZL,rfl⟩:=zh.mp hd;obtain⟨c,hc,ec⟩:=hp pt ZL;refine !!!!{cs,r,c,(by rw[ec];rfl),hg,hw,hc,?_};rw[ec];exact hQ;have e3:(ps.map p3).map (λd=>match d with|.tup (.str z::_)=>aj cs r.2 z|_=>.av)=ps.map λp=>aj cs r.2 p.1:=by rw[zy];rfl
 rw[show({ps.map p3,λ_=>True}:oB).xs=ps.map p3 from rfl,e3];exact !{_,_,rfl,.inl aa,_,rfl,_,rfl,cu,S,.new kh,q}
inductive gf (ds:List D) (S:aw) (R:KD) (Z:KX):Prop where
 |mk (ps:List Part) (wy:Str) (xs:List D) (k:Str) (ys:List D) (l:Str) (ks:List Str) (h0:ds=[cw ps wy,sv xs k,sv ys l]) (h1:ps.length=xs.length) (h2:ps.length=ys.length) (h3:Paired (λk x=>Vg k x) ks xs) (h4:Paired (λk x=>Vg k x) ks ys) (h5:k∈KS) (h6:l∈KS) (h7:R (.int<|bH (kF ps wy) (xs++[.str k])<|ys++[.str l]) S)
theorem lE(T:Txt w K mg t):Ok P w base T.eM 3 gf:=by refine T.eM.F.bV bC ?_;obtain⟨ps,wy,xs,k,ys,l,ks,e,h1,h2,vx,vy,hk,hl,q⟩;refine{_,(sc (ux<|C9 (Ze T.Ii<|ac (ix hr.u (dv 0) di)<|ac (ix hr.u (dv 1) di)<|ac (ix hr.u (dv 2) di) an) (gt (n:=3)<|gc (gn (i:=3) bC.nd)<|gc (gn (i:=4) bC.nd)<|gc (gn (i:=5) bC.nd) g0)<|sc (cG (i:=6) bC.nd<|aY T.compared (o_ T) hr<|al 4<|al 5<|ac (ix hr.u (dv 3) di)<|ac (ix hr.u (dv 3) di) an)<|s1<|si (bf kQ hr.u (dv 6) di) (s1<|sr<|dv 6) s0)<|s1<|sr<|aY T.compared (o_ T) hr<|ac (ix hr.u (dv 1) di)<|ac (ix hr.u (dv 2) di)<|ac (ix hr.u (dv 0) di)<|ac ds an),?_};refine{λaB S'=>∃(o3 o4 o5 o6:Option D),aB=[some<|cw ps wy,some<|sv xs k,some<|sv ys l,o3,o4,o5,o6]/\S'=S/\bH (kF ps wy) (xs++[.str k]) (ys++[.str l])=cV wy "last" (.str k) (.str l),?_,?_};{refine !!!!!!{_,_,_,rfl,by rw[zb];exact h1,by rw[zb];exact h2,?_};refine{λi aB S'=>∃(o3 o4 o5 o6:Option D),aB=[some<|cw ps wy,some<|sv xs k,some<|sv ys l,o3,o4,o5,o6]/\S'=S/\bH (kF ps wy) (xs++[.str k]) (ys++[.str l])=bH (kF (ps.drop i) wy) (xs.drop i++[.str k]) (ys.drop i++[.str l]),{_,_,_,_,rfl,rfl,rfl},λ_ _ _ _=>trivial,?_,?_};rintro i d aB S' hd ⟨o3,o4,o5,o6,rfl,rfl,he⟩;obtain⟨x,y,z,e1,e2,e3,rfl⟩:=nE hd;rw[zi]at e1;(cases e5:ps[i]? with|none=>(rw[e5]at e1;cases e1)|some p=>rw[e5]at e1;cases e1;obtain⟨i1,g1⟩:=ze.mp e5;obtain⟨i2,g2⟩:=ze.mp e2;obtain⟨i3,g3⟩:=ze.mp e3;rw[yh i1,yh i2,yh i3,g1,g2,g3]at he;have he:_=if cV p.2.1 p.2.2 y z=0 then bH (kF (ps.drop<|i+1) wy) (xs.drop (i+1)++[.str k]) (ys.drop (i+1)++[.str l]) else cV p.2.1 p.2.2 y z:=he;obtain⟨k1,q1,v1⟩:=b_ vx e2;obtain⟨k2,q2,v2⟩:=b_ vy e3;cases q1.symm.trans q2;refine !{rfl,_,_,rfl,_,_,rfl,_,_,rfl,rfl,?_};refine !!!!!!{y,z,p.2.1,p.2.2,rfl,⟨k1,v1,v2⟩,_,rfl,_,rfl,bT (λh=>?_) λh=>?_};have h:(!decide (cV p.2.1 p.2.2 y z=0))=true:=h;rw[if_neg<|yd<|nt h]at he;rw[he]at q;exact{_,rfl,fo q};have h:(!decide (cV p.2.1 p.2.2 y z=0))=false:=h;rw[if_pos<|zB<|nf h]at he;exact{_,_,_,_,rfl,rfl,he});{rintro aB S' ⟨o3,o4,o5,o6,rfl,rfl,he⟩;have he:_=bH (kF (ps.drop (jc (ps.map p3) xs ys).length) wy) (xs.drop (jc (ps.map p3) xs ys).length++[.str k]) (ys.drop (jc (ps.map p3) xs ys).length++[.str l]):=he;rw[nD (by rw[zb];exact h1)<|by rw[zb];exact h2,zb,List.drop_length,h1,List.drop_length,<-h1,h2,List.drop_length]at he;refine fo {o3,o4,o5,o6,rfl,rfl,he.trans ?_};show(if cV wy "last" (.str k) (.str l)=0 then 0 else cV wy "last" (.str k) (.str l))=_;split;{next h=>exact h.symm};rfl}};rintro aB S' ⟨o3,o4,o5,o6,rfl,rfl,he⟩;rw[he]at q;exact !!!!!!{_,_,_,_,rfl,{_,kG k hk,kG l hl},fo q}
inductive sD (ds:List D) (S:aw) (R:KD) (Z:KX):Prop where
 |mk (cs ps wy r g) (h0:ds=[cw ps wy,sv (ps.map λp=>aj cs r.2 p.1) r.1,wu g]) (h1:Gd cs) (h2:Pin cs ps) (h3:Wg cs r.2) (h4:r.1∈KS) (h5:Gp cs ps g) (h6:R (.bl<|gP cs ps wy g r) S)
theorem Am(T:Txt w K mg t):Ok P w base T.rA 4 sD:=by refine T.rA.F.bV oM ?_;obtain⟨cs,ps,wy,r,g,e,hg,hp,hw,hk,hv,q⟩;refine{_,(sc (cG (i:=3) oM.nd<|aY T.eM (lE T) hr<|al 0<|al 1<|ac (ix hr.u (dv 2) di) an)<|sc (si (bf aU hr.u (dv 3) di) (s1<|sr<|cm aU hr.u (ix hr.u (dv 2) di) ds) s0)<|s1<|sr<|cm pC hr.u (dv 3) di),?_};refine !!!!{ps,wy,_,r.1,g.1,g.2.1,_,rfl,by rw[zb],hv.len.symm,oi hg hp hw,hv.pv,hk,hv.key,_,rfl,_,rfl,?_};unfold gP Vh at q;change R (.bl<|decide (bH (kF ps wy) ((ps.map λp=>aj cs r.2 p.1)++[.str r.1]) (g.1++[.str g.2.1])<0)||decide (bH (kF ps wy) ((ps.map λp=>aj cs r.2 p.1)++[.str r.1]) (g.1++[.str g.2.1])=0)&&decide (g.2.2 ="behind")) S at q;generalize bH (kF ps wy) _ _=n at q⊢;refine bT (λh=>?_) λh=>?_;have h:n=0:=zB h;subst h;exact !!⟨fo q⟩;have h:¬n=0:=yd h;rw[zu h,zW,Bool.or_false]at q;exact{_,rfl,fo q}
inductive kK (ds:List D) (S:aw) (R:KD) (Z:KX):Prop where
 |mk (cs ps wy A l g) (h0:ds=[.tup<|cs.map ay,cw ps wy,.ref l,wu g]) (h1:Gd cs) (h2:Pin cs ps) (h3:ps.length<=8) (h4:S l=some (.lst<|A.map ai)) (h5:An cs ps wy A) (h6:Gp cs ps g) (h7:R (.int ((A.countP (gP cs ps wy g):Nat):Int)) S)
theorem jH(T:Txt w K mg t):Ok P w base T.fX 5 kK:=by
 refine T.fX.F.bV bZ ?_;obtain⟨cs,ps,wy,A,l,g,e,hg,hp,h8,hl,hA,hv,q⟩;refine{_,(sc (cG (i:=4) bZ.nd di)<|sc (cG (i:=5) bZ.nd<|cb aK T.aI aC<|al 2 an)<|sc (ux<|Y0 (bf pC hr.u (dv 4)<|dv 5)<|sc (cG (i:=6) bZ.nd<|bo bP hr.u (bo bz hr.u (dv 4)<|dv 5) di)<|s1<|si (tv<|aY T.rA (Am T) hr<|al 1<|ac (aY T.rq (Al T) hr<|al 0<|al 1<|ac (ix hr.u (dv 2)<|dv 6) an)<|al 3 an) (s1<|cG (i:=4) bZ.nd<|bo bz hr.u (dv 6) di)<|s1<|cG (i:=5) bZ.nd<|dv 6)<|s1<|sr<|dv 4),?_};refine !!⟨.inl {_,hl,?_}⟩;rw[zb];refine{λaB S'=>∃(o6:Option D),aB=[some<|.tup<|cs.map ay,some<|cw ps wy,some<|.ref l,some<|wu g,some<|.int ((A.countP (gP cs ps wy g):Nat):Int),some<|.int ((A.countP (gP cs ps wy g):Nat):Int),o6]/\S'=S,?_,?_};refine{λm aB S'=>∃(lo hi:Nat)(o6:Option D),aB=[some<|.tup<|cs.map ay,some<|cw ps wy,some<|.ref l,some<|wu g,some<|.int (lo:Nat),some<|.int (hi:Nat),o6]/\S'=S/\m=hi-lo/\lo<=hi/\hi<=A.length/\(∀i a,i<lo->A[i]?=some a->gP cs ps wy g a=true)/\(∀i a,hi<=i->A[i]?=some a->gP cs ps wy g a=false),{_,0,A.length,none,rfl,rfl,rfl,zV _,zr _,λi a h=>absurd h<|Nat.not_lt_zero _,λi a h e=>?_},?_};rw[List.getElem?_eq_none h]at e;cases e;rintro m aB S' ⟨lo,hi,o6,rfl,rfl,rfl,h1,h2,b1,b2⟩;refine !!!⟨bT (λh=>?_) λh=>?_⟩;have h:lo<hi:=by have:=zB h;lia
 have hm:(lo+hi)/2<A.length:=by lia
 have em:=zg hm;generalize A[(lo+hi)/2]=r at em;have Ft:=zE em;have ed:(((lo:Nat):Int)+((hi:Nat):Int))/2=(((lo+hi)/2:Nat):Int):=by lia
 have mono:=hA.mono hg hp hv;refine !!⟨{by decide,by decide},?_⟩;rw[ed];refine !!!!!{_,ai r,hl,bU<|by rw[zi,em];rfl,cs,ps,wy,r,rfl,hg,hp,h8,hA.rg.1 r Ft,_,rfl,cs,ps,wy,r,g,rfl,hg,hp,hA.rg.1 r Ft,hA.ky r Ft,hv,_,rfl,bT (λz=>?_) λz=>?_};refine !{hi-((lo+hi)/2+1),by lia,(lo+hi)/2+1,hi,_,rfl,rfl,rfl,by lia,h2,λi a Ud ei=>?_,b2};rcases Nat.lt_or_ge i ((lo+hi)/2) with eL|V_;exact List.pairwise_iff_getElem.mp mono i _ (ze.mp ei).1 hm eL |> λk=>by rw[(ze.mp ei).2,(ze.mp em).2]at k;exact k z
 have:i=(lo+hi)/2:=by lia
 subst this;rw[em]at ei;cases ei;exact z;refine !{(lo+hi)/2-lo,by lia,lo,(lo+hi)/2,_,rfl,rfl,rfl,by lia,by lia,b1,λi a Ud ei=>?_};rcases Nat.lt_or_ge ((lo+hi)/2) i with eL|V_;cases qa:gP cs ps wy g a with|false=>rfl|true=>have k:=List.pairwise_iff_getElem.mp mono _ i hm (ze.mp ei).1 eL;rw[(ze.mp ei).2,(ze.mp em).2]at k;exact tf (k qa) z
 have:i=(lo+hi)/2:=by lia
 subst this;rw[em]at ei;cases ei;exact z;have h:lo=hi:=by have:=yd h;lia
 subst h;have:=Jl (hA.mono hg hp hv) h2 b1 b2;subst this;exact fo !⟨rfl⟩;rintro aB S' ⟨o6,rfl,rfl⟩;exact{_,rfl,fo q}
noncomputable def seg{α:Type}(A:List α)(b e:Nat):List α:=(A.drop b).take<|e-b
theorem D0(h:b<=e)(h2:e<=A.length):(seg A b e).length=e-b:=by unfold seg;rw[ym,List.length_drop];omega
theorem D1(h:b<=e)(h2:e<=A.length):cD (A.map ai) (some ((b:Nat):Int)) (some ((e:Nat):Int))=(seg A b e).map ai:=by unfold cD seg;rw[HT.sIx_nat,HT.sIx_nat,zb,Nat.min_eq_left h2,Nat.min_eq_left<|zH h h2,List.map_take,List.map_drop]
noncomputable def Jm(p:Addr)(b c:Nat):D:=.tup [.ref p,.int (b:Nat),.int (c:Nat)]
noncomputable def sE(cs:List<|Str×Str)(ps:List Part)(wy:Str)(A:List Row)(n:Nat):Option wW->Nat|none=>n|some g=>A.countP<|gP cs ps wy g
theorem Jn(h:n<=A.length):∀b,sE cs ps wy A n b<=A.length|none=>h|some _=>List.countP_le_length
structure NI(cs:List (Str×Str))(ps:List Part)(wy:Str)(n:Nat)(d:D)(rows A:List Row):Prop where
 an:An cs ps wy A
 pm:A.Perm (rows.filter λr=>bj cs r n d)
theorem NI.one(hg:Gd cs)(hp:Pin cs ps)(h:NI cs ps wy n d rows A)(h':NI cs ps wy n d rows A'):A=A':=L4 hg hp h'.an.rg h.an.pw h'.an.pw<|h.pm.trans h'.pm.symm
def Mf(rows:List Row):Prop:=∀r∈rows,r.1∈KS
theorem Cs{cs:List<|Str×Str}{ps:List Part}{wy:Str}{n:Nat}{d:D}{rows A:List Row}(hr:Rg cs rows)(hk:Mf rows)(pm:A.Perm<|rows.filter λr=>bj cs r n d)(pw:A.Pairwise λa b=>bG cs wy ps a b=true):NI cs ps wy n d rows A:={{(hr.sub yw).perm pm,λr h=>hk r (yo.mp<|pm.mem_iff.mp h).1,pw},pm}
noncomputable def Ct(A:List Row)(b n:Nat):Nat:=min (b+n) A.length
def Jo(t:gY)(f:List (Str×Str)->List Part->Str->List Row->Option wW->Nat->Nat×Nat):ja:=λds S R _=>∃(a:Addr)(cs:List (Str×Str))(ps:List Part)(wy:Str)(d m:D)(n:Nat)(b:Option wW)(rows:List Row),ds=[.ref a,cw ps wy,d,.int (n:Nat),FQ b,m]/\Gd cs/\Og cs ps wy/\Sq cs d/\1<=n/\n<=1000/\Bg cs ps b/\Vw t.ao S a cs m rows/\Mf rows/\Tb t S/\∀(A:List Row)(p:Addr),NI cs ps wy 7 d rows A->S p=none->R (Jm p (f cs ps wy A b n).1<|A.length-(f cs ps wy A b n).2) (S.set p<|.lst<|(seg A (f cs ps wy A b n).1 (f cs ps wy A b n).2).map ai)
noncomputable def ZM(cs:List<|Str×Str)(ps:List Part)(wy:Str)(A:List Row)(b:Option wW)(n:Nat):Nat×Nat:=(sE cs ps wy A 0 b,Ct A (sE cs ps wy A 0 b) n)
noncomputable def ZO(cs:List<|Str×Str)(ps:List Part)(wy:Str)(A:List Row)(b:Option wW)(n:Nat):Nat×Nat:=(sE cs ps wy A A.length b-n,sE cs ps wy A A.length b)
theorem D4{S:aw}{p q:Addr}{c e:Ce}(h:S q=none)(hp:S p=none)(hn:q≠p):Sub (S.set q e) ((S.set p c).set q e):=λb x hb=>by by_cases z:b=q;subst z;rw[aa]at hb⊢;exact hb;rw[ag z]at hb⊢;rw[ag<|gq hb hp];exact hb
inductive jI (ds:List D) (S:aw) (R:KD) (Z:KX):Prop where
 |mk (l:Addr) (A:List Row) (b e:Nat) (h0:ds=[.ref l,.int (b:Nat),.int (e:Nat)]) (h1:S l=some (.lst<|A.map ai)) (h2:b<=e) (h3:e<=A.length) (h4:∀p,S p=none->R (Jm p b<|A.length-e) (S.set p<|.lst<|(seg A b e).map ai))
theorem iM(T:Txt w K mg t):Ok P w base T.eT 1 jI:=by refine T.eT.F.bV pJ ?_;rintro _ _ _ _ _ _ _ S R Z hr ⟨l,A,b,e,e0,hl,h1,h2,q⟩;subst e0;refine{_,(s1<|sr<|cj<|ac (Nn (dv 0) (o1<|dv 1)<|o1<|dv 2)<|al 1<|ac (bo fR hr.u (cb aK T.aI aC<|al 0 an)<|dv 2) an),?_};refine !!!!!{_,hl,λp hp=>?_};rw[D1 h1 h2];refine !!!⟨.inl {_,(Sub.new hp) _ _ hl,_,rfl,pM,?_}⟩;rw[zb,show((A.length:Nat):Int)-((e:Nat):Int)=((A.length-e:Nat):Int) by omega];exact fo<|q p hp
inductive pe (ds:List D) (S:aw) (R:KD) (Z:KX):Prop where
 |mk (l:Addr) (A:List Row) (b n:Nat) (h0:ds=[.ref l,.int (b:Nat),.int (n:Nat)]) (h1:S l=some (.lst<|A.map ai)) (h2:b<=A.length) (h3:∀p,S p=none->R (Jm p b<|A.length-Ct A b n) (S.set p<|.lst<|(seg A b<|Ct A b n).map ai))
theorem wC(T:Txt w K mg t):Ok P w base T.nO 2 pe:=by
 refine T.nO.F.bV v5 ?_;rintro _ _ _ _ _ _ _ S R Z hr ⟨l,A,b,n,e0,hl,h1,q⟩;subst e0;refine{_,(s1<|sr<|aY T.eT (iM T) hr<|al 0<|al 1<|ac (cb MZ T.Nt Hf<|ac (bo bz hr.u (dv 1)<|dv 2)<|ac (cb aK T.aI aC<|al 0 an) an) an),?_};refine !!!!!!⟨.inl {_,hl,_,_,rfl,?_}⟩;rw[zb];have e1:(if decide (((A.length:Nat):Int)<((b:Nat):Int)+((n:Nat):Int))=true then ((A.length:Nat):Int) else ((b:Nat):Int)+((n:Nat):Int))=((Ct A b n:Nat):Int):=by unfold Ct;by_cases h:((A.length:Nat):Int)<((b:Nat):Int)+((n:Nat):Int);rw[if_pos<|zw h];omega;rw[if_neg<|by rw[zu h];exact zd];omega
 rw[e1];exact{l,A,b,Ct A b n,rfl,hl,by unfold Ct;omega,by unfold Ct;omega,λp hp=>fo<|q p hp}
inductive mQ (ds:List D) (S:aw) (R:KD) (Z:KX):Prop where
 |mk (l:Addr) (A:List Row) (e n:Nat) (h0:ds=[.ref l,.int (e:Nat),.int (n:Nat)]) (h1:S l=some (.lst<|A.map ai)) (h2:e<=A.length) (h3:∀p,S p=none->R (Jm p (e-n)<|A.length-e) (S.set p<|.lst<|(seg A (e-n) e).map ai))
theorem tW(T:Txt w K mg t):Ok P w base T.lg 2 mQ:=by
 refine T.lg.F.bV tH ?_;rintro _ _ _ _ _ _ _ S R Z hr ⟨l,A,e,n,e0,hl,h1,q⟩;subst e0;refine{_,(s1<|sr<|aY T.eT (iM T) hr<|al 0<|ac (cb M0 T.Nu HS<|ac (bo fR hr.u (dv 1)<|dv 2)<|ac di an)<|al 1 an),?_};refine !!!{_,_,rfl,?_};have e1:(if decide (((e:Nat):Int)-((n:Nat):Int)<0)=true then (0:Int) else ((e:Nat):Int)-((n:Nat):Int))=((e-n:Nat):Int):=by by_cases h:((e:Nat):Int)-((n:Nat):Int)<0;rw[if_pos<|zw h];omega;rw[if_neg<|by rw[zu h];exact zd];omega
 rw[e1];exact !{l,A,e-n,e,rfl,hl,Nat.sub_le _ _,h1,λp hp=>fo<|q p hp}
def NJ(f:List (Str×Str)->List Part->Str->List Row->Option wW->Nat->Nat×Nat):ja:=λds S R _=>∃(cs:List (Str×Str))(ps:List Part)(wy:Str)(l:Addr)(A:List Row)(n:Nat)(b:Option wW),ds=[.tup<|cs.map ay,cw ps wy,.ref l,.int (n:Nat),FQ b]/\Gd cs/\Pin cs ps/\ps.length<=8/\S l=some (.lst<|A.map ai)/\An cs ps wy A/\Bg cs ps b/\∀p,S p=none->R (Jm p (f cs ps wy A b n).1<|A.length-(f cs ps wy A b n).2) (S.set p<|.lst<|(seg A (f cs ps wy A b n).1 (f cs ps wy A b n).2).map ai)
theorem tX(T:Txt w K mg t):Ok P w base T.k_ 6 (NJ ZM):=by refine T.k_.F.bV kz ?_;rintro _ _ _ _ _ _ _ S R Z hr ⟨cs,ps,wy,l,A,n,b,e0,hg,hp,h8,hl,hA,hb,q⟩;subst e0;refine{_,(sc (cG (i:=5) kz.nd<|Rh (bf fh hr.u (dv 4) dn) di<|aY T.fX (jH T) hr<|al 0<|al 1<|al 2<|al 4 an)<|s1<|sr<|aY T.nO (wC T) hr<|al 2<|al 5<|al 3 an),?_};cases b with|none=>exact (!!⟨eC !!!{l,A,0,n,rfl,hl,zV _,λp hp=>fo<|q p hp}⟩)|some g=>exact !!⟨aZ !!!!{cs,ps,wy,A,l,g,rfl,hg,hp,h8,hl,hA,hb g rfl,_,rfl,_,rfl,_,rfl,l,A,_,n,rfl,hl,List.countP_le_length,λp hp=>fo<|q p hp}⟩
theorem pR(T:Txt w K mg t):Ok P w base T.ic 6 (NJ ZO):=by refine T.ic.F.bV iF ?_;rintro _ _ _ _ _ _ _ S R Z hr ⟨cs,ps,wy,l,A,n,b,e0,hg,hp,h8,hl,hA,hb,q⟩;subst e0;refine{_,(sc (cG (i:=5) iF.nd<|Rh (bf fh hr.u (dv 4) dn) (cb aK T.aI aC<|al 2 an)<|aY T.fX (jH T) hr<|al 0<|al 1<|al 2<|al 4 an)<|s1<|sr<|aY T.lg (tW T) hr<|al 2<|al 5<|al 3 an),?_};cases b with|none=>refine !!⟨eC !!⟨.inl {_,hl,?_}⟩⟩;rw[zb];exact (!!!{l,A,A.length,n,rfl,hl,zr _,λp hp=>fo<|q p hp})|some g=>exact !!⟨aZ !!!!{cs,ps,wy,A,l,g,rfl,hg,hp,h8,hl,hA,hb g rfl,_,rfl,_,rfl,_,rfl,l,A,_,n,rfl,hl,List.countP_le_length,λp hp=>fo<|q p hp}⟩
theorem lF(T:Txt w K mg t)(B:Bm mg base):Ok P w base T.eS 13 (Jo t ZM):=by
 refine T.eS.F.bV BS ?_;rintro _ _ _ _ _ _ _ S R Z hr ⟨a,cs,ps,wy,d,m,n,b,rows,e0,hg,ho,hd,h1,h2,hb,hv,hk,ht,q⟩;subst e0;obtain⟨F,dl,rs,hS,hn,Wu,Wv⟩:=hv.sh;obtain⟨ld,lr,ra,h,_⟩:=id hS;refine{_,(sc (se<|aY T.ie (kJ T) hr<|ac (qZ (dv 0) T.ak T.aS (b9 T) hr)<|al 1<|al 2<|al 3<|al 4 an)<|s1<|sr<|aY T.k_ (tX T) hr<|ac (qZ (dv 0) T.ak T.aS (b9 T) hr)<|al 1<|ac (aY T.dH (gb T B) hr<|al 0<|al 1<|al 2<|al 5 an)<|al 3<|al 4 an),?_};refine !{a,_,rfl,h.ins,rfl,a,F,cs,dl,rs,rfl,hS,_,rfl,_,rfl,_,rfl,_,rfl,cs,ps,wy,d,n,b,rfl,hg,ho,hd,by omega,by omega,hb,?_};refine !{a,_,rfl,h.ins,rfl,a,F,cs,dl,rs,rfl,hS,_,rfl,_,rfl,_,rfl,_,rfl,_,rfl,a,cs,ps,wy,d,m,rows,rfl,hg,ho,hd,hv,ht,λA l pm pw hl=>?_};have an:=Cs hv.rg hk pm pw;refine !!{cs,ps,wy,l,A,n,b,rfl,hg,ho.pin,ho.len,aa,an.an,hb,λp hp=>?_};have cP:p≠l:=λe=>by rw[e,aa]at hp;cases hp
 have Iz:S p=none:=by rw[ag cP]at hp;exact hp
 exact{_,D4 Iz hl cP,q A p an Iz}
theorem iu(T:Txt w K mg t)(B:Bm mg base):Ok P w base T.cR 13 (Jo t ZO):=by
 refine T.cR.F.bV vZ ?_;rintro _ _ _ _ _ _ _ S R Z hr ⟨a,cs,ps,wy,d,m,n,b,rows,e0,hg,ho,hd,h1,h2,hb,hv,hk,ht,q⟩;subst e0;obtain⟨F,dl,rs,hS,hn,Wu,Wv⟩:=hv.sh;obtain⟨ld,lr,ra,h,_⟩:=id hS;refine{_,(sc (se<|aY T.ie (kJ T) hr<|ac (qZ (dv 0) T.ak T.aS (b9 T) hr)<|al 1<|al 2<|al 3<|al 4 an)<|s1<|sr<|aY T.ic (pR T) hr<|ac (qZ (dv 0) T.ak T.aS (b9 T) hr)<|al 1<|ac (aY T.dH (gb T B) hr<|al 0<|al 1<|al 2<|al 5 an)<|al 3<|al 4 an),?_};refine !{a,_,rfl,h.ins,rfl,a,F,cs,dl,rs,rfl,hS,_,rfl,_,rfl,_,rfl,_,rfl,cs,ps,wy,d,n,b,rfl,hg,ho,hd,by omega,by omega,hb,?_};refine !{a,_,rfl,h.ins,rfl,a,F,cs,dl,rs,rfl,hS,_,rfl,_,rfl,_,rfl,_,rfl,_,rfl,a,cs,ps,wy,d,m,rows,rfl,hg,ho,hd,hv,ht,λA l pm pw hl=>?_};have an:=Cs hv.rg hk pm pw;refine !!{cs,ps,wy,l,A,n,b,rfl,hg,ho.pin,ho.len,aa,an.an,hb,λp hp=>?_};have cP:p≠l:=λe=>by rw[e,aa]at hp;cases hp
 have Iz:S p=none:=by rw[ag cP]at hp;exact hp
 exact{_,D4 Iz hl cP,q A p an Iz}
structure Qs(t:gY)(S:aw)(a:Addr)(cs:List (Str×Str))(ps:List Part)(wy:Str)(d m:D)(rows:List Row):Prop where
 g:Gd cs
 o:Og cs ps wy
 s:Sq cs d
 v:Vw t.ao S a cs m rows
 k:Mf rows
 t:Tb t S
theorem Qs.sub{t:gY}{S S':aw}{a:Addr}{cs:List<|Str×Str}{ps:List Part}{wy:Str}{d m:D}{rows:List Row}(h:Qs t S a cs ps wy d m rows)(b:Sub S S'):Qs t S' a cs ps wy d m rows:={h.g,h.o,h.s,h.v.sub b,h.k,h.t.sub b}
section
variable{t:gY}{S:aw}{a:Addr}{cs:List (Str×Str)}{ps:List Part}{wy:Str}{d m:D}{rows:List Row}{R:KD}{Z:KX}(hq:Qs t S a cs ps wy d m rows)
include hq
theorem Qs.pg(b:Option wW)(h1:1<=n)(h2:n<=1000)(hb:Bg cs ps b) (k:∀(A:List Row)(p:Addr),NI cs ps wy 7 d rows A->S p=none->R (Jm p (f cs ps wy A b n).1<|A.length-(f cs ps wy A b n).2) (S.set p<|.lst<|(seg A (f cs ps wy A b n).1 (f cs ps wy A b n).2).map ai)):W (Jo t f) [.ref a,cw ps wy,d,.int (n:Nat),FQ b,m] S R Z:=⟨a,cs,ps,wy,d,m,n,b,rows,rfl,hq.g,hq.o,hq.s,h1,h2,hb,hq.v,hq.k,hq.t,k⟩
end
theorem Mg(hr:Rg cs rows)(hk:Mf rows):∀d∈rows.map ai,Ly S 60 d:=λd hd=>by obtain⟨r,h,rfl⟩:=zh.mp hd;exact QF (hk r h)<|hr.1 r h
noncomputable def gOf(cs:List<|Str×Str)(ps:List Part)(sd:Str)(r:Row):wW:=(ps.map λp=>aj cs r.2 p.1,r.1,sd)
theorem QG{cs:List<|Str×Str}(hg:Gd cs){ps:List Part}(hp:Pin cs ps){r:Row}(hw:Wg cs r.2)(hk:r.1∈KS){sd:Str}(hs:DZ sd=true):Gp cs ps (gOf cs ps sd r):={oi hg hp hw,hk,hs}
theorem Cu(x:Str)(n:Nat):(PySem.Txt.slice x none<|some (n:Int)).cps.toList=x.cps.toList.take n:=by
 have e1:PySem.Builtin.Str.strSliceIndices none (some (n:Int)) 1 x.length=PySem.Builtin.Str.strSliceIndices (some ((0:Nat):Int)) (some ((min n x.length:Nat):Int)) 1 x.length:=by unfold PySem.Builtin.Str.strSliceIndices;have h1:((1:Int)>0)=True:=(by simp);simp only[h1,if_true];have a1:¬((n:Int)<0):=(by lia);have a2:¬(((min n x.length:Nat):Int)<0):=(by lia);have a3:¬(((0:Nat):Int)<0):=(by lia);simp only[a1,a2,a3,if_false];have b1:max 0 (min ((0:Nat):Int) (x.length:Int))=0:=(by lia);have b2:max 0 (min (n:Int) (x.length:Int))=max 0 (min ((min n x.length:Nat):Int) (x.length:Int)):=(by lia);rw[b1,b2]
 have e2:(PySem.Builtin.Str.strSliceIndices none (some (n:Int)) 1 x.length).filterMap (x.cps[·]?)=x.cps.toList.take n:=by rw[e1,StrLaws.sliced_plain x (zV _)<|Nat.min_le_right _ _,List.drop_zero,Nat.sub_zero];by_cases h:n<=x.length;rw[Nat.min_eq_left h];have hl:x.cps.toList.length=x.length:=zX;rw[Nat.min_eq_right<|by lia,List.take_of_length_le<|by lia,List.take_of_length_le<|by lia]
 unfold PySem.Txt.slice;split;{next h=>simp only[zL,beq_iff_eq]at h;rw[e1,StrLaws.strSliceIndices_plain (zV _)<|Nat.min_le_right _ _,zb,List.length_range]at h;have hl:x.cps.toList.length=x.length:=zX;rw[List.take_of_length_le<|by lia]};rw[e2]
theorem wD(x y:Str):decide (PySem.Txt.slice x none (some ((y.length:Nat):Int))=y)=PySem.Txt.startswith x y:=by unfold PySem.Txt.startswith;rw[StrLaws.subAt_eq,List.drop_zero,Nat.zero_add,yp];simp only[decide_eq_true_iff,zL,beq_iff_eq];have hs:=Cu x y.length;constructor;intro h;rw[h]at hs;have hl:x.cps.toList.length=x.length:=zX;have FZ:y.cps.toList.length=y.length:=zX;refine{?_,hs.symm};have:=congrArg List.length hs;rw[ym]at this;lia;rintro⟨_,h⟩;rw[h]at hs;obtain⟨a⟩:=y;generalize hz:PySem.Txt.slice x none _=z at hs⊢;obtain⟨b⟩:=z;exact congrArg Str.mk<|Array.ext' hs
theorem Jp(hg:Gd cs)(hc:c∈cs):((cs.map Prod.fst).map D.str).all i9=true/\(∃z,((cs.map Prod.fst).map D.str)[IK cs c.1]?=some z/\eqV (j6 z) (j6<|.str c.1)=true)/\∀m u,m<IK cs c.1->((cs.map Prod.fst).map D.str)[m]?=some u->eqV (j6 u) (j6<|.str c.1)=false:=by obtain⟨n1,n2⟩:=n6 hg hc;refine{?_,{.str c.1,by rw[zi,n2];rfl,by show(c.1==c.1)=true;simp},?_};rw[List.all_map];exact ya.mpr λ_ _=>rfl;intro m u hm hu;rw[zi]at hu;cases e:(cs.map Prod.fst)[m]? with|none=>(rw[e]at hu;cases hu)|some z'=>rw[e]at hu;cases hu;show(z'==c.1)=false;have:z'≠c.1:=λq=>(by subst q;obtain⟨b1,c1⟩:=ze.mp e;obtain⟨b2,c2⟩:=ze.mp n2;have:=(List.getElem_inj hg.2.1 (h₀:=b1) (h₁:=b2)).mp<|c1.trans c2.symm;lia);simpa using this
noncomputable def QH:D->D|.tup (x::_)=>x|_=>.av
theorem Ao(cs:List<|Str×Str):(cs.map ay).map QH=(cs.map Prod.fst).map D.str:=by rw[zy,zy];rfl
theorem lG(T:Txt w K mg t):∀n,Ok P w base T.gI (3+n) (IL n)
 |0=>by refine T.gI.F.ok (k:=2) eG (by rintro ds S R Z ⟨_,_,_,e,_⟩;exact by rw[e];rfl) (by rintro fN A outer s H E ds S R Z hr ⟨cs,d,r,e,hg,hs,_⟩;exact hs.elim)
 |n+1=>by
  refine T.gI.F.ok (k:=3+n) eG (by rintro ds S R Z ⟨_,_,_,e,_⟩;rw[e];rfl) ?_;rintro fN A outer s H E ds S R Z hr ⟨cs,d,r,e,hg,hs,hw,q⟩;subst e;have n2:=cu;refine{_,(sc (cG (i:=3) eG.nd<|ix hr.u (dv 1) di)<|sc (si (bf aU hr.u (dv 3) ds) (s1<|sr db) s0)<|sc (si (bf aU hr.u (dv 3) ds) (s1<|sr<|cm vh hr.u (ix hr.u (dv 2) di)<|ix hr.u (dv 1) di) s0)<|sc (si (bf aU hr.u (dv 3) ds) (s1<|sr<|Po<|aY T.gI (lG T n) hr<|al 0<|ac (ix hr.u (dv 1) di)<|al 2 an) s0)<|sc (si (bf vh hr.u (dv 3)<|cj<|ac ds<|ac ds an) (sc (Hr (i:=4) (N:=["_law_one","_law_columns_here","_law_row"]) (src:=[none,some 0,some 2]) eG.nd (iT (ae q9) ["_law_columns_here","_law_sieve_here","_law_row","_law_word","_law_some","_law_value_here"] rfl rfl<|by trivial) (Gg<|ix hr.u (dv 1) di) (oF<|show(["_law_one","_law_columns_here","_law_row"]:List Str).Nodup by trivial) (aQ rfl) aR (λ_ _ _ _ _=>oE) λ_ _ _ _ _=>(aY T.gI (lG T n) hr<|al 1<|al 0<|al 2 an))<|s1<|sr<|s_<|ix hr.u (cC<|ac (cb MY T.Nq G6<|al 4 an)<|ac (cb i_ T.jk fb<|al 4 an) an)<|ct C7 T.xZ qF<|ac (cm aU hr.u (dv 3) ds) an) s0)<|sc (cG (i:=5) eG.nd<|ix hr.u (ix hr.u (dv 2) di)<|bm zO PySem.F.slot_list_index PySem.F.type_list_index qQ (sZ (N:=["_law_name","_law_kind"]) (src:=[none,none]) (iT (ae q9) ["_law_columns_here","_law_sieve_here","_law_row","_law_word","_law_some","_law_value_here"] rfl rfl<|by trivial) (Gg<|dv 0) (Rj<|show(["_law_name","_law_kind"]:List Str).Nodup by trivial) (jM rfl rfl) jP (λ_ _ _ _ _=>oE) λ_ _ _ _ _=>(dv 0))<|ac (ix hr.u (dv 1) di) an)<|sc (si (twd<|twor (bf aU hr.u (dv 3) ds)<|tw1<|bf fh hr.u (dv 5) dn) (s1<|sr<|pB (cm aU hr.u (dv 3) ds)<|Ga<|cm aU hr.u (dv 5)<|ix hr.u (dv 1) di) s0)<|sc (si (bf aU hr.u (dv 3) ds) (s1<|sr<|cm aU hr.u (sl (dv 5) o0<|o1<|cb aK T.aI aC<|ac (ix hr.u (dv 1) di) an)<|ix hr.u (dv 1) di) s0)<|s1<|sr<|s_<|ix hr.u (cC<|ac (cm pE hr.u (dv 5)<|ix hr.u (dv 1) di)<|ac (cm pC hr.u (dv 5)<|ix hr.u (dv 1) di) an)<|ct C7 T.xZ qF<|ac (cm aU hr.u (dv 3) ds) an),?_};rcases hs with (rfl|⟨ks,rfl,Zx,AI⟩|⟨o,c,v,hc,hv,ho,rfl⟩)|⟨e,rfl,he⟩|⟨o,es,ho,rfl,JL,S_⟩;exact !!!!⟨gZ (by trivial)<|fo q⟩;refine !!!!⟨br (by trivial) ?_⟩;refine !!⟨gZ (by trivial) !!!!{rfl,?_,?_}⟩;rw[List.all_map];exact ya.mpr λ_ _=>rfl;rw[z_]at q;exact fo q;rw[NB]at q;obtain⟨Wy,RD⟩:=jU hg hw hc;unfold y_ at q;have four:o ="is"\/(o ="below"\/o ="above"\/o ="begins"):=by rcases ho with h|⟨_,h|h|⟨h,_⟩⟩;exact .inl h;exact .inr<|.inl h;exact .inr<|.inr<|.inl h;exact .inr<|.inr<|.inr h
  have nY:decide (o ="every")=false/\decide (o ="key")=false/\decide (o ="not")=false/\A5 (.str o) [.str "and",.str "or"]=false:=by rcases four with rfl|rfl|rfl|rfl<;>decide +kernel
  refine !!!!⟨br nY.1 !!⟨br nY.2.1 !!⟨br nY.2.2.1 !{n2,rfl,rfl,_,rfl,br nY.2.2.2 !!!{_,.inl rfl,?_}}⟩⟩⟩;refine comp_map QH trivial (by show(cs.map ay).length<=1000;rw[zb];have:=hg.1;lia) (λd hd Q hQ=>?_) λp hp=>?_;obtain⟨c,_,rfl⟩:=zh.mp hd;exact !{rfl,_,_,rfl,_,_,rfl,rfl,_,rfl,hQ};rw[show({cs.map ay,λ_=>True}:oB).xs=cs.map ay from rfl,Ao];have sb:=Sub.new (c:=.lst<|(cs.map Prod.fst).map D.str) hp;have sN:(S.set p<|.lst<|(cs.map Prod.fst).map D.str) p=some (.lst<|(cs.map Prod.fst).map D.str):=aa;generalize S.set p (.lst<|(cs.map Prod.fst).map D.str)=S1 at sb sN⊢;have lx:=Jp hg hc;refine{{rfl,_,sN},_,rfl,_,rfl,_,.str c.1,IK cs c.1,rfl,sN,rfl,lx.1,lx.2.1,lx.2.2,_,bU Wy,?_};have fin:∀{b:Bool},R (.bl b) S->Fo S1 (R<|.bl b):=λh=>⟨S,sb,h⟩;rcases ho with rfl|⟨nb,ho⟩;rw[if_pos rfl]at q;exact !!⟨gZ (by trivial) !!⟨gZ (by trivial) !!!⟨mG RD.2 hv.2<|fin q⟩⟩⟩;have Ki:decide (o ="is")=false:=by rcases ho with rfl|rfl|⟨rfl,_⟩<;>decide +kernel
  rw[if_neg<|yd Ki]at q;refine !!⟨br Ki !!⟨bT (λh=>?_) λh=>?_⟩⟩;rw[if_pos h]at q;exact !!⟨br Ki<|fin q⟩;rw[if_neg<|by rw[show ah (aj cs r.2 c.1)=false from h];exact zd]at q;rcases ho with rfl|rfl|⟨rfl,hk⟩;rw[if_pos rfl]at q;refine !!⟨br (by trivial) ?_⟩;rcases lA RD hv (aX h) nb with⟨i,j,e6,rfl⟩|⟨i,j,e6,rfl⟩<;>rw[e6]at q⊢<;>exact !!!!!!{n2,λp hp=>!⟨.inr !{_,_,aa,(show jK _ 1=some _ from rfl),_,.new hp,fin q}⟩};rw[if_neg<|by trivial,if_pos rfl]at q;refine !!⟨br (by trivial) ?_⟩;rcases lA RD hv (aX h) nb with⟨i,j,e6,rfl⟩|⟨i,j,e6,rfl⟩<;>rw[e6]at q⊢<;>exact !!!!!!{n2,λp hp=>!⟨.inr !{_,_,aa,(show jK _ 0=some _ from rfl),_,.new hp,fin q}⟩};rw[if_neg<|by trivial,if_neg<|by trivial]at q;have hz:∀z,aj cs r.2 c.1=.str z->z.length<=sizeLine:=λz e=>sm<|(DD RD (S:=S)).2 z e;have HD:∀z,v=.str z->z.length<=sizeLine:=λz e=>sm<|(DD hv (S:=S)).2 z e;rw[hk]at RD hv;obtain⟨i,e6⟩:=ql RD<|aX h;obtain⟨j,rfl⟩:=ql hv nb;have hz:=hz i e6;have HD:=HD j rfl;rw[e6]at q⊢;refine !!⟨gZ (by trivial) !!!!{HD,_,rfl,hz,_,rfl,_,rfl,?_}⟩;show Fo S1 (R<|.bl<|decide<|PySem.Txt.slice i none (some ((j.length:Nat):Int))=j);rw[wD];exact fin q;rw[Ab]at q;exact !!!!⟨br (by trivial) !!⟨br (by trivial) !!⟨gZ (by trivial) !!!!{cs,e,r,rfl,hg,he,hw,_,rfl,fo q}⟩⟩⟩;have hz:es.length<=1000:=by lia
  have nY:decide (o ="every")=false/\decide (o ="key")=false/\decide (o ="not")=false/\A5 (.str o) [.str "and",.str "or"]=true:=by rcases ho with rfl|rfl<;>decide +kernel
  refine !!!!⟨br nY.1 !!⟨br nY.2.1 !!⟨br nY.2.2.1 !{n2,rfl,rfl,_,rfl,gZ nY.2.2.2 !!{_,.inl rfl,?_}}⟩⟩⟩;refine comp_map (λd=>.bl<|bj cs r n d) trivial hz (λd hd Q hQ=>!!!{cs,d,r,rfl,hg,S_ d hd,hw,hQ}) λp hp=>?_;have em:es.map (λd=>D.bl<|bj cs r n d)=(es.map<|bj cs r n).map D.bl:=by rw[zy];rfl
  rw[show({es,λ_=>True}:oB).xs=es from rfl,em];have Rw:(S.set p<|.lst<|(es.map<|bj cs r n).map D.bl) p=_:=aa;refine !{.ref p,es.map<|bj cs r n,rfl,Rw,_,rfl,.ref p,es.map<|bj cs r n,rfl,Rw,n2,λp2 eV=>?_};rcases ho with rfl|rfl;rw[Ac]at q;refine{_,rfl,.inr !{_,_,aa,(show jK _ 1=some _ from rfl),S,(Sub.new hp).trans<|.new eV,fo ?_}};show R (.bl<|(es.map<|bj cs r n).all id) S;rw[all_map];exact q;rw[DH]at q;refine{_,rfl,.inr !{_,_,aa,(show jK _ 0=some _ from rfl),S,(Sub.new hp).trans<|.new eV,fo ?_}};show R (.bl<|(es.map<|bj cs r n).any id) S;rw[List.any_map];exact q
noncomputable def qo:D->PyData|.int i=>.int i|.str z=>.str z|_=>.none
theorem QI(hx:bc x=true):Dp S x (qo x)/\(qo x).canLay0=true/\(qo x).depth<=0:=by cases x with|av=>exact{by simp only[Dp,qo],by simp only[qo,PyData.canLay0],by simp only[qo,PyData.depth];lia}|int i=>exact{by simp only[Dp,qo],by simp only[qo,PyData.canLay0],by simp only[qo,PyData.depth];lia}|str z=>refine{by simp only[Dp,qo],?_,by simp only[qo,PyData.depth];lia};unfold bc at hx;simp only[zL]at hx;simp only[qo,PyData.canLay0];exact hx.2|_=>cases hx
theorem qp:∀{xs:List D},(∀x∈xs,bc x=true)->DpAll S xs (xs.map qo)/\PyData.canLayAll0 (xs.map qo)=true/\PyData.depthAll (xs.map qo)<=0|[],_=>{by simp only[yT,DpAll],rfl,zV _}|x::xs,h=>by obtain⟨a,b,c⟩:=QI (S:=S)<|h x zm;obtain⟨a',b',c'⟩:=qp (S:=S) λy hy=>h y<|zf _ hy;exact{by simp only[zx,DpAll];exact{_,_,rfl,a,a'},by simp only[zx,PyData.canLayAll0,b,b',Bool.and_self],by simp only[zx,PyData.depthAll];lia}
noncomputable def NK(r:Row):PyData:=.tuple [.str r.1,.tuple<|r.2.map qo]
theorem QJ(hw:Wg cs r.2):Dr S (ai r) (NK r):=by refine .tup<|.cons (.str _)<|.cons (.tup ?_) .nil;have h:=Wg.all hw;generalize r.2=ws at h;induction ws with|nil=>exact .nil|cons v ws ih=>refine .cons ?_<|ih λd hd=>h d<|zf _ hd;have hv:=h v zm;cases v<;>first|exact .av|exact .int _|exact .str _|cases hv
theorem D7:∀{rows:List Row},(∀r∈rows,Wg cs r.2)->HU S (rows.map ai) (rows.map NK)|[],_=>.nil|r::rows,h=>.cons (QJ<|h r zm)<|D7 λx hx=>h x<|zf _ hx
theorem Mh(hw:Wg cs r.2)(hk:r.1∈KS):(NK r).canLay0=true/\(NK r).depth<=2:=by obtain⟨_,b,c⟩:=qp (S:=λ_=>none)<|Wg.all hw;have z:=(fH _ hk).2.2;unfold NK;refine{by simp only[PyData.canLay0,PyData.canLayAll0,z,b,Bool.and_self],?_};simp only[PyData.depth,PyData.depthAll];lia
theorem Ap:∀{rows:List Row},(∀r∈rows,Wg cs r.2)->Mf rows->PyData.canLayAll0 (rows.map NK)=true/\PyData.depthAll (rows.map NK)<=2|[],_,_=>{rfl,zV _}|r::rows,h,k=>by obtain⟨a,b⟩:=Mh (h r zm)<|k r zm;obtain⟨a',b'⟩:=Ap (λx hx=>h x<|zf _ hx) λx hx=>k x<|zf _ hx;exact{by simp only[zx,PyData.canLayAll0,a,a',Bool.and_self],by simp only[zx,PyData.depthAll];lia}
theorem wF(h:r∈seg A b e):r∈A:=List.mem_of_mem_drop<|List.mem_of_mem_take h
noncomputable def Wz(A:List Row)(b e:Nat):PyData:=.tuple [.list<|(seg A b e).map NK,.int (b:Nat),.int<|(A.length-e:Nat)]
theorem NL(hw:∀r∈A,Wg cs r.2)(h:S p=some (.lst<|(seg A b e).map ai)):Dr S (Jm p b<|A.length-e) (Wz A b e):=.tup<|.cons (.ref h<|D7 λr hr=>hw r<|wF hr)<|.cons (.int _)<|.cons (.int _) .nil
theorem Jq(hw:∀r∈A,Wg cs r.2)(hk:Mf A):(Wz A b e).canLay0=true/\(Wz A b e).depth<=4:=by obtain⟨a,c⟩:=Ap (rows:=seg A b e) (λr hr=>hw r<|wF hr) λr hr=>hk r<|wF hr;unfold Wz;refine{by simp only[PyData.canLay0,PyData.canLayAll0,a,Bool.and_self],?_};simp only[PyData.depth,PyData.depthAll];lia
noncomputable def FR:List D->List D->Bool|[],[]=>true|x::xs,y::ys=>jV x y&&FR xs ys|_,_=>false
theorem wG:∀{xs ys:List D},(∀x∈xs,bc x=true)->(∀x∈ys,bc x=true)->(FR xs ys=true↔xs=ys)|[],[],_,_=>by simp[FR]|[],_::_,_,_=>by simp[FR]|_::_,[],_,_=>by simp[FR]|x::xs,y::ys,h,k=>by unfold FR;rw[zL,aT (h x zm)<|k y zm,wG (λz hz=>h z<|zf _ hz) λz hz=>k z<|zf _ hz,List.cons.injEq]
theorem QK(hx:bc x=true)(hy:bc y=true):PyData.eqv (qo x) (qo y)=jV x y:=by cases x<;>cases y<;>first|(cases hx;done)|(cases hy;done)|(simp only[qo,PyData.eqv,jV];done)|(simp only[qo,PyData.eqv,jV];rfl)|(simp only[qo,PyData.eqv,jV];exact beq_eq_decide _ _)
theorem D8:∀{xs ys:List D},(∀x∈xs,bc x=true)->(∀x∈ys,bc x=true)->PyData.eqvAll (xs.map qo) (ys.map qo)=FR xs ys|[],[],_,_=>by simp only[yT,PyData.eqvAll,FR]|[],y::ys,_,_=>by simp only[yT,zx,PyData.eqvAll,FR]|x::xs,[],_,_=>by simp only[yT,zx,PyData.eqvAll,FR]|x::xs,y::ys,h,k=>by have a:=QK (h x zm)<|k y zm;have b:=D8 (λz hz=>h z<|zf _ hz) λz hz=>k z<|zf _ hz;simp only[zx,PyData.eqvAll,a,b,FR]
noncomputable def JO(xs:List D)(k:Str):PyData:=.tuple [.tuple<|xs.map qo,.str k]
theorem NM(h:∀x∈xs,bc x=true):Dl S (sv xs k) (JO xs k):=by obtain⟨a,_,_⟩:=qp (S:=S) h;simp only[sv,JO,Dl,Dp,DpAll];exact !{_,_,rfl,!⟨a⟩,_,_,rfl,rfl,rfl}
theorem Cv(h:∀x∈xs,bc x=true)(hk:k∈KS):(JO xs k).canLay0=true/\(JO xs k).depth<=2:=by obtain⟨_,b,c⟩:=qp (S:=λ_=>none) h;have z:=(fH _ hk).2.2;unfold JO;refine{by simp only[PyData.canLay0,PyData.canLayAll0,z,b,Bool.and_self],?_};simp only[PyData.depth,PyData.depthAll];lia
theorem QL(hx:∀x∈xs,bc x=true)(hy:∀x∈ys,bc x=true):PyData.eqv (JO xs k) (JO ys l)=(FR xs ys&&decide (k=l)):=by have h:=D8 hx hy;simp only[JO,PyData.eqv,PyData.eqvAll,h,Bool.and_true];congr 1
theorem Aq(h:Paired (λk x=>Vg k x) ks xs):∀x∈xs,bc x=true:=by induction h with|nil=>exact λ_ h=>(nomatch h)|cons r _ ih=>exact List.forall_mem_cons.mpr ⟨r.2,ih⟩
theorem Vj(hx:∀x∈xs,bc x=true)(hy:∀x∈ys,bc x=true)(hk:k∈KS)(hl:l∈KS)(q:R (.bl<|FR xs ys&&decide (k=l)) S):Gb false (sv xs k) (sv ys l) S R:=by refine{JO xs k,JO ys l,NM hx,NM hy,(Cv hx hk).1,(Cv hy hl).1,.inl<|by have:=(Cv hx hk).2;lia,?_};rw[if_neg zd,QL hx hy];exact q
inductive Ar (ds:List D) (S:aw) (R:KD) (Z:KX):Prop where
 |mk (ps:List Part) (wy:Str) (xs:List D) (k:Str) (ys:List D) (l:Str) (ks:List Str) (h0:ds=[cw ps wy,sv xs k,sv ys l]) (h1:ps.length=xs.length) (h2:ps.length=ys.length) (h3:ps.length<=8) (h4:Paired (λk x=>Vg k x) ks xs) (h5:Paired (λk x=>Vg k x) ks ys) (h6:k∈KS) (h7:l∈KS)
  (h8:R (.bl<|decide<|bH (kF ps wy) (xs++[.str k]) (ys++[.str l])<0) S):Ar ds S R Z
theorem D9(T:Txt w K mg t):Ok P w base T.vO 1 Ar:=by
 refine T.vO.F.bV eY ?_;obtain⟨ps,wy,xs,k,ys,l,ks,e,h1,h2,h8,vx,vy,hk,hl,q⟩;have cP:(ps.map p3).length=ps.length:=zb _;refine{_,(sc (ux<|C9 (JI T.d_<|ac (cb aK T.aI aC<|ac (ix hr.u (dv 0) di) an) an) (gn (i:=3) eY.nd)<|sc (sa (ix hr.u (ix hr.u (dv 0) di)<|dv 3)<|gt (n:=3)<|gc (gn (i:=4) eY.nd)<|gc (gn (i:=5) eY.nd)<|gc (gn (i:=6) eY.nd) g0)<|sc (Zb (i:=7) (j:=8) eY.nd<|ac (ix hr.u (ix hr.u (dv 1) di)<|dv 3)<|ac (ix hr.u (ix hr.u (dv 2) di)<|dv 3) an)<|s1<|si (bf kQ hr.u (dv 7)<|dv 8) (sc (si (twd<|twor (bf fh hr.u (dv 7) dn)<|tw1<|bf fh hr.u (dv 8) dn) (s1<|sr<|cm aU hr.u (cm fh hr.u (dv 7) dn)<|cm aU hr.u (dv 6) ds) s0)<|s1<|sr<|cm aU hr.u (cm pC hr.u (dv 7)<|dv 8)<|cm aU hr.u (dv 5) ds) s0)<|sc (si (bf aU hr.u (ix hr.u (dv 1) di)<|ix hr.u (dv 2) di) (s1<|sr db) s0)<|s1<|sr<|cm aU hr.u (cm pC hr.u (ix hr.u (dv 1) di)<|ix hr.u (dv 2) di)<|cm aU hr.u (ix hr.u (dv 0) di) ds),?_};refine{λaB S'=>∃(o3 o4 o5 o6 o7 o8:Option D),aB=[some<|cw ps wy,some<|sv xs k,some<|sv ys l,o3,o4,o5,o6,o7,o8]/\S'=S/\bH (kF ps wy) (xs++[.str k]) (ys++[.str l])=cV wy "last" (.str k) (.str l),?_,?_};{refine !!!!{by rw[cP];lia,by rw[cP];lia,?_};refine{λi aB S'=>∃(o3 o4 o5 o6 o7 o8:Option D),aB=[some<|cw ps wy,some<|sv xs k,some<|sv ys l,o3,o4,o5,o6,o7,o8]/\S'=S/\bH (kF ps wy) (xs++[.str k]) (ys++[.str l])=bH (kF (ps.drop i) wy) (xs.drop i++[.str k]) (ys.drop i++[.str l]),{_,_,_,_,_,_,rfl,rfl,rfl},λ_ _ _ _=>trivial,?_,?_};rintro i d aB S' hd ⟨o3,o4,o5,o6,o7,o8,rfl,rfl,he⟩;obtain⟨hi,rfl⟩:=cy hd;have i1:i<ps.length:=(by rw[cP]at hi;lia);have i2:i<xs.length:=(by lia);have i3:i<ys.length:=(by lia);have e1:=zg i1;have e2:=zg i2;have e3:=zg i3;rw[yh i1,yh i2,yh i3]at he;generalize ps[i]=p at e1 he;generalize xs[i]=y at e2 he;generalize ys[i]=z at e3 he;have he:_=if cV p.2.1 p.2.2 y z=0 then bH (kF (ps.drop<|i+1) wy) (xs.drop (i+1)++[.str k]) (ys.drop (i+1)++[.str l]) else cV p.2.1 p.2.2 y z:=he;obtain⟨k1,q1,v1⟩:=b_ vx e2;obtain⟨k2,q2,v2⟩:=b_ vy e3;cases q1.symm.trans q2;have ez:(0:Int)+((i:Nat):Int)=((i:Nat):Int):=Int.zero_add _;have a1:jK (ps.map p3) (0+((i:Nat):Int))=some (p3 p):=(by rw[ez];exact bU<|by rw[zi,e1];rfl);have a2:jK xs (0+((i:Nat):Int))=some y:=(by rw[ez];exact bU e2);have a3:jK ys (0+((i:Nat):Int))=some z:=(by rw[ez];exact bU e3);refine !!!{_,a1,_,rfl,rfl,_,_,rfl,_,_,rfl,_,_,rfl,rfl,?_};refine !!!{_,a2,_,rfl,_,rfl,_,rfl,_,a3,_,_,rfl,?_};refine !!⟨mG v1.2 v2.2 !⟨bT (λh=>?_) λh=>?_⟩⟩;have h:jV y z=false:=nt h;have nY:y≠z:=λe=>(by rw[(aT v1.2 v2.2).mpr e]at h;cases h);have hc:cV p.2.1 p.2.2 y z≠0:=λe=>nY<|(iL ⟨k1,v1,v2⟩).mp e;rw[if_neg hc]at he;have hq:R (.bl<|cB ("",p.2.1,p.2.2) y z) S':=(by have:decide (cV p.2.1 p.2.2 y z<0)=cB ("",p.2.1,p.2.2) y z:=(by rw[yp,zR,o9 ⟨k1,v1,v2⟩];exact{λh=>h.2,λh=>⟨nY,h⟩});rw[he,this]at q;exact q);unfold cB at hq;have two:(ah y||ah z)=(ah y != ah z):=(by cases e4:ah y<;>cases e5:ah z<;>first|rfl|(exfalso;exact nY<|(cZ e4).trans (cZ e5).symm));refine !{ah y,rfl,Ja (ah z) (λh=>!!⟨h⟩) ?_};rw[two];refine bT (λh5=>?_) λh5=>?_;rw[if_pos h5]at hq;exact !!⟨oZ<|fo hq⟩;rw[if_neg<|by rw[h5];exact zd]at hq;rw[<-two,Bool.or_eq_false_iff]at h5;rcases lA v1 v2 (aX h5.1) (aX h5.2) with⟨a,b,rfl,rfl⟩|⟨a,b,rfl,rfl⟩;exact !!!⟨oZ<|fo hq⟩;exact !!!⟨oZ<|fo hq⟩;have h:jV y z=true:=nf h;rw[if_pos<|(iL ⟨k1,v1,v2⟩).mpr<|(aT v1.2 v2.2).mp h]at he;exact{_,_,_,_,_,_,rfl,rfl,he};{rintro aB S' ⟨o3,o4,o5,o6,o7,o8,rfl,rfl,he⟩;have he:_=bH (kF (ps.drop (df 0 (((ps.map p3).length:Nat):Int).toNat).length) wy) (xs.drop (df 0 (((ps.map p3).length:Nat):Int).toNat).length++[.str k]) (ys.drop (df 0 (((ps.map p3).length:Nat):Int).toNat).length++[.str l]):=he;rw[bK,cP,show((ps.length:Nat):Int).toNat=ps.length by lia,List.drop_length,h1,List.drop_length,<-h1,h2,List.drop_length]at he;refine fo {_,_,_,_,_,_,rfl,rfl,he.trans ?_};show(if cV wy "last" (.str k) (.str l)=0 then 0 else cV wy "last" (.str k) (.str l))=_;split;{next h=>exact h.symm};rfl}};rintro aB S' ⟨o3,o4,o5,o6,o7,o8,rfl,rfl,he⟩;rw[he]at q;have cm:Cm (.str k) (.str l):={_,kG k hk,kG l hl};refine !!!!!⟨bT (λh=>?_) λh=>?_⟩;have h:k=l:=zB h;rw[(iL cm).mpr<|by rw[h]]at q;exact fo q;have h:¬k=l:=yd h;have nY:D.str k≠.str l:=λe=>h<|D.str.inj e;have e9:decide (cV wy "last" (.str k) (.str l)<0)=(nh k l==decide (wy ="up")):=by rw[yp,zR,o9 cm];exact{λh=>h.2,λh=>⟨nY,h⟩}
 rw[e9]at q;exact !!!!!!⟨oZ<|fo q⟩
inductive uS (ds:List D) (S:aw) (R:KD) (Z:KX):Prop where
 |mk (cs ps wy r) (h0:ds=[.tup<|cs.map ay,cw ps wy,ai r]) (h1:Gd cs) (h2:Pin cs ps) (h3:ps.length<=8) (h4:Wg cs r.2) (h5:R (sv (ps.map λp=>aj cs r.2 p.1) r.1) S)
theorem sF(T:Txt w K mg t):Ok P w base T.mf 1 uS:=by
 refine T.mf.F.bV rG ?_;obtain⟨cs,ps,wy,r,e,hg,hp,h8,hw,q⟩;refine{_,(sc (cG (i:=3) rG.nd<|sZ (N:=["_law_name","_law_kind"]) (src:=[none,none]) (iT (ae uC) ["_law_columns_here","_law_order_here","_law_row","_law_names"] rfl rfl<|by trivial) (Gg<|dv 0) (Rj<|show(["_law_name","_law_kind"]:List Str).Nodup by trivial) (jM rfl rfl) jP (λ_ _ _ _ _=>oE) λ_ _ _ _ _=>(dv 0))<|s1<|sr<|cj<|ac (ct fS T.bu aW<|ac (sZ (N:=["_law_part","_law_row","_law_names"]) (src:=[none,some 2,some 3]) (iT (ae uC) ["_law_columns_here","_law_order_here","_law_row","_law_names"] rfl rfl<|by trivial) (Gg<|ix hr.u (dv 1) di) (oF<|show(["_law_part","_law_row","_law_names"]:List Str).Nodup by trivial) (aQ rfl) aR (λ_ _ _ _ _=>oE) λ_ _ _ _ _=>(ix hr.u (ix hr.u (dv 1) di)<|bm zO PySem.F.slot_list_index PySem.F.type_list_index qQ (dv 2)<|ac (ix hr.u (dv 0) di) an)) an)<|ac (ix hr.u (dv 2) di) an),?_};refine !{_,.inl rfl,?_};refine comp_map QH trivial (by show(cs.map ay).length<=1000;rw[zb];have:=hg.1;lia) (λd hd Q hQ=>?_) λpn kh=>?_;obtain⟨c,_,rfl⟩:=zh.mp hd;exact !{rfl,_,_,rfl,_,_,rfl,rfl,_,rfl,hQ};rw[show({cs.map ay,λ_=>True}:oB).xs=cs.map ay from rfl,Ao];have sb:=Sub.new (c:=.lst<|(cs.map Prod.fst).map D.str) kh;have sN:(S.set pn<|.lst<|(cs.map Prod.fst).map D.str) pn=some (.lst<|(cs.map Prod.fst).map D.str):=aa;generalize S.set pn (.lst<|(cs.map Prod.fst).map D.str)=S1 at sb sN⊢;refine !!{_,.inl rfl,?_};refine comp_map (λd=>match d with|.tup (.str z::_)=>aj cs r.2 z|_=>.av) trivial (by show(ps.map p3).length<=_;rw[zb];lia) (λd hd Q hQ=>?_) λp2 eV=>?_;obtain⟨pt,ZL,rfl⟩:=zh.mp hd;obtain⟨c,hc,ec⟩:=hp pt ZL;have lx:=Jp hg hc;have Wy:=(jU hg hw hc).1;rw[ec]at lx Wy;exact !!!⟨{rfl,_,sN},_,rfl,_,rfl,_,.str pt.1,IK cs pt.1,rfl,sN,rfl,lx.1,lx.2.1,lx.2.2,_,bU Wy,hQ⟩;have e3:(ps.map p3).map (λd=>match d with|.tup (.str z::_)=>aj cs r.2 z|_=>.av)=ps.map λp=>aj cs r.2 p.1:=by rw[zy];rfl
 rw[show({ps.map p3,λ_=>True}:oB).xs=ps.map p3 from rfl,e3];exact{_,_,rfl,.inl aa,_,rfl,_,rfl,cu,S,sb.trans<|.new eV,q}
inductive mR (ds:List D) (S:aw) (R:KD) (Z:KX):Prop where
 |mk (cs ps wy r g) (h0:ds=[cw ps wy,sv (ps.map λp=>aj cs r.2 p.1) r.1,wu g]) (h1:Gd cs) (h2:Pin cs ps) (h3:ps.length<=8) (h4:Wg cs r.2) (h5:r.1∈KS) (h6:Gp cs ps g) (h7:R (.bl<|gP cs ps wy g r) S)
theorem FT(T:Txt w K mg t):Ok P w base T.lj 2 mR:=by
 refine T.lj.F.bV tK ?_;obtain⟨cs,ps,wy,r,g,e,hg,hp,h8,hw,hk,hv,q⟩;have vr:=oi hg hp hw;have px:=Aq vr;have py:=Aq hv.pv;refine{_,(sc (si (bf aU hr.u (dv 1)<|ix hr.u (dv 2) di) (s1<|sr<|cm aU hr.u (ix hr.u (dv 2) di) ds) s0)<|s1<|sr<|aY T.vO (D9 T) hr<|al 0<|al 1<|ac (ix hr.u (dv 2) di) an),?_};have z:=mM (ws:=kF ps wy) wB (su hg hp hw hk) hv.vs;refine !!!⟨Vj px py hk hv.key !⟨bT (λh=>?_) λh=>?_⟩⟩;rw[zL,zR,wG px py]at h;have e0:bH (kF ps wy) (sO cs ps r) (sx g)=0:=z.mpr (by unfold sO sx;rw[h.1,h.2]);refine !!⟨fo ?_⟩;have:gP cs ps wy g r=decide (g.2.2 ="behind"):=by show(decide (bH (kF ps wy) (sO cs ps r) (sx g)<0)||(decide (bH (kF ps wy) (sO cs ps r) (sx g)=0)&&_))=_;rw[e0];rfl
 rw[this]at q;exact q;have e0:bH (kF ps wy) (sO cs ps r) (sx g)≠0:=λe=>by have e:=z.mp e;unfold sO sx at e;have e':=List.append_inj' e rfl;rw[(wG px py).mpr e'.1,zw<|D.str.inj (List.cons.inj e'.2).1]at h;cases h
 refine !!!!{ps,wy,_,_,_,_,_,rfl,by rw[zb],hv.len.symm,h8,vr,hv.pv,hk,hv.key,fo ?_};have:gP cs ps wy g r=decide (bH (kF ps wy) (sO cs ps r) (sx g)<0):=by show(decide (bH (kF ps wy) (sO cs ps r) (sx g)<0)||(decide (bH (kF ps wy) (sO cs ps r) (sx g)=0)&&_))=_;rw[zu e0,zW,Bool.or_false]
 rw[this]at q;exact q
noncomputable def Cw(cs:List<|Str×Str)(ps:List Part)(r:Row):D:=.tup [sv (ps.map λp=>aj cs r.2 p.1) r.1,ai r]
noncomputable def ZP(cs:List<|Str×Str)(ps:List Part):D->D|.tup [.str k,.tup ws]=>Cw cs ps (k,ws)|d=>d
noncomputable def QM(cs:List<|Str×Str)(ps:List Part)(wy:Str)(b x:Row):Bool:=decide<|bH (kF ps wy) (sO cs ps x) (sO cs ps b)<0
theorem An.ix{cs:List<|Str×Str}(hg:Gd cs){ps:List Part}(hp:Pin cs ps){wy:Str}{A:List Row}(h:An cs ps wy A){j:Nat}{b:Row}(e:A[j]?=some b):A.countP (QM cs ps wy b)=j:=by
 have hj:=(ze.mp e).1;have hb:=zE e;have pv:∀r∈A,PV (Vf cs ps) (sO cs ps r):=λr hr=>su hg hp (h.rg.1 r hr)<|h.ky r hr;have lx:=List.pairwise_iff_getElem.mp<|h.lex hg hp;have lt:∀i i' a a',i<i'->A[i]?=some a->A[i']?=some a'->bH (kF ps wy) (sO cs ps a) (sO cs ps a')<0:=λi i' a a' hi e1 e2=>by have:=lx i i' (ze.mp e1).1 (ze.mp e2).1 hi;rw[(ze.mp e1).2,(ze.mp e2).2]at this;exact this
 refine(Jl ?_ (yK hj) (λi a hi ei=>zw<|lt i j a b hi ei e) λi a hi ei=>zu ?_).symm;refine(List.Pairwise.and_mem.mp<|h.lex hg hp).imp λ{x y} Qu hy=>?_;exact zw<|Co (pv x Qu.1) (pv y Qu.2.1) (pv b hb) Qu.2.2<|zB hy;rcases Nat.lt_or_ge j i with q|q;have h1:=lt j i b a q e ei;have:=(Aj (pv a<|zE ei)<|pv b hb).mp h1;lia;have:i=j:=by lia
 subst this;rw[e]at ei;cases ei;have:=(mM (ws:=kF ps wy) wB (pv b hb)<|pv b hb).mpr rfl;lia
noncomputable def fill(B:List Row)(r:Row):D:=if B.any (λx=>decide<|x.1=r.1) then ai r else .av
theorem Jr{cs:List<|Str×Str}{A B:List Row}(hr:Rg cs A){i j:Nat}{b:Row}(eb:B[i]?=some b)(ej:A[j]?=some b):(A.map<|fill<|B.take i).set j (ai b)=A.map (fill<|B.take<|i+1):=by have hj:=(ze.mp ej).1;refine List.ext_getElem? λm=>?_;by_cases e:m=j;subst e;rw[List.getElem?_set_self<|by rw[zb];exact hj,zi,ej];show some (ai b)=some (fill _ b);unfold fill;rw[take_snoc eb,List.any_append,show([b].any λx=>decide<|x.1=b.1)=true by simp,Bool.or_true];rfl;rw[List.getElem?_set_ne<|Ne.symm e,zi,zi];cases ea:A[m]? with|none=>rfl|some a=>show some (fill _ a)=some (fill _ a);have nY:b.1≠a.1:=λq=>(by have h1:(A.map Prod.fst)[m]?=some a.1:=(by rw[zi,ea];rfl);have h2:(A.map Prod.fst)[j]?=some a.1:=(by rw[zi,ej,<-q];rfl);obtain⟨b1,c1⟩:=ze.mp h1;obtain⟨b2,c2⟩:=ze.mp h2;exact e<|(List.getElem_inj hr.2 (h₀:=b1) (h₁:=b2)).mp<|c1.trans c2.symm);unfold fill;rw[take_snoc eb,List.any_append,show([b].any λx=>decide<|x.1=a.1)=false by simp[nY],Bool.or_false]
theorem Js{A B:List Row}(h:∀r∈A,r∈B):A.map (fill B)=A.map ai:=zS λr hr=>by unfold fill;rw[if_pos<|List.any_eq_true.mpr {r,h r hr,zw rfl}]
theorem D_{g:Row->Bool} : ∀l:List Row,(l.map λx=>if g x then (1:Int) else 0).sum=((l.countP g:Nat):Int)|[]=>rfl|x::l=>by rw[zx,List.sum_cons,D_ l,List.countP_cons];cases g x<;>simp<;>lia
theorem Mi{n j:Nat}(h:j<n):GI n ((j:Nat):Int)=some j:=by unfold GI;rw[if_pos<|by lia,if_pos<|by lia];rfl
inductive uT (ds:List D) (S:aw) (R:KD) (Z:KX):Prop where
 |mk (cs:List<|Str×Str) (ps:List Part) (wy:Str) (d:D) (lr:Addr) (rows A:List Row) (h0:ds=[.tup<|cs.map ay,cw ps wy,d,.ref lr]) (h1:Gd cs) (h2:Og cs ps wy) (h3:Sg cs 7 d) (h4:S lr=some (.lst<|rows.map ai)) (h5:rows.length<=100) (h6:Rg cs rows) (h7:Mf rows) (h8:NI cs ps wy 7 d rows A)
  (h9:∀p,S p=none->R (.ref p) (S.set p<|.lst<|A.map ai)):uT ds S R Z
theorem FU(T:Txt w K mg t):Ok P w base T.vP 11 uT:=by
 refine T.vP.F.bV fB ?_;obtain⟨cs,ps,wy,d,lr,rows,A,e,hg,ho,hd,wO,Vk,Mj,hk,hA,q⟩;have h8:=ho.len;refine{_,(sc (Hr (i:=5) (N:=["_law_row","_law_columns_here","_law_order_here","_law_sieve_here"]) (src:=[none,some 0,some 1,some 2]) fB.nd (iT (ae uD) ["_law_columns_here","_law_order_here","_law_sieve_here","_law_rows_here","_law_row","_law_some","_law_found","_law_place_here"] rfl rfl<|by trivial) (il<|dv 3) (oF<|show(["_law_row","_law_columns_here","_law_order_here","_law_sieve_here"]:List Str).Nodup by trivial) (aQ rfl) aR (λ_ _ _ _ _=>(if1<|tv<|aY T.gI (lG T 7) hr<|al 1<|al 3<|al 0 an)) λ_ _ _ _ _=>(cj<|ac (aY T.mf (sF T) hr<|al 1<|al 2<|al 0 an)<|al 0 an))<|sc (cG (i:=6) fB.nd<|bo PZ hr.u (cC<|ac dn an)<|cb aK T.aI aC<|al 5 an)<|sc (ux<|C9 (il<|dv 5) (gt (n:=2)<|gc (gn (i:=7) fB.nd)<|gc (gn (i:=4) fB.nd) g0)<|s1<|sls (dv 6) (cb UO T.UT Pm<|ac (sZ (N:=["_law_other","_law_more","_law_order_here","_law_place_here"]) (src:=[none,none,some 1,some 7]) (iT (ae uD) ["_law_columns_here","_law_order_here","_law_sieve_here","_law_rows_here","_law_row","_law_some","_law_found","_law_place_here"] rfl rfl<|by trivial) (il<|dv 5) (Rj<|show(["_law_other","_law_more","_law_order_here","_law_place_here"]:List Str).Nodup by trivial) (jM rfl rfl) jP (λ_ _ _ _ _=>oE) λ_ _ _ _ _=>(ct C7 T.xZ qF<|ac (aY T.vO (D9 T) hr<|al 2<|al 0<|al 3 an) an)) an)<|dv 4)<|s1<|sr<|dv 6),?_};refine !{_,wO,?_};refine e_ (Af cs d) (ZP cs ps) wO (by show(rows.map ai).length<=_;rw[zb];lia) (λx hx Q Q' hQ Gk=>?_) λls hls=>?_;obtain⟨r,iR,rfl⟩:=zh.mp hx;exact !!!{cs,d,r,rfl,hg,hd,Mj.1 r iR,_,rfl,bT (λh=>!!!{cs,ps,wy,r,rfl,hg,ho.pin,h8,Mj.1 r iR,_,rfl,cu,hQ h}) λh=>Gk h};have eB:((({rows.map ai,λS=>S lr=some (.lst<|rows.map ai)}:oB).xs.filter<|Af cs d).map<|ZP cs ps)=(rows.filter λr=>bj cs r 7 d).map (Cw cs ps):=by show(((rows.map ai).filter<|Af cs d).map<|ZP cs ps)=_;rw[List.filter_map,zy];rfl
 rw[eB];have NA:=hA.pm;have hB:∀x∈rows.filter (λr=>bj cs r 7 d),Wg cs x.2/\x.1∈KS:=λx hx=>{Mj.1 x (yo.mp hx).1,hk x (yo.mp hx).1};have hBl:(rows.filter λr=>bj cs r 7 d).length<=100:=zH (List.length_filter_le _ _) Vk;generalize (rows.filter λr=>bj cs r 7 d)=B at NA hB hBl⊢;have s1:=Sub.new (c:=.lst<|B.map<|Cw cs ps) hls;have QN:(S.set ls<|.lst<|B.map<|Cw cs ps) ls=some (.lst<|B.map<|Cw cs ps):=aa;generalize S.set ls (.lst<|B.map<|Cw cs ps)=S1 at s1 QN⊢;have ml:(B.map<|Cw cs ps).length=B.length:=zb _;refine{pL,λp0 Iz=>!!⟨.inl {_,(Sub.new Iz) _ _ QN,p0,.av,_,rfl,rfl,aa,by lia,by rw[ml];lia,λlf Fw=>?_}⟩};have e0:List.replicate (((B.map<|Cw cs ps).length:Nat):Int).toNat D.av=A.map (fill<|B.take 0):=by rw[ml,show((B.length:Nat):Int).toNat=A.length by rw[NA.length_eq];lia];exact(List.map_const' ..).symm
 rw[e0];have s2:=s1.trans<|Sub.new (c:=.lst [.av]) Iz;have Jt:=(Sub.new (c:=.lst [D.av]) Iz) _ _ QN;generalize S1.set p0 (.lst [.av])=S2 at s2 Jt Fw⊢;have ZQ:ls≠lf:=gq Jt Fw;have Qo:S lf=none:=bN s2 Fw;refine{λaB S'=>∃(o6 o7:Option D),aB=[some<|.tup<|cs.map ay,some<|cw ps wy,some d,some<|.ref lr,o6,some<|.ref ls,some<|.ref lf,o7]/\Sub (S2.set lf<|.lst<|A.map ai) S',?_,?_};refine !{_,(ag ZQ).trans Jt,?_};refine{λi aB S'=>∃(o6 o7:Option D),aB=[some<|.tup<|cs.map ay,some<|cw ps wy,some d,some<|.ref lr,o6,some<|.ref ls,some<|.ref lf,o7]/\Sub (S2.set lf<|.lst<|A.map<|fill<|B.take i) S',{none,none,rfl,.refl _},?_,?_,?_};rintro i aB S' ⟨_,_,_,sb⟩;exact sb _ _<|(ag ZQ).trans Jt;rintro i x aB S' hx ⟨o6,o7,rfl,sb⟩;have hx:(B.map<|Cw cs ps)[i]?=some x:=hx;rw[zi]at hx;cases eb:B[i]? with|none=>(rw[eb]at hx;cases hx)|some b=>rw[eb]at hx;cases hx;have Vl:=zE eb;obtain⟨j,ej⟩:=yt<|NA.mem_iff.mpr Vl;have hjA:=(ze.mp ej).1;refine !{rfl,_,_,rfl,_,_,rfl,rfl,?_};have Vm:=sb _ _<|(ag ZQ).trans Jt;have vb:=su hg ho.pin (hB b Vl).1 (hB b Vl).2;refine !!!{_,Vm,?_};refine fE (λe v=>∃y∈B,e=Cw cs ps y/\v=.int (if QM cs ps wy b y then 1 else 0)) Vm (by show(B.map<|Cw cs ps).length<=_;lia) (λe he Q hQ=>?_) λout pF p hp=>?_;obtain⟨y,hy,rfl⟩:=zh.mp he;exact !{rfl,_,_,rfl,_,_,rfl,rfl,_,rfl,_,rfl,_,rfl,ps,wy,_,_,_,_,_,rfl,by rw[zb],by rw[zb],h8,oi hg ho.pin (hB y hy).1,oi hg ho.pin (hB b Vl).1,(hB y hy).2,(hB b Vl).2,.inr !⟨hQ _ ⟨y,hy,rfl,rfl⟩⟩};have eo:out=(B.map λy=>if QM cs ps wy b y then (1:Int) else 0).map D.int:=(by have:∀{L:List Row}{out:List D},Paired (λe v=>∃y∈B,e=Cw cs ps y/\v=D.int (if QM cs ps wy b y then 1 else 0)) (L.map<|Cw cs ps) out->out=(L.map λy=>if QM cs ps wy b y then (1:Int) else 0).map D.int:=(by intro L;induction L with|nil=>(intro out h;cases h;rfl)|cons z L ih=>intro out h;cases h with|cons r t=>obtain⟨y,_,e1,e2⟩:=r;have:z=y:=(by unfold Cw ai at e1;injection e1 with e1;injection e1 with _ e1;injection e1 with e1 _;injection e1 with e1;injection e1 with a1 e1;injection e1 with a2 _;injection a1 with a1;injection a2 with a2;exact Prod.ext a1 a2);rw[e2,ih t,<-this];rfl);exact this pF);subst eo;have ec:((B.map λy=>if QM cs ps wy b y then (1:Int) else 0).sum)=((j:Nat):Int):=(by rw[D_,<-NA.countP_eq,hA.an.ix hg ho.pin ej]);refine{_,_,rfl,aa,?_};rw[ec];have hF:(S'.set p<|.lst<|(B.map λy=>if QM cs ps wy b y then (1:Int) else 0).map D.int) lf=some (.lst<|A.map<|fill<|B.take i):=(Sub.new hp) _ _<|sb _ _ aa;refine{lf,_,((j:Nat):Int),j,rfl,rfl,hF,Mi<|by rw[zb];exact hjA,_,_,rfl,?_};rw[Jr hA.an.rg eb ej];exact Jc<|sb.trans<|.new hp
 rintro aB S' ⟨o6,o7,rfl,sb⟩;have sb:Sub (S2.set lf<|.lst<|A.map<|fill<|B.take (B.map<|Cw cs ps).length) S':=sb;rw[ml,yG,Js λr hr=>NA.mem_iff.mp hr]at sb;exact fo {_,_,rfl,sb};rintro aB S' ⟨o6,o7,rfl,sb⟩;exact !{_,(cW s2).trans sb,q lf Qo}
inductive As (ds:List D) (S:aw) (R:KD) (Z:KX):Prop where
 |mk (x:Int) (h0:ds=[.int x]) (h1:∀n:Nat,1<=n->n<=1000->R (.int (n:Nat)) S)
theorem Ml(T:Txt w K mg t):Ok P w base T.BM 1 As:=by
 refine T.BM.F.bV Fl ?_;obtain⟨x,e,q⟩;refine{_,(s1<|sr<|s_<|ix hr.u (cC<|ac di<|ac di<|ac di<|ac (bo bz hr.u di<|bo bh hr.u (bo bP hr.u (dv 0) di) di)<|ac di<|ac (bo bz hr.u di<|bo bh hr.u (bo bP hr.u (dv 0) di) di) an)<|bo bh hr.u (dv 0) di),?_};have a0:0<=x/6%9:=zN _ (by decide);have a1:x/6%9<9:=zJ _ (by decide);have b0:0<=x/6%30:=zN _ (by decide);have b1:x/6%30<30:=zJ _ (by decide);refine{_,rfl,{by decide,by trivial},by decide,_,rfl,{by decide,by trivial},by decide,Zh,λp hp=>!{by decide,bE (zN _<|by decide) (zJ _<|by decide) hp λd hd=>?_}};have hd:d∈[D.int 1,.int 2,.int 3,.int<|1+x/6%9,.int 1000,.int<|13+x/6%30]:=hd;have one:∀i:Int,d=.int i->1<=i->i<=1000->Fo S (R d):=λi e h1 h2=>by obtain⟨m,rfl⟩:=Int.eq_ofNat_of_zero_le (show 0<=i by lia);rw[e];exact fo<|q m (by lia)<|by lia
 simp only[zj,zM,or_false]at hd;rcases hd with h|h|h|h|h|h<;>exact one _ h (by lia) (by lia)
inductive Ea (ds:List D) (S:aw) (R:KD) (Z:KX):Prop where
 |mk (cs:List<|Str×Str) (ps:List Part) (wy:Str) (c:Int) (h0:ds=[.tup<|cs.map ay,cw ps wy,.int c]) (h1:Gd cs) (h2:Og cs ps wy) (h3:∀g,Gp cs ps g->R (wu g) S)
theorem Eb(hd:d∈[D.str "ahead",.str "behind"]):∃sd:Str,d=.str sd/\DZ sd=true:=by simp only[zj,zM,or_false]at hd;rcases hd with h|h;exact{_,h,by trivial};exact{_,h,by trivial}
theorem Mm(T:Txt w K mg t):Ok P w base T.Im 2 Ea:=by
 refine T.Im.F.bV mm ?_;obtain⟨cs,ps,wy,c0,e,hg,ho,q⟩;have h8:=ho.len;have cP:(ps.map p3).length=ps.length:=zb _;refine{_,(sc (cG (i:=3) mm.nd<|aY T.fZ (gT T) hr<|al 2<|ac di an)<|sc (cG (i:=4) mm.nd<|ct Hw T.Ih CW<|al 0 an)<|sc (Hr (i:=5) (N:=["_law_k","_law_kinds","_law_xs","_law_order_here"]) (src:=[none,some 4,some 3,some 1]) mm.nd (iT (ae LK) ["_law_columns_here","_law_order_here","_law_cell","_law_xs","_law_kinds","_law_values"] rfl rfl<|by trivial) (JI T.d_<|ac (cb aK T.aI aC<|ac (ix hr.u (dv 1) di) an) an) (oF<|show(["_law_k","_law_kinds","_law_xs","_law_order_here"]:List Str).Nodup by trivial) (aQ rfl) aR (λ_ _ _ _ _=>oE) λ_ _ _ _ _=>(aY T.me (rQ T) hr<|ac (ix hr.u (dv 1)<|ix hr.u (ix hr.u (ix hr.u (dv 3) di)<|dv 0) di)<|ac (ix hr.u (dv 2)<|bo bz hr.u di<|dv 0) an))<|s1<|sr<|cj<|ac (cj<|ac (ct fS T.bu aW<|al 5 an)<|ac (aY T.x6 (B7 T) hr<|ac (ix hr.u (dv 3) di) an) an)<|ac (s_<|ix hr.u (cC<|ac ds<|ac ds an)<|bo bh hr.u (ix hr.u (dv 3) di) di) an),?_};refine !{c0,10,rfl,by decide,λxs lx JK hx xm=>?_};have s1:=Sub.new (c:=.lst<|xs.map D.int) xm;have hX:(S.set lx<|.lst<|xs.map D.int) lx=some (.lst<|xs.map D.int):=aa;generalize S.set lx (.lst<|xs.map D.int)=S1 at s1 hX⊢;have at_:∀k:Nat,k<10->∃x:Int,jK (xs.map D.int) ((k:Nat):Int)=some (.int x)/\0<=x:=λk hk=>mz (by lia) (by rw[zb];lia) hx;obtain⟨x0,e0,_⟩:=at_ 0 (by decide);obtain⟨x1,e1,_⟩:=at_ 1 (by decide);have ek:cs.map ay=(cs.map λc=>(c.1,D.str c.2)).map Dd:=by rw[zy];rfl
 refine !{(cs.map λc=>(c.1,D.str c.2)),by rw[ek],λpd hpd=>?_};have g1:=s1.trans<|Sub.new (c:=.c_<|fj<|cs.map λc=>(c.1,D.str c.2)) hpd;have sM:=(Sub.new (c:=.c_<|fj<|cs.map λc=>(c.1,D.str c.2)) hpd) _ _ hX;have d1:(S1.set pd<|.c_<|fj<|cs.map λc=>(c.1,D.str c.2)) pd=some (.c_<|fj<|cs.map λc=>(c.1,D.str c.2)):=aa;generalize S1.set pd (.c_<|fj<|cs.map λc=>(c.1,D.str c.2))=S2 at g1 sM d1⊢;refine !!!!{by rw[cP];lia,by rw[cP];lia,?_};rw[cP];refine fE (λd v=>∃(j:Nat)(p:Part),d=.int (0+(j:Nat))/\ps[j]?=some p/\Vg (FP cs p.1) v) trivial (by show(df 0 _).length<=_;rw[bK];lia) (λd hd Q hQ=>?_) λout pF p kh=>?_;obtain⟨j,hj⟩:=yt hd;have hj:(df 0 ((ps.length:Nat):Int).toNat)[j]?=some d:=hj;obtain⟨hjn,rfl⟩:=cy hj;have Zt:j<ps.length:=by lia
 have ec:=zg Zt;generalize ps[j]=pt at ec;obtain⟨c,hc,ZI⟩:=ho.pin pt<|zE ec;obtain⟨xj,ZR,_⟩:=at_ (2+j) (by lia);have ZR:jK (xs.map D.int) (2+(0+((j:Nat):Int)))=some (.int xj):=by rw[show(2:Int)+(0+((j:Nat):Int))=((2+j:Nat):Int) by lia];exact ZR
 have ez:(0:Int)+((j:Nat):Int)=((j:Nat):Int):=Int.zero_add _;have h1:=uy (cs.map λc=>(c.1,D.str c.2)) pt.1;rw[show(cs.map λc=>(c.1,D.str c.2)).any (λq=>decide<|q.1=pt.1)=true from List.any_eq_true.mpr {_,zh.mpr ⟨c,hc,rfl⟩,zw ZI}]at h1;cases q3:bY (fj<|cs.map λc=>(c.1,D.str c.2)) (.inr pt.1) with|none=>(rw[q3]at h1;cases h1)|some d=>obtain⟨p',Rw,e1,rfl⟩:=mD _ _ q3;obtain⟨c',JX,rfl⟩:=zh.mp Rw;have e1:c'.1=pt.1:=e1;have U7:FP cs pt.1=c'.2:=(by unfold FP;rw[<-e1,(n6 hg JX).1];rfl);exact !!!!{p3 pt,by rw[ez];exact bU<|by rw[zi,ec];rfl,_,rfl,_,_,d1,q3,_,rfl,_,rfl,_,_,sM,ZR,c'.2,xj,rfl,λv hv=>hQ v {j,pt,rfl,ec,by rw[U7];exact hv}}
 have hv:Paired (λk x=>Vg k x) (ps.map λp=>FP cs p.1) out:=by have hlen:=yL pF;rw[show({df 0 ((ps.length:Nat):Int).toNat,λ_=>True}:oB).xs=df 0 ((ps.length:Nat):Int).toNat from rfl,bK]at hlen;refine nZ (by rw[zb];lia) λj k v ek ev=>?_;obtain⟨d,hd,j',p',e1,e2,hv⟩:=b_ pF ev;have hd:(df 0 ((ps.length:Nat):Int).toNat)[j]?=some d:=hd;obtain⟨_,e3⟩:=cy hd;rw[e3]at e1;have e1:(0:Int)+((j:Nat):Int)=0+((j':Nat):Int):=D.int.inj e1;obtain rfl:j=j':=(by lia);rw[zi,e2]at ek;cases ek;exact hv
 have g2:=g1.trans<|Sub.new (c:=.lst out) kh;have ZS:=(Sub.new (c:=.lst out) kh) _ _ sM;have VR:(S2.set p<|.lst out) p=some (.lst out):=aa;generalize S2.set p (.lst out)=S3 at g2 ZS VR⊢;refine !{_,_,rfl,.inl VR,_,rfl,_,_,ZS,e0,x0,rfl,λz hz=>{cu,cu,λp hp=>!{_,_,(Sub.new hp) _ _ ZS,e1,by decide,bE (zN _<|by decide) (zJ _<|by decide) hp λd hd=>?_}}};obtain⟨sd,rfl,ZT⟩:=Eb hd;exact{cu,S,g2,q (out,z,sd) ⟨hv,hz,ZT⟩}
theorem Ec(hg:Gd cs)(hp:Pin cs ps):∀{B:List Row},Rg cs B->∃A:List Row,A.Perm B/\A.Pairwise λa b=>bG cs wy ps a b=true|[],_=>{[],.refl _,.nil}|x::B,hr=>by obtain⟨A,pm,pw⟩:=Ec hg hp<|hr.sub<|List.sublist_cons_self x B;have iR:Rg cs (x::A):=hr.perm<|pm.cons x;exact{_,(IS x A _).trans<|List.perm_append_comm.trans<|pm.cons x,Ad hg hp iR pw}
theorem Mn(hg:Gd cs)(hp:Pin cs ps)(hr:Rg cs rows)(hk:Mf rows):∃A,NI cs ps wy 7 d rows A:=by obtain⟨A,pm,pw⟩:=Ec hg hp<|hr.sub yw;exact{A,Cs hr hk pm pw}
theorem Ju(h:xs.length=10):(cD xs (some 2) none).length=8:=by unfold cD;rw[ym,List.length_drop,show HT.sIx xs.length 0 (some 2)=min 2 xs.length from HT.sIx_nat ..,show HT.sIx xs.length xs.length none=xs.length from rfl,h];rfl
inductive Au (ds:List D) (S:aw) (R:KD) (Z:KX):Prop where
 |mk (cs:List<|Str×Str) (lk:Addr) (kn:Kn) (c:Int) (h0:ds=[.tup<|cs.map ay,.ref lk,.int c]) (h1:Gd cs) (h2:S lk=some (.c_<|jD kn)) (h3:KI cs kn) (h4:∀d qk,GD KS cs kn d->Zu kn d qk->KI cs qk->R d (S.set lk<|.c_<|jD qk))
theorem Jv(T:Txt w K mg t):Ok P w base T.BL 3 Au:=by
 refine T.BL.F.bV gJ ?_;obtain⟨cs,lk,kn,c0,e,hg,hk,hI,q⟩;have Vc:=hg.1;have hkl:=hI.len;refine{_,(sc (cG (i:=3) gJ.nd<|aY T.fZ (gT T) hr<|al 2<|ac di an)<|sc (cG (i:=4) gJ.nd<|aY T.x6 (B7 T) hr<|ac (ix hr.u (dv 3) di) an)<|sc (cG (i:=5) gJ.nd<|aY T.rC (Fx T) hr<|al 0<|ac (Nn (dv 3) (o1 di) o0) an)<|sc (si (twd<|twand (bf vh hr.u (dv 4)<|dv 1)<|tw1<|bf aU hr.u (bo bh hr.u (ix hr.u (dv 3) di) di) di) (sc (se<|mp1 (dv 1)<|dv 4)<|s1<|sr<|cj<|ac ds<|al 4 an) s0)<|sc (cG (i:=6) gJ.nd<|s_<|ix hr.u (cC<|ac ds<|ac ds an)<|ct C7 T.xZ qF<|ac (cm vh hr.u (dv 4)<|dv 1) an)<|sc (sd hr.u (dv 1) (dv 4)<|dv 5)<|s1<|sr<|cj<|al 6<|al 4<|al 5 an),?_};refine !{c0,10,rfl,by decide,λxs lx JK hx xm=>?_};have s1:=Sub.new (c:=.lst<|xs.map D.int) xm;have hX:(S.set lx<|.lst<|xs.map D.int) lx=some (.lst<|xs.map D.int):=aa;generalize S.set lx (.lst<|xs.map D.int)=S1 at s1 hX⊢;have at_:∀k:Nat,k<10->∃x:Int,jK (xs.map D.int) ((k:Nat):Int)=some (.int x)/\0<=x:=λk hk=>mz (by lia) (by rw[zb];lia) hx;obtain⟨x0,e0,_⟩:=at_ 0 (by decide);obtain⟨x1,e1,_⟩:=at_ 1 (by decide);refine !{_,_,hX,e0,x0,rfl,λz hz=>?_};refine !!!{_,hX,λp2 eV=>{cs,p2,cD xs (some 2) none,rfl,hg,by rw[mL];exact aa,by rw[Ju JK];lia,λws hw=>?_}};have s2:=s1.trans<|Sub.new (c:=.lst<|cD (xs.map D.int) (some 2) none) eV;have sM:=(Sub.new (c:=.lst<|cD (xs.map D.int) (some 2) none) eV) _ _ hX;generalize S1.set p2 (.lst<|cD (xs.map D.int) (some 2) none)=S2 at s2 sM⊢;have dy:=s2 _ _ hk;have isS:(bY (jD kn)<|.inr z).isSome=(iq kn z).isSome:=by rw[rT];cases iq kn z<;>rfl
 have hl:(jD kn).length<sizeLine:=bg (by unfold jD;rw[zb];lia);have n2:=cu;have n3:=pM;have fin:∀{d:D}{qk:Kn},GD KS cs kn d->Zu kn d qk->KI cs qk->Fo (S2.set lk<|.c_<|jD qk) (R d):=λh1 h2 h3=>{_,cW s2,q _ _ h1 h2 h3};refine !!⟨.inr {jD kn,.inr z,dy,rfl,_,rfl,bT (λh=>?_) λh=>?_}⟩;have h:(bY (jD kn)<|.inr z).isSome=true:=h;have WA:(iq kn z).isSome=true:=isS ▸ h;obtain⟨vs,hvs⟩:=Option.isSome_iff_exists.mp WA;refine !{_,_,sM,e1,by decide,_,rfl,bT (λ_=>?_) λ_=>?_};refine !{lk,jD kn,rfl,dy,_,rfl,jD kn,.inr z,.tup vs,dy,rfl,by rw[rT,hvs];rfl,?_};rw[Qp];exact !{n2,fin (.inr<|.inr ⟨z,hz,WA,rfl⟩) (.inr ⟨z,WA,rfl,rfl⟩)<|hI.del z};refine{n2,λp hp=>!!⟨.inr {jD kn,.inr z,(Sub.new hp) _ _ dy,rfl,?_}⟩};rw[h];refine .inr !{_,_,aa,(show jK _ 1=some _ from rfl),S2,.new hp,?_};refine !!!{lk,jD kn,.inr z,rfl,dy,rfl,hl,?_};rw[IC];exact !!!{n3,fin (.inr<|.inl ⟨z,ws,hz,hw,WA,rfl⟩) (.inl {_,z,ws,.inr rfl,rfl,rfl})<|hI.put hz hw};have h:(bY (jD kn)<|.inr z).isSome=false:=h;have Ki:iq kn z=none:=by cases e:iq kn z with|none=>rfl|some _=>rw[isS,e]at h;cases h
 refine aZ {n2,λp hp=>!!⟨.inr {jD kn,.inr z,(Sub.new hp) _ _ dy,rfl,?_}⟩};rw[h];refine .inr !{_,_,aa,(show jK _ 0=some _ from rfl),S2,.new hp,?_};refine !!!{lk,jD kn,.inr z,rfl,dy,rfl,hl,?_};rw[IC];exact !!!{n3,fin (.inl ⟨z,ws,hz,hw,Ki,rfl⟩) (.inl {_,z,ws,.inl rfl,rfl,rfl})<|hI.put hz hw}
inductive Av (ds:List D) (S:aw) (R:KD) (Z:KX):Prop where
 |mk (cs:List<|Str×Str) (lk:Addr) (kn:Kn) (h0:ds=[.ref lk]) (h1:S lk=some (.c_<|jD kn)) (h2:KI cs kn) (h3:∀ss p,ss.Perm (kn.map (·.1))->PyProof.Rows.sortedS ss=true->S p=none->R (.ref p) (S.set p<|.lst<|(iK kn ss).map ai))
theorem Aw(T:Txt w K mg t):Ok P w base T.vR 1 Av:=by
 refine T.vR.F.bV Fj ?_;obtain⟨cs,lk,kn,e,hk,hI,q⟩;have hkl:=hI.len;refine{_,(s1<|sr<|sZ (N:=["_law_key_here","_law_standing"]) (src:=[none,some 0]) (iT (ae H_) ["_law_standing"] rfl rfl<|by trivial) (il<|cb xG T.gF eW<|al 0 an) (oF<|show(["_law_key_here","_law_standing"]:List Str).Nodup by trivial) (aQ rfl) aR (λ_ _ _ _ _=>oE) λ_ _ _ _ _=>(cj<|al 0<|ac (ix hr.u (dv 1)<|dv 0) an)),?_};refine !{lk,jD kn,kn.map (·.1),rfl,hk,by unfold jD;rw[zy,zy];rfl,by unfold jD;rw[zb];lia,λss hp hs p kh=>?_};have hlen:ss.length<=60:=by rw[hp.length_eq,zb];exact hkl
 refine{_,aa,?_};refine comp_map (λd=>match d with|.str z=>.tup [.str z,pQ kn z]|_=>.av) aa (by show(ss.map D.str).length<=1000;rw[zb];lia) (λd hd Q hQ=>?_) λp2 eV=>?_;obtain⟨z,hz,rfl⟩:=zh.mp hd;obtain⟨ws,tU⟩:=jE<|hp.mem_iff.mp hz;have hQ:Q (.tup [.str z,pQ kn z]) (S.set p<|.lst<|ss.map D.str):=hQ;have e1:bY (jD kn) (.inr z)=some (pQ kn z):=by rw[rT];unfold pQ;rw[tU];rfl
 exact !!!{jD kn,_,(Sub.new kh) _ _ hk,e1,cu,hQ};have em:(ss.map D.str).map (λd=>match d with|.str z=>D.tup [.str z,pQ kn z]|_=>.av)=(iK kn ss).map ai:=by rw[jZ hp,zy];rfl
 rw[show({ss.map D.str,λS=>xw S (.ref p)<|ss.map D.str}:oB).xs=ss.map D.str from rfl,em];exact{_,cW<|.new kh,q ss p2 hp hs<|bN (.new kh) eV}
structure ZU(t:gY)(ds:List D)(S:aw)(R:KD)(Z:KX):Prop where
 of:Nz t ds S R Z
noncomputable def Fs(lk lm:Addr)(kn:Kn)(ce:RC):List (Addr×Ce):=(lk,.c_<|jD kn)::(lm,.lst<|ce.map λx=>D.ref x.1)::ce.map Ve
structure Bt(t:gY)(S0:aw)(a lk lm:Addr)(cs:List (Str×Str))(kn:Kn)(ce:RC)(F:List Addr)(dl:List D)(rs:mW)(S:aw):Prop where
 st:St t S0 a (Fs lk lm kn ce) F cs dl rs S
 ki:KI cs kn
 ri:RI rs dl.length kn
 hi:HI rs cs dl.length (ce.map Prod.snd)
 le:dl.length<=89
inductive uU (t:gY) (ds:List D) (S:aw) (R:KD) (Z:KX):Prop where
 |mk (cs:List<|Str×Str) (l:Addr) (ms:List Int) (h0:ds=[.tup<|cs.map ay,.ref l]) (h1:Gd cs) (h2:S l=some (.lst<|ms.map D.int)) (h3:ms.length<=30) (h4:∀S' a lk lm kn ce F dl rs,Bt t S a lk lm cs kn ce F dl rs S'->R (.tup [.ref a,.ref lm,.ref lk]) S')
theorem Jw(T:Txt w K mg t):Ok P w base T.vS 8 (uU t):=by
 have Jx:Ok P w base T.vQ 7 (ZU t):=(LY T).Lh λds S R Z h=>h.of;refine T.vS.F.bV cN ?_;obtain⟨cs,l,ms,e,hg,hl,h30,q⟩;refine{_,(sc (cG (i:=2) cN.nd<|mk T.Il (LQ T) (hr.mono<|by decide) T.Ik T.fz.b d0<|al 0 an)<|sc (cG (i:=3) cN.nd Tu)<|sc (cG (i:=4) cN.nd<|cC<|ac (cC an) an)<|sc (cG (i:=5) cN.nd<|cC an)<|sc (ux<|C9 (il<|Nn (dv 1) o0<|o1 di) (gn (i:=6) cN.nd)<|s1<|si (bf aU hr.u (bo bh hr.u (dv 6) di) di) (s1<|Hr (i:=5) (N:=["_law_k","_law_cell"]) (src:=[none,some 6]) cN.nd (iT (ae E_) ["_law_columns_here","_law_cells","_law_shelf","_law_standing","_law_moments","_law_more","_law_cell"] rfl rfl<|by trivial) (JI T.d_<|ac (bo bz hr.u di<|bo bh hr.u (bo bP hr.u (dv 6) di) di) an) (oF<|show(["_law_k","_law_cell"]:List Str).Nodup by trivial) (aQ rfl) aR (λ_ _ _ _ _=>oE) λ_ _ _ _ _=>(bo bz hr.u (bo bP hr.u (dv 1) di)<|bo qO hr.u di<|dv 0)) s0)<|sc (ux<|C9 (il<|bo bz hr.u (dv 5)<|dv 1) (gn (i:=6) cN.nd)<|sc (se<|aY T.vQ Jx hr<|al 2<|ac (aY T.BL (Jv T) hr<|al 0<|al 3<|al 6 an) an)<|s1<|se<|bm zO zZ z0 cI (dv 4)<|ac (aY T.vR (Aw T) hr<|al 3 an) an)<|s1<|sr<|cj<|al 2<|al 4<|al 3 an),?_};refine{_,rfl,λa ha=>{a,cs,rfl,hg,aa,λS1 F1 Dy U0=>{rfl,?_}}};have ZV:Wx S F1 S1:=λb c hb=>by have h2:b≠a:=gq hb ha;exact U0 b c (λm=>h2<|zI.mp m)<|(ag h2).trans hb
 have st0:St t S a [] F1 cs [] [] S1:={Dy,λ_ h=>(nomatch h),.nil,ZV};refine λlk YJ=>?_;have st1:=st0.new YJ<|.c_ [];generalize S1.set lk (.c_ [])=SA at st1⊢;refine{tM,λq0 hq0=>{pL,λlm hlm=>?_}};have ME:=(st1.new hq0<|.lst []).new hlm<|.lst [.ref q0];generalize (SA.set q0<|.lst []).set lm (.lst [.ref q0])=SB at ME⊢;have MF:St t S a (Fs lk lm [] [(q0,[])]) F1 cs [] [] SB:=ME.perm<|.cons _<|.swap _ _ _;refine{tM,λle hle=>?_};have Gm:=Sub.new (c:=.lst []) hle;have Vn:(SB.set le<|.lst []) le=some (.lst []):=aa;have Ru:=Gm _ _<|MF.Jj.sub _ _ hl;generalize SB.set le (.lst [])=SC at Gm Vn Ru⊢;refine{λaB S'=>∃(lx:Addr)(ys:List Int)(o6:Option D),aB=[some<|.tup<|cs.map ay,some<|.ref l,some<|.ref a,some<|.ref lk,some<|.ref lm,some<|.ref lx,o6]/\Sub SC S'/\S' lx=some (.lst<|ys.map D.int)/\ys.length<=59,?_,?_};refine !!{_,Ru,λp1 sN=>{_,aa,?_}};have Qw:=Sub.new (c:=.lst<|cD (ms.map D.int) none<|some 1) sN;have Mp:(SC.set p1<|.lst<|cD (ms.map D.int) none<|some 1) p1=some (.lst<|cD (ms.map D.int) none<|some 1):=aa;generalize SC.set p1 (.lst<|cD (ms.map D.int) none<|some 1)=SD at Qw Mp⊢;rw[mL]at Mp⊢;generalize cD ms none (some 1)=m1 at Mp⊢;refine{λi aB S'=>∃(lx:Addr)(ys:List Int)(o6:Option D),aB=[some<|.tup<|cs.map ay,some<|.ref l,some<|.ref a,some<|.ref lk,some<|.ref lm,some<|.ref lx,o6]/\Sub SD S'/\S' lx=some (.lst<|ys.map D.int)/\ys.length<=59,{le,[],none,rfl,.refl _,Qw _ _ Vn,zV _},?_,?_,?_};rintro i aB S' ⟨_,_,_,_,sb,_⟩;exact sb _ _ Mp;rintro i d aB S' hd ⟨lx,ys,o6,rfl,sb,hx,hy⟩;have hd:(m1.map D.int)[i]?=some d:=hd;obtain⟨c,_,rfl⟩:=zh.mp<|zE hd;refine !{by decide,_,rfl,bT (λ_=>?_) λ_=>{lx,ys,_,rfl,sb,hx,hy}};have b0:0<=c/8%40:=zN _ (by decide);have b1:c/8%40<40:=zJ _ (by decide);refine{_,rfl,{by decide,by trivial},by decide,_,rfl,by lia,by lia,?_};refine fE (λ_ v=>∃x:Int,v=.int x) trivial (by show(df 0 _).length<=_;rw[bK];lia) (λd hd Q hQ=>?_) λout pF p kh=>?_;obtain⟨j,hj⟩:=yt hd;obtain⟨_,rfl⟩:=cy hj;exact{_,rfl,{by decide,by trivial},_,rfl,.inl<|by decide,hQ _ {_,rfl}};have hlen:=yL pF;have:∀{L out:List D},Paired (λ_ v=>∃x:Int,v=D.int x) L out->∃xs:List Int,out=xs.map D.int:=λ{L out} h=>by induction h with|nil=>exact{[],rfl}|cons r _ ih=>obtain⟨x,rfl⟩:=r;obtain⟨xs,rfl⟩:=ih;exact{x::xs,rfl}
 obtain⟨zs,rfl⟩:=this pF;rw[zb]at hlen;have hlen:(df 0 (20+c/8%40).toNat).length=zs.length:=hlen;rw[bK]at hlen;exact{p,zs,_,rfl,sb.trans<|.new kh,aa,by lia};rintro aB S' ⟨lx,ys,o6,rfl,sb,r⟩;exact fo {lx,ys,o6,rfl,Qw.trans sb,r};rintro aB S2 ⟨lx,ys,o6,rfl,JG,hx,hy⟩;have st4:=(MF.sub Gm).sub JG;refine{λaB S'=>∃(kn:Kn)(ce:RC)(F:List Addr)(dl:List D)(rs:mW)(o6:Option D),aB=[some<|.tup<|cs.map ay,some<|.ref l,some<|.ref a,some<|.ref lk,some<|.ref lm,some<|.ref lx,o6]/\Bt t S a lk lm cs kn ce F dl rs S',?_,?_};refine !!{_,_,hx,JG _ _ Ru,sm<|by rw[zb,zb];lia,λlz hlz=>{_,aa,?_}};rw[<-zK];have YU:(ys++ms).length<=89:=by rw[zC];lia
 generalize ys++ms=zs at YU⊢;have JF:St t S a ((lz,.lst<|zs.map D.int)::Fs lk lm [] [(q0,[])]) F1 cs [] [] (S2.set lz<|.lst<|zs.map D.int):=(st4.new hlz _).perm (List.perm_append_singleton _ _).symm;generalize S2.set lz (.lst<|zs.map D.int)=S3 at JF⊢;refine{λi aB S'=>∃(kn:Kn)(ce:RC)(F:List Addr)(dl:List D)(rs:mW)(o6:Option D),aB=[some<|.tup<|cs.map ay,some<|.ref l,some<|.ref a,some<|.ref lk,some<|.ref lm,some<|.ref lx,o6]/\dl.length=i/\St t S a ((lz,.lst<|zs.map D.int)::Fs lk lm kn ce) F cs dl rs S'/\KI cs kn/\RI rs dl.length kn/\HI rs cs dl.length (ce.map Prod.snd),?_,?_,?_,?_};refine{[],[(q0,[])],F1,[],[],_,rfl,rfl,JF,KI.nil cs,RI.nil,rfl,λm rows e=>?_};cases m with|zero=>(cases e;exact{[],[],rfl,KI.nil cs,.refl _,rfl,λz=>rfl})|succ m=>simp at e
 rintro i aB S' ⟨_,_,_,_,_,_,_,_,st,_⟩;exact st.at 0 rfl;rintro i d aB S' hd ⟨kn,ce,F,dl,rs,o6,rfl,KN,st,hI,hR,hH⟩;have hd:(zs.map D.int)[i]?=some d:=hd;have hi:=(ze.mp hd).1;rw[zb]at hi;obtain⟨c,_,rfl⟩:=zh.mp<|zE hd;refine !!!!{cs,lk,kn,c,rfl,hg,st.at 1 rfl,hI,λde qk hde U7 ZW=>?_};have ZX:St t S a ((lz,.lst<|zs.map D.int)::Fs lk lm qk ce) F cs dl rs _:=st.put 1 rfl<|.c_<|jD qk;generalize S'.set lk (.c_<|jD qk)=S6 at ZX⊢;refine⟨(FO ZX.sh hg hI hR (by lia) hde U7 λS7 F7 rs7 hS7 hK7 hR7 hold=>?_).of⟩;have ZY:=ZX.ZK hS7 hK7;have hM:=ZY.at 2 rfl;have xl:(ce.map λx=>D.ref x.1).length<sizeLine:=bg (by have:=hH.1;rw[zb]at this⊢;lia);refine{_,rfl,{rfl,_,hM},_,rfl,cs,lk,qk,rfl,ZY.at 1 rfl,ZW,λss p hp ho kh=>?_};refine{lm,_,_,rfl,rfl,(Sub.new kh) _ _ hM,xl,?_};have st8:=(ZY.new kh<|.lst<|(iK qk ss).map ai).put 2 rfl<|.lst<|(ce.map λx=>D.ref x.1)++[.ref p];refine{qk,ce++[(p,iK qk ss)],F7,dl++[de],rs7,_,rfl,by rw[zC,KN];rfl,?_,ZW,by rw[zC];exact hR7,?_};unfold Fs;rw[zK,zK];exact st8;rw[zC,zK];exact hH.step hold ZW hR7 hp ho;rintro aB S' ⟨kn,ce,F,dl,rs,o6,rfl,KN,st,hI,hR,hH⟩;have KN:dl.length=(zs.map D.int).length:=KN;rw[zb]at KN;exact fo {kn,ce,F,dl,rs,o6,rfl,st.less (yj.mp st.nd).2 λx hx=>zf _ hx,hI,hR,hH,by lia};rintro aB S' ⟨kn,ce,F,dl,rs,o6,rfl,hb⟩;exact !!!{pM,fo<|q _ _ _ _ _ _ _ _ _ hb}
noncomputable def gO(cs:List<|Str×Str)(ps:List Part)(wy:Str):Option wW->Row->Bool|none,_=>false|some g,r=>gP cs ps wy g r
noncomputable def WB(cs:List<|Str×Str)(ps:List Part)(wy:Str)(b:Option wW):D->Bool|.tup [.str k,.tup ws]=>gO cs ps wy b (k,ws)|_=>false
noncomputable def bR(o:Bool):=if o then ZM else ZO
theorem QO:(((A.map ai).filter<|WB cs ps wy b).map id).length=sE cs ps wy A 0 b:=by rw[List.map_id,List.filter_map,zb];cases b with|none=>show(A.filter λ_=>false).length=0;simp|some g=>show(A.filter<|gP cs ps wy g).length=A.countP (gP cs ps wy g);rw[List.countP_eq_length_filter]
theorem QP(h:m<=A.length):cD (A.map ai) (some ((m:Nat):Int)) (some<|((m:Nat):Int)+((n:Nat):Int))=(seg A m<|Ct A m n).map ai:=by rw[show((m:Nat):Int)+((n:Nat):Int)=((m+n:Nat):Int) by lia];unfold cD seg Ct;rw[HT.sIx_nat,HT.sIx_nat,zb,Nat.min_eq_left h,List.map_take,List.map_drop]
inductive Ax (ds:List D) (S:aw) (R:KD) (Z:KX):Prop where
 |mk (cs:List<|Str×Str) (ps:List Part) (wy:Str) (lr:Addr) (A:List Row) (n:Nat) (b:Option wW) (o:Bool) (h0:ds=[.tup<|cs.map ay,cw ps wy,.ref lr,.int (n:Nat),FQ b,.str<|if o then "on" else "back"]) (h1:Gd cs) (h2:Og cs ps wy) (h3:S lr=some (.lst<|A.map ai)) (h4:An cs ps wy A) (h5:A.length<=100) (h6:1<=n) (h7:n<=1000) (h8:Bg cs ps b)
  (h9:∀p,S p=none->R (Jm p (bR o cs ps wy A b n).1<|A.length-(bR o cs ps wy A b n).2) (S.set p<|.lst<|(seg A (bR o cs ps wy A b n).1 (bR o cs ps wy A b n).2).map ai)):Ax ds S R Z
theorem jJ(T:Txt w K mg t):Ok P w base T.lq 3 Ax:=by
 refine T.lq.F.bV eZ ?_;obtain⟨cs,ps,wy,lr,A,n,b,o,e,hg,ho,wO,hA,Vk,h1,h2,hb,q⟩;have h8:=ho.len;refine{_,(sc (Hr (i:=6) (N:=["_law_row","_law_gap_here","_law_order_here","_law_columns_here"]) (src:=[none,some 4,some 1,some 0]) eZ.nd (iT (ae Ia) ["_law_columns_here","_law_order_here","_law_rows_here","_law_size_here","_law_gap_here","_law_way","_law_ahead","_law_many","_law_told"] rfl rfl<|by trivial) (il<|dv 2) (oF<|show(["_law_row","_law_gap_here","_law_order_here","_law_columns_here"]:List Str).Nodup by trivial) (aQ rfl) aR (λ_ _ _ _ _=>(if1<|twd<|twand (bf kP hr.u (dv 1) dn)<|tw1<|tv<|aY T.lj (FT T) hr<|al 2<|ac (aY T.mf (sF T) hr<|al 3<|al 2<|al 0 an)<|al 1 an)) λ_ _ _ _ _=>(dv 0))<|sc (cG (i:=7) eZ.nd<|cb aK T.aI aC<|al 6 an)<|sc (ux<|si (twd<|twand (bf aU hr.u (dv 5) ds)<|tw1<|bf fh hr.u (dv 4) dn) (s1<|cG (i:=7) eZ.nd<|cb aK T.aI aC<|al 2 an) s0)<|sc (si (bf aU hr.u (dv 5) ds) (sc (cG (i:=8) eZ.nd<|Nn (dv 2) (o1<|dv 7)<|o1<|bo bz hr.u (dv 7)<|dv 3)<|s1<|sr<|cj<|al 8<|al 7<|ac (bo fR hr.u (bo fR hr.u (cb aK T.aI aC<|al 2 an)<|dv 7)<|cb aK T.aI aC<|al 8 an) an) s0)<|sc (cG (i:=8) eZ.nd<|Nn (dv 2) (o1<|cb M0 T.Nu HS<|ac di<|ac (bo fR hr.u (dv 7)<|dv 3) an)<|o1<|dv 7)<|s1<|sr<|cj<|al 8<|ac (bo fR hr.u (dv 7)<|cb aK T.aI aC<|al 8 an)<|ac (bo fR hr.u (cb aK T.aI aC<|al 2 an)<|dv 7) an),?_};refine !{_,wO,?_};refine e_ (WB cs ps wy b) id wO (by show(A.map ai).length<=_;rw[zb];lia) (λx hx Q Q' hQ Gk=>?_) λla hla=>?_;obtain⟨r,iR,rfl⟩:=zh.mp hx;have hw:=hA.rg.1 r iR;have hk:=hA.ky r iR;cases b with|none=>exact (!!⟨br rfl<|aZ<|Gk rfl⟩)|some g=>exact !!⟨gZ rfl !!!!{cs,ps,wy,r,rfl,hg,ho.pin,h8,hw,_,rfl,cs,ps,wy,r,g,rfl,hg,ho.pin,h8,hw,hk,hb g rfl,_,rfl,bT (λh=>!⟨hQ h⟩) λh=>Gk h}⟩
 rw[show({A.map ai,λS=>S lr=some (.lst<|A.map ai)}:oB).xs=A.map ai from rfl];refine !!⟨.inl {_,aa,?_}⟩;rw[QO];have s1:=Sub.new (c:=.lst<|((A.map ai).filter<|WB cs ps wy b).map id) hla;generalize S.set la (.lst<|((A.map ai).filter<|WB cs ps wy b).map id)=S1 at s1⊢;have JM:=s1 _ _ wO;have ml:(A.map ai).length=A.length:=zb _;refine{λaB S'=>aB=[some<|.tup<|cs.map ay,some<|cw ps wy,some<|.ref lr,some<|.int (n:Nat),some<|FQ b,some<|.str<|if o then "on" else "back",some<|.ref la,some<|.int (sE cs ps wy A (if o then 0 else A.length) b:Nat),none]/\S'=S1,?_,?_};cases o with|true=>exact (!!⟨br (by trivial)<|aZ<|fo ⟨rfl,rfl⟩⟩)|false=>refine !!⟨gZ (by trivial) ?_⟩;cases b with|none=>refine !!⟨gZ rfl !!⟨.inl {_,JM,?_}⟩⟩;rw[ml];exact fo ⟨rfl,rfl⟩|some g=>exact !!⟨br rfl<|fo ⟨rfl,rfl⟩⟩
 rintro aB S' ⟨rfl,rfl⟩;cases o with|true=>(have l0:=Jn (cs:=cs) (ps:=ps) (wy:=wy) (zV A.length) b;refine !!⟨gZ (by trivial) ?_⟩;refine !!!!!!{_,JM,λp hp=>?_};have le:sE cs ps wy A 0 b<=Ct A (sE cs ps wy A 0 b) n:=(by unfold Ct;lia);have l2:Ct A (sE cs ps wy A 0 b) n<=A.length:=Nat.min_le_right _ _;rw[show(sE cs ps wy A (if true=true then 0 else A.length) b)=sE cs ps wy A 0 b from rfl,QP l0];have sl:=D0 le l2;refine !!!!⟨.inl {_,(Sub.new hp) _ _ JM,_,rfl,_,rfl,_,rfl,.inl {_,aa,pM,?_}}⟩;rw[ml,zb,sl,show((A.length:Nat):Int)-((sE cs ps wy A 0 b:Nat):Int)-((Ct A (sE cs ps wy A 0 b) n-sE cs ps wy A 0 b:Nat):Int)=((A.length-Ct A (sE cs ps wy A 0 b) n:Nat):Int) by lia];exact{_,cW s1,q p<|bN s1 hp})|false=>have l0:=Jn (cs:=cs) (ps:=ps) (wy:=wy) (zr A.length) b;refine !!⟨br (by trivial) ?_⟩;rw[show(sE cs ps wy A (if false=true then 0 else A.length) b)=sE cs ps wy A A.length b from rfl];have q:∀p,S p=none->R (Jm p (sE cs ps wy A A.length b-n)<|A.length-sE cs ps wy A A.length b) (S.set p<|.lst<|(seg A (sE cs ps wy A A.length b-n)<|sE cs ps wy A A.length b).map ai):=q;generalize sE cs ps wy A A.length b=m at l0 q⊢;refine !!!{_,_,rfl,?_};have e1:(if decide ((0:Int)<((m:Nat):Int)-((n:Nat):Int))=true then ((m:Nat):Int)-((n:Nat):Int) else 0)=((m-n:Nat):Int):=(by by_cases h:(0:Int)<((m:Nat):Int)-((n:Nat):Int);rw[if_pos<|zw h];lia;rw[if_neg<|by rw[zu h];exact zd];lia);dsimp only;rw[e1];refine !!!{_,JM,λp hp=>?_};rw[D1 (Nat.sub_le _ _) l0];have sl:=D0 (A:=A) (Nat.sub_le m n) l0;refine !!!!⟨.inl {_,aa,_,rfl,_,rfl,.inl {_,(Sub.new hp) _ _ JM,_,rfl,pM,?_}}⟩;rw[ml,zb,sl,show((m:Nat):Int)-((m-(m-n):Nat):Int)=((m-n:Nat):Int) by lia,show((A.length:Nat):Int)-((m:Nat):Int)=((A.length-m:Nat):Int) by lia];exact{_,cW s1,q p<|bN s1 hp}
section
variable{t:gY}{S0:aw}{a lk lm:Addr}{cs:List (Str×Str)}{kn:Kn}{ce:RC}{F:List Addr}{dl:List D}{rs:mW}{S:aw}
theorem Bt.sub(h:Bt t S0 a lk lm cs kn ce F dl rs S)(b:Sub S S'):Bt t S0 a lk lm cs kn ce F dl rs S':={h.st.sub b,h.ki,h.ri,h.hi,h.le}
theorem Bt.ml(h:Bt t S0 a lk lm cs kn ce F dl rs S):S lm=some (.lst<|ce.map λx=>D.ref x.1):=h.st.at 1 rfl
theorem Bt.cell(h:Bt t S0 a lk lm cs kn ce F dl rs S){k:Nat}{x:Addr×List Row}(e:ce[k]?=some x):S x.1=some (.lst<|x.2.map ai):=h.st.at (k+2)<|by show(ce.map Ve)[k]?=_;rw[zi,e];rfl
theorem Bt.len(h:Bt t S0 a lk lm cs kn ce F dl rs S):ce.length=dl.length+1:=by have:=h.hi.1;rwa [zb]at this
theorem Bt.snap(h:Bt t S0 a lk lm cs kn ce F dl rs S)(e:ce[k]?=some x):Snap rs cs k x.2:=h.hi.2 k x.2<|by rw[zi,e];rfl
theorem Bt.vw(h:Bt t S0 a lk lm cs kn ce F dl rs S)(e:ce[k]?=some x):Vw t.ao S a cs (.int (k:Nat)) x.2:=by have hk:=(ze.mp e).1;have hl:=h.len;refine(h.snap e).vw h.st.sh h.ri ?_ gt_int;show(if 0<=((k:Nat):Int)/\((k:Nat):Int)<=((dl.length:Nat):Int) then some ((k:Nat):Int) else none)=_;rw[if_pos<|by lia]
theorem Bt.vn(h:Bt t S0 a lk lm cs kn ce F dl rs S)(e:ce[dl.length]?=some x):Vw t.ao S a cs .av x.2:=(h.snap e).vw h.st.sh h.ri rfl rP
theorem Bt.at(h:Bt t S0 a lk lm cs kn ce F dl rs S)(hk:k<ce.length):∃x,ce[k]?=some x:={_,zg hk}
end
theorem Ay(h:An cs ps wy A)(h1:S p=some (.lst<|(seg A b e).map ai))(h2:S p2=some (.lst<|(seg A b e).map ai))(q:R (.bl<|!neg) S):Wm neg (Jm p b<|A.length-e) (Jm p2 b<|A.length-e) S R:=HW (NL h.rg.1 h1) (NL h.rg.1 h2) (Jq h.rg.1 h.ky).1 (zH (Jq h.rg.1 h.ky).2<|by decide) q
noncomputable def WC(t:gY)(o:Bool):Addr:=if o then t.dN else t.cJ
inductive uV (t:gY) (ds:List D) (S:aw) (R:KD) (Z:KX):Prop where
 |mk (S0:aw) (a lk lm:Addr) (cs:List<|Str×Str) (ps:List Part) (wy:Str) (d:D) (c:Int) (kn:Kn) (ce:RC) (F:List Addr) (dl:List D) (rs:mW) (h0:ds=[.ref a,.ref lm,.tup<|cs.map ay,cw ps wy,d,.int c]) (h1:Gd cs) (h2:Og cs ps wy) (h3:Sq cs d) (h4:Bt t S0 a lk lm cs kn ce F dl rs S) (h5:Tb t S) (h6:R (.bl true) S)
theorem Az(T:Txt w K mg t)(B:Bm mg base):∀o:Bool,LH P w K mg base 13 (WC t o) (mV K<|W<|Jo t<|bR o)|true=>{{_,_,(lF T B).w,T.eS.b},T.eS.k}|false=>{{_,_,(iu T B).w,T.cR.b},T.cR.k}
theorem uW(T:Txt w K mg t)(B:Bm mg base):Ok P w base T.qj 14 (uV t):=by
 refine T.qj.F.bV bq ?_;rintro fN A0 outer s H E _ S R Z hr ⟨S0,a,lk,lm,cs,ps,wy,d,c0,kn,ce,F,dl,rs,e,hg,ho,hd,hb,VS,q⟩;subst e;have hle:=hb.le;have xl:=hb.len;have tY:∀o:Bool,LH P w K mg base 13 (WC t o) (mV K<|W<|Jo t<|bR o):=Az T B;refine{_,(sc (cG (i:=6) bq.nd<|aY T.fZ (gT T) hr<|al 5<|ac di an)<|sc (cG (i:=7) bq.nd<|bo bh hr.u (ix hr.u (dv 6) di)<|cb aK T.aI aC<|al 1 an)<|sc (cG (i:=8) bq.nd<|s_<|ix hr.u (cC<|ac (aY T.Im (Mm T) hr<|al 2<|al 3<|ac (bo bP hr.u (ix hr.u (dv 6) di) di) an)<|ac dn an)<|bo bP hr.u (bo bh hr.u (ix hr.u (dv 6) di) di) di)<|sc (cG (i:=9) bq.nd<|ix hr.u (dv 1)<|dv 7)<|sc (ux<|si (twd<|twand (bf pC hr.u (bo bh hr.u (ix hr.u (dv 6) di) di) di)<|tw1<|bf kQ hr.u (dv 9)<|cC an) (s1<|cG (i:=8) bq.nd<|cj<|ac (aY T.mf (sF T) hr<|al 2<|al 3<|ac (ix hr.u (dv 9)<|bo bh hr.u (ix hr.u (dv 6) di)<|cb aK T.aI aC<|al 9 an) an)<|ac (s_<|ix hr.u (cC<|ac ds<|ac ds an)<|bo bh hr.u (bo bP hr.u (ix hr.u (dv 6) di) di) di) an) s0)<|sc (cG (i:=10) bq.nd<|aY T.BM (Ml T) hr<|ac (ix hr.u (dv 6) di) an)<|sc (cG (i:=11) bq.nd<|aY T.vP (FU T) hr<|al 2<|al 3<|al 4<|al 9 an)<|sc (ux<|si (twd<|twand (bf aU hr.u (dv 7)<|bo fR hr.u (cb aK T.aI aC<|al 1 an) di)<|tw1<|bf aU hr.u (bo bh hr.u (ix hr.u (dv 6) di) di) di) (s1<|cG (i:=7) bq.nd dn) s0)<|sc (ux<|C9 (il<|cC<|ac (cj<|ac ds<|ac (dg (v:=.ref t.dN) T.eS.m rfl λ_=>fg _) an)<|ac (cj<|ac ds<|ac (dg (v:=.ref t.cJ) T.cR.m rfl λ_=>fg _) an) an) (gt (n:=2)<|gc (gn (i:=12) bq.nd)<|gc (gn (i:=13) bq.nd) g0)<|s1<|C9 (JI T.d_<|ac di an) (gn (i:=14) bq.nd)<|sc (cG (i:=15) bq.nd<|cfv 13 (tY) hr<|al 0<|al 3<|al 4<|al 10<|al 8<|al 7 an)<|sc (si (twd<|twor (cg<|tv<|cb cF T.au aq<|al 15<|ac (p7 T.bu aW) an)<|tw1<|cg<|tv<|cb cF T.au aq<|ac (ix hr.u (dv 15) di)<|ac (p7 T.Qa Ky) an) (s1<|sr db) s0)<|sc (si (bf HV hr.u (dv 15)<|aY T.lq (jJ T) hr<|al 2<|al 3<|al 11<|al 10<|al 8<|al 12 an) (s1<|sr db) s0)<|s1<|se<|bm0 zO PySem.F.slot_list_clear PySem.F.type_list_clear Lk<|ix hr.u (dv 15) di)<|sc (si (twd<|twand (bf fh hr.u (dv 7) dn)<|tw1<|bf fh hr.u (dv 8) dn) (sc (si (bf HV hr.u (cf (((iu T B).w).mono<|by decide) hr T.cR.m T.cR.k T.tw d2<|al 0<|al 3<|al 4<|al 10 an)<|aY T.lq (jJ T) hr<|al 2<|al 3<|al 11<|al 10<|ac dn<|ac ds an) (s1<|sr db) s0)<|s1<|sr<|cm Nm hr.u (cf (((lF T B).w).mono<|by decide) hr T.eS.m T.eS.k T.xW d2<|al 0<|al 3<|al 4<|al 10 an)<|aY T.lq (jJ T) hr<|al 2<|al 3<|al 11<|al 10<|ac dn<|ac ds an) s0)<|sc (si (bf fh hr.u (dv 7) dn) (sc (si (bf HV hr.u (cf (((iu T B).w).mono<|by decide) hr T.cR.m T.cR.k T.tq d1<|al 0<|al 3<|al 4<|al 10<|al 8 an)<|aY T.lq (jJ T) hr<|al 2<|al 3<|al 11<|al 10<|al 8<|ac ds an) (s1<|sr db) s0)<|s1<|sr<|cm Nm hr.u (cf (((lF T B).w).mono<|by decide) hr T.eS.m T.eS.k T.xV d1<|al 0<|al 3<|al 4<|al 10<|al 8 an)<|aY T.lq (jJ T) hr<|al 2<|al 3<|al 11<|al 10<|al 8<|ac ds an) s0)<|s1<|sr db),?_};refine !{c0,5,rfl,by decide,λxs lx JK hx xm=>?_};have s1:=Sub.new (c:=.lst<|xs.map D.int) xm;have hX:(S.set lx<|.lst<|xs.map D.int) lx=some (.lst<|xs.map D.int):=aa;generalize S.set lx (.lst<|xs.map D.int)=S1 at s1 hX⊢;have at_:∀k:Nat,k<5->∃x:Int,jK (xs.map D.int) ((k:Nat):Int)=some (.int x)/\0<=x:=λk hk=>mz (by lia) (by rw[zb];lia) hx;obtain⟨x0,e0,_⟩:=at_ 0 (by decide);obtain⟨x1,e1,_⟩:=at_ 1 (by decide);obtain⟨x2,e2,_⟩:=at_ 2 (by decide);obtain⟨x3,e3,_⟩:=at_ 3 (by decide);obtain⟨x4,e4,_⟩:=at_ 4 (by decide);have WD:=hb.sub s1;have hM:=WD.ml;have ml:(ce.map λx=>D.ref x.1).length=ce.length:=zb _;refine !{_,_,hX,e0,_,rfl,_,rfl,.inl {_,hM,by lia,?_}};rw[ml];obtain⟨k,ek⟩:=Int.eq_ofNat_of_zero_le<|show 0<=x0%((ce.length:Nat):Int) from zN _ (by lia);have hk:k<ce.length:=by have:=zJ x0 (show(0:Int)<((ce.length:Nat):Int) by lia);lia
 rw[ek];obtain⟨x,ex⟩:=hb.at hk;have aM:jK (ce.map λx=>D.ref x.1) ((k:Nat):Int)=some (.ref x.1):=bU (by rw[zi,ex];rfl);have hc:=WD.cell ex;obtain⟨Mj,h60⟩:=(WD.snap ex).rg;have Vo:Mf x.2:=(WD.snap ex).key;have NN:∀g0 d',Gp cs ps g0->d'∈[wu g0,D.av]->∃b,d'=FQ b/\Bg cs ps b:=λg0 d' WE qq=>by simp only[zj,zM,or_false]at qq;rcases qq with h|h;exact{some g0,h,λg z=>by cases z;exact WE};exact⟨none,h,nofun⟩
 refine !!!{_,_,hX,e1,{by decide,by trivial},cs,ps,wy,_,rfl,hg,ho,λg0 WE=>{cu,λp hp=>!{_,_,(Sub.new hp) _ _ hX,e1,by decide,{by decide,by trivial},bE (show 0<=x1%8/7 by lia) (show x1%8/7<2 by lia) hp λd' qq=>?_}}};obtain⟨b0,rfl,Ni⟩:=NN g0 d' WE qq;clear qq hp WE NN p g0;refine !!{_,_,hM,aM,?_};have ml2:(x.2.map ai).length=x.2.length:=zb _;refine{λaB S'=>∃b,Bg cs ps b/\aB=[some<|.ref a,some<|.ref lm,some<|.tup<|cs.map ay,some<|cw ps wy,some d,some<|.int c0,some<|.ref lx,some<|.int (k:Nat),some<|FQ b,some<|.ref x.1,none,none,none,none,none,none]/\S'=S1,?_,?_};refine !{_,_,hX,e1,by decide,_,rfl,bT (λ_=>?_) λ_=>aZ<|fo ⟨b0,Ni,rfl,rfl⟩};refine !{tM,λp2 eV=>L8 ((Sub.new eV) _ _ hc) aa (Mg Mj Vo) !⟨bT (λh2=>?_) λh2=>{S1,.new eV,b0,Ni,rfl,rfl}⟩};have h2:(!(x.2.map ai).isEmpty)=true:=h2;have EG:0<x.2.length:=by cases h:x.2 with|nil=>(rw[h]at h2;cases h2)|cons _ _=>exact Nat.succ_pos _
 have s2:=Sub.new (c:=.lst []) eV;have FZ:=s2 _ _ hc;have sM:=s2 _ _ hX;generalize S1.set p2 (.lst [])=S2 at s2 FZ sM⊢;obtain⟨d',UZ,e2'⟩:=p5 (l:=x.2.map ai) (i:=x2%(((x.2.map ai).length:Nat):Int)) (zN _<|by lia)<|zJ _ (by lia);obtain⟨r,iR,rfl⟩:=zh.mp<|zE e2';refine !!!!{_,_,sM,e2,_,rfl,_,rfl,.inl {_,FZ,by lia,_,_,FZ,UZ,cs,ps,wy,r,rfl,hg,ho.pin,ho.len,Mj.1 r iR,cu,λp hp=>!{_,_,(Sub.new hp) _ _ sM,e1,{by decide,by trivial},by decide,bE (zN _<|by decide) (zJ _<|by decide) hp λd' qq=>?_}}};obtain⟨sd,rfl,ZT⟩:=Eb qq;exact{cu,S1,s2,some<|gOf cs ps sd r,(λg e=>by cases e;exact QG hg ho.pin (Mj.1 r iR) (Vo r iR) ZT),rfl,rfl};rintro aB S' ⟨b,JP,rfl,rfl⟩;clear Ni b0;refine !{_,_,hX,e3,_,rfl,λn n1 n2=>?_};obtain⟨A,hA⟩:=Mn (d:=d) (wy:=wy) hg ho.pin Mj Vo;have hAl:A.length<=60:=by rw[hA.pm.length_eq];exact zH (List.length_filter_le _ _) h60
 refine !!!!{cs,ps,wy,d,_,_,A,rfl,hg,ho,hd.1,hc,by lia,Mj,Vo,hA,λpr hpr=>?_};have s2:=s1.trans<|Sub.new (c:=.lst<|A.map ai) hpr;have sM:=(Sub.new (c:=.lst<|A.map ai) hpr) _ _ hX;have hP:(S'.set pr<|.lst<|A.map ai) pr=some (.lst<|A.map ai):=aa;generalize S'.set pr (.lst<|A.map ai)=S2 at s2 sM hP⊢;have BC:=hb.sub s2;refine{λaB S'=>∃m,(m=.int (k:Nat)\/m=.av)/\Vw t.ao S2 a cs m x.2/\aB=[some<|.ref a,some<|.ref lm,some<|.tup<|cs.map ay,some<|cw ps wy,some d,some<|.int c0,some<|.ref lx,some m,some<|FQ b,some<|.ref x.1,some<|.int (n:Nat),some<|.ref pr,none,none,none,none]/\S'=S2,?_,?_};refine !!!⟨.inl {_,BC.ml,_,rfl,bT (λhm=>?_) λ_=>aZ<|fo {_,.inl rfl,BC.vw ex,rfl,rfl}}⟩;have hm:=zB hm;rw[ml]at hm;obtain rfl:k=dl.length:=by lia
 exact !{_,_,sM,e4,by decide,_,rfl,bT (λ_=>fo {_,.inr rfl,BC.vn ex,rfl,rfl}) λ_=>fo {_,.inl rfl,BC.vw ex,rfl,rfl}};rintro aB S' ⟨m,hm,hv,rfl,rfl⟩;have hq:Qs t S' a cs ps wy d m x.2:={hg,ho,hd,hv,Vo,VS.sub s2};refine{λaB S4=>∃RE RF JQ JR:Option D,aB=[some<|.ref a,some<|.ref lm,some<|.tup<|cs.map ay,some<|cw ps wy,some d,some<|.int c0,some<|.ref lx,some m,some<|FQ b,some<|.ref x.1,some<|.int (n:Nat),some<|.ref pr,RE,RF,JQ,JR]/\Sub S' S4,?_,?_};refine{cu,cu,cu,λpl cP=>{_,aa,?_}};have Gm:=Sub.new (c:=.lst [.tup [.str "on",.ref t.dN],.tup [.str "back",.ref t.cJ]]) cP;have hL:(S'.set pl<|.lst [.tup [.str "on",.ref t.dN],.tup [.str "back",.ref t.cJ]]) pl=some (.lst [.tup [.str "on",.ref t.dN],.tup [.str "back",.ref t.cJ]]):=aa;generalize S'.set pl (.lst [.tup [.str "on",.ref t.dN],.tup [.str "back",.ref t.cJ]])=S4 at Gm hL⊢;refine{λi aB S5=>∃RE RF JQ JR:Option D,aB=[some<|.ref a,some<|.ref lm,some<|.tup<|cs.map ay,some<|cw ps wy,some d,some<|.int c0,some<|.ref lx,some m,some<|FQ b,some<|.ref x.1,some<|.int (n:Nat),some<|.ref pr,RE,RF,JQ,JR]/\Sub S4 S5,{_,_,_,_,rfl,.refl _},by rintro i aB S5 ⟨_,_,_,_,_,sb⟩;exact sb _ _ hL,?_,?_};rintro i y aB S5 hy ⟨RE,RF,JQ,JR,rfl,sb⟩;obtain⟨o,rfl⟩:∃o:Bool,y=.tup [.str<|if o then "on" else "back",.ref<|WC t o]:=by have:=zE hy;simp only[zj,zM,or_false]at this;rcases this with rfl|rfl;exact⟨true,rfl⟩;exact⟨false,rfl⟩
 refine !{rfl,_,_,rfl,_,_,rfl,rfl,?_};refine{2,rfl,by decide,by decide,?_};refine{λi aB S6=>∃JQ JR:Option D,aB=[some<|.ref a,some<|.ref lm,some<|.tup<|cs.map ay,some<|cw ps wy,some d,some<|.int c0,some<|.ref lx,some m,some<|FQ b,some<|.ref x.1,some<|.int (n:Nat),some<|.ref pr,some<|.str<|if o then "on" else "back",some<|.ref<|WC t o,JQ,JR]/\Sub S4 S6,{_,_,rfl,sb},λ_ _ _ _=>trivial,?_,?_};rintro i2 y2 aB S6 hy2 ⟨JQ,JR,rfl,RG⟩;refine{o,rfl,_,rfl,_,rfl,_,rfl,_,rfl,_,rfl,_,rfl,(hq.sub<|Gm.trans RG).pg (f:=bR o) b n1 n2 JP λA' p Mq hp=>?_};obtain rfl:=hA.one hg ho.pin Mq;have s7:=Sub.new (c:=.lst<|(seg A (bR o cs ps wy A b n).1 (bR o cs ps wy A b n).2).map ai) hp;have JS:(S6.set p<|.lst<|(seg A (bR o cs ps wy A b n).1 (bR o cs ps wy A b n).2).map ai) p=_:=aa;generalize S6.set p (.lst<|(seg A (bR o cs ps wy A b n).1 (bR o cs ps wy A b n).2).map ai)=S7 at s7 JS⊢;refine !{_,_,_,_,rfl,aV,rfl,_,rfl,aZ !!{_,_,_,_,rfl,FK,.inl {rfl,_,JS},_,rfl,aZ ?_}};refine !!!!!!!{cs,ps,wy,pr,A,n,b,o,rfl,hg,ho,((Gm.trans RG).trans s7) _ _ hP,hA.an,by lia,n1,n2,JP,λp8 wH=>Ay hA.an ((Sub.new wH) _ _ JS) aa !⟨aZ ?_⟩};have Gn:=(Sub.new (c:=.lst<|(seg A (bR o cs ps wy A b n).1 (bR o cs ps wy A b n).2).map ai) wH) _ _ JS;have s9:=(RG.trans s7).trans<|Sub.new (c:=.lst<|(seg A (bR o cs ps wy A b n).1 (bR o cs ps wy A b n).2).map ai) wH;generalize S7.set p8 (.lst<|(seg A (bR o cs ps wy A b n).1 (bR o cs ps wy A b n).2).map ai)=S9 at Gn s9⊢;refine !!⟨{rfl,_,Gn},p,_,rfl,rfl,Gn,?_⟩;exact{_,_,rfl,λb' c' Td=>by rw[ag<|gq Td<|bN RG hp];exact s9 _ _ Td};rintro aB S6 ⟨JQ,JR,rfl,RG⟩;exact{_,_,_,_,rfl,RG};rintro aB S5 ⟨RE,RF,JQ,JR,rfl,sb⟩;exact fo {_,_,_,_,rfl,Gm.trans sb};rintro aB S5 ⟨RE,RF,JQ,JR,rfl,Vp⟩;have q:∀{S6},Sub S' S6->Fo S6 (R<|.bl true):=λsb=>{S,s2.trans sb,q};rcases hm with rfl|rfl;exact !!⟨br rfl<|aZ !!⟨br rfl<|q Vp⟩⟩;cases b with|none=>(refine !!⟨gZ rfl !!⟨gZ rfl ?_⟩⟩;refine !!!!⟨(hq.sub Vp).pg (f:=bR false) none n1 n2 JP λA' p Mq hp=>?_⟩;obtain rfl:=hA.one hg ho.pin Mq;have s7:=Vp.trans<|Sub.new (c:=.lst<|(seg A (bR false cs ps wy A none n).1 (bR false cs ps wy A none n).2).map ai) hp;have JS:(S5.set p<|.lst<|(seg A (bR false cs ps wy A none n).1 (bR false cs ps wy A none n).2).map ai) p=_:=aa;generalize S5.set p (.lst<|(seg A (bR false cs ps wy A none n).1 (bR false cs ps wy A none n).2).map ai)=S7 at s7 JS⊢;refine !!!!{cs,ps,wy,pr,A,n,none,false,rfl,hg,ho,s7 _ _ hP,hA.an,by lia,n1,n2,JP,λp8 wH=>Ay hA.an ((Sub.new wH) _ _ JS) aa !⟨aZ ?_⟩};have s8:=s7.trans<|Sub.new (c:=.lst<|(seg A (bR false cs ps wy A none n).1 (bR false cs ps wy A none n).2).map ai) wH;generalize S7.set p8 (.lst<|(seg A (bR false cs ps wy A none n).1 (bR false cs ps wy A none n).2).map ai)=S8 at s8⊢;refine !!!!⟨(hq.sub s8).pg (f:=bR true) none n1 n2 JP λA' p9 Mq Gn=>?_⟩;obtain rfl:=hA.one hg ho.pin Mq;exact !!!!{cs,ps,wy,pr,A,n,none,true,rfl,hg,ho,(Sub.new Gn) _ _<|s8 _ _ hP,hA.an,by lia,n1,n2,JP,λp8 wH=>Ay hA.an ((Sub.new wH) _ _ aa) aa<|q<|(s8.trans<|.new Gn).trans<|.new wH})|some g=>refine !!⟨gZ rfl !!⟨br rfl !!⟨gZ rfl ?_⟩⟩⟩;refine !!!!!⟨(hq.sub Vp).pg (f:=bR false) (some g) n1 n2 JP λA' p Mq hp=>?_⟩;obtain rfl:=hA.one hg ho.pin Mq;have s7:=Vp.trans<|Sub.new (c:=.lst<|(seg A (bR false cs ps wy A (some g) n).1 (bR false cs ps wy A (some g) n).2).map ai) hp;have JS:(S5.set p<|.lst<|(seg A (bR false cs ps wy A (some g) n).1 (bR false cs ps wy A (some g) n).2).map ai) p=_:=aa;generalize S5.set p (.lst<|(seg A (bR false cs ps wy A (some g) n).1 (bR false cs ps wy A (some g) n).2).map ai)=S7 at s7 JS⊢;refine !!!!!{cs,ps,wy,pr,A,n,some g,false,rfl,hg,ho,s7 _ _ hP,hA.an,by lia,n1,n2,JP,λp8 wH=>Ay hA.an ((Sub.new wH) _ _ JS) aa !⟨aZ ?_⟩};have s8:=s7.trans<|Sub.new (c:=.lst<|(seg A (bR false cs ps wy A (some g) n).1 (bR false cs ps wy A (some g) n).2).map ai) wH;generalize S7.set p8 (.lst<|(seg A (bR false cs ps wy A (some g) n).1 (bR false cs ps wy A (some g) n).2).map ai)=S8 at s8⊢;refine !!!!!⟨(hq.sub s8).pg (f:=bR true) (some g) n1 n2 JP λA' p9 Mq Gn=>?_⟩;obtain rfl:=hA.one hg ho.pin Mq;exact !!!!!{cs,ps,wy,pr,A,n,some g,true,rfl,hg,ho,(Sub.new Gn) _ _<|s8 _ _ hP,hA.an,by lia,n1,n2,JP,λp8 wH=>Ay hA.an ((Sub.new wH) _ _ aa) aa<|q<|(s8.trans<|.new Gn).trans<|.new wH}
theorem Sg.up:∀{n:Nat}{d:D},Sg cs n d->Sg cs (n+1) d|0,_,h=>h.elim|n+1,d,h=>by rcases h with h|⟨e,h1,h2⟩|⟨o,ds,h1,h2,h3,h4⟩;exact .inl h;exact .inr<|.inl ⟨e,h1,h2.up⟩;exact .inr<|.inr {o,ds,h1,h2,h3,λe he=>(h4 e he).up}
theorem NO:∀{n:Nat}{d:D},Sg cs n d->oV (n+1) d=oV n d|0,_,h=>h.elim|n+1,d,h=>by show((mF d).map<|oV<|n+1).sum+1=((mF d).map<|oV n).sum+1;rw[zS λf hf=>NO<|II h f hf]
theorem NP(h:Sg cs n d)(h2:oV n d<=40):∀k,Sg cs (n+k) d/\oV (n+k) d<=40|0=>⟨h,h2⟩|k+1=>by obtain⟨a,b⟩:=NP h h2 k;exact{a.up,by show oV (n+k+1) d<=40;rw[NO a];exact b}
theorem QQ{P:Program}{w:World}{K:Frag}{mg:Str->Option Value}{base:Heap}{k N:Nat}{f:Addr}{fd:FuncData}{ps:List Str}{sp:Nat->ja}(F:∀n,n<=N->bF P w K mg base (fc P w mg) k f fd ps (mV K<|sp n)):bF P w K mg base (fc P w mg) k f fd ps (mV K λds S R Z=>∃n,n<=N/\sp n ds S R Z):={by rintro vs H Q E ⟨ds,S,R,Z,a,b,⟨n,hn,c⟩,d⟩;exact(F n hn).len vs H Q E ⟨ds,S,R,Z,a,b,c,d⟩,by rintro A outer s H args us vs Q E hr he hb hv ⟨ds,S,R,Z,a,b,⟨n,hn,c⟩,d⟩;exact(F n hn).run A outer s H args us vs Q E hr he hb hv ⟨ds,S,R,Z,a,b,c,d⟩}
theorem Vq(ns:List Int):(cD ns (some 12)<|some 42).length<=30:=by unfold cD;rw[show HT.sIx ns.length 0 (some 12)=min 12 ns.length from HT.sIx_nat ..,show HT.sIx ns.length ns.length (some 42)=min 42 ns.length from HT.sIx_nat ..];exact zH (List.length_take_le _ _)<|by lia
inductive Jy (t:gY) (ds:List D) (S:aw) (R:KD) (Z:KX):Prop where
 |mk (ns:List Int) (h0:ds=[.jO<|ns.map D.int]) (h1:ns.length<=63) (h2:Tb t S) (h3:R (.bl true) S)
structure Alw(t:gY)(ds:List D)(S:aw)(R:KD)(Z:KX):Prop where
 of:Nx t.ao t.dO ds S R Z
theorem Mr(T:Txt w K mg t)(B:Bm mg base):Ok P w base T.Zg 20 (Jy t):=by
 have FV:Ok P w base T.ig 5 _:=QQ (sp:=QB) (N:=3) λn hn=>(oa T n).mono (by lia);have sG:AJ P w mg base T.dD 3 (Alw t):=(uJ T).Lh λds S R Z h=>h.of;refine T.Zg.F.bV jv ?_;obtain⟨ns,e,PL,VS,q⟩;refine{_,(sc (cG (i:=1) jv.nd<|aY T.nQ (B8 T) hr<|ac (aY T.dS (fG T) hr<|al 0<|ac di an) an)<|sc (cG (i:=2) jv.nd<|aY T.vN (I_ T) hr<|al 1<|ac (aY T.dS (fG T) hr<|al 0<|ac di an) an)<|sc (cG (i:=3) jv.nd<|aY T.ig FV hr<|al 1<|ac (aY T.fZ (gT T) hr<|ac (aY T.dS (fG T) hr<|al 0<|ac di an)<|ac di an)<|ac (bo bh hr.u (aY T.dS (fG T) hr<|al 0<|ac di an) di) an)<|sc (sa (aY T.vS (Jw T) hr<|al 1<|ac (Nn (dv 0) (o1 di)<|o1 di) an)<|gt (n:=3)<|gc (gn (i:=4) jv.nd)<|gc (gn (i:=5) jv.nd)<|gc (gn (i:=6) jv.nd) g0)<|sc (ux<|C9 (il<|Nn (dv 0) (o1 di)<|o1 di) (gn (i:=7) jv.nd)<|s1<|si (cg<|tv<|aY T.qj (uW T B) hr<|al 4<|al 5<|al 1<|al 2<|al 3<|al 7 an) (s1<|sr db) s0)<|sc (si (cg<|tv<|aY T.qj (uW T B) hr<|al 4<|al 5<|al 1<|al 2<|ac (cj<|ac ds an)<|ac (aY T.dS (fG T) hr<|al 0<|ac di an) an) (s1<|sr db) s0)<|s1<|sr<|pB (cm aU hr.u (qZ (dv 4) T.ak T.dW (rN T) hr)<|bo fR hr.u (cb aK T.aI aC<|al 5 an) di)<|Ga<|cm aU hr.u (TU (dv 4) T.ak T.dD.e (sG.mono<|by decide) hr T.nI d1)<|aY T.vR (Aw T) hr<|al 6 an),?_};refine !{ns,0,rfl,λc0=>{c0,rfl,λcs hcg=>?_}};have hg:=hcg.1;refine !!{ns,1,rfl,λc1=>{cs,c1,rfl,hg,λps wy ho=>?_}};refine !!{ns,2,rfl,λc2=>{c2,14,rfl,by decide,λxs lx JK hx xm=>!{ns,3,rfl,λc3=>{by decide,?_}}}};obtain⟨m,em⟩:=Int.eq_ofNat_of_zero_le<|show 0<=c3%3 from zN _ (by decide);have hm:m<3:=by have:=zJ c3 (show(0:Int)<3 by decide);lia
 refine{m+1,by lia,cs,lx,m,xs,rfl,by rw[em];rfl,hcg,aa,by lia,hx,λd ys hd hsz _ _=>?_};rw[dw];have hsq:Sq cs d:=by have h13:oV (m+1) d<=40:=zH hsz (by rcases m with _|_|_|m<;>first|decide|lia);obtain⟨a,b⟩:=NP hd h13<|6-m;rw[show m+1+(6-m)=7 by lia]at a b;exact{a,by lia}
 have s1:=Sub.new (c:=.lst<|ys.map D.int) xm;generalize S.set lx (.lst<|ys.map D.int)=S1 at s1⊢;refine !!!!⟨λp1 sN=>{cs,p1,cD ns (some 12)<|some 42,rfl,hg,by rw[mL];exact aa,Vq ns,λS3 a lk lm kn ce F dl rs hb=>?_}⟩;have s2:=s1.trans<|Sub.new (c:=.lst<|cD (ns.map D.int) (some 12)<|some 42) sN;generalize S1.set p1 (.lst<|cD (ns.map D.int) (some 12)<|some 42)=S2 at s2 hb;have s3:=s2.trans hb.st.Jj.sub;have tb3:=VS.sub s3;have hle:=hb.le;have xl:=hb.len;refine !{rfl,_,_,rfl,_,_,rfl,_,_,rfl,rfl,?_};refine{λaB S'=>∃o7:Option D,aB=[some<|.jO<|ns.map D.int,some<|.tup<|cs.map ay,some<|cw ps wy,some d,some<|.ref a,some<|.ref lm,some<|.ref lk,o7]/\Sub S3 S',?_,?_};refine !!!⟨λp2 eV=>{_,aa,?_}⟩;have Gm:=Sub.new (c:=.lst<|cD (ns.map D.int) (some 4)<|some 12) eV;have hl:(S3.set p2<|.lst<|cD (ns.map D.int) (some 4)<|some 12) p2=some (.lst<|cD (ns.map D.int) (some 4)<|some 12):=aa;generalize S3.set p2 (.lst<|cD (ns.map D.int) (some 4)<|some 12)=S4 at Gm hl⊢;rw[mL]at hl⊢;generalize cD ns (some 4) (some 12)=ls at hl⊢;refine{λi aB S'=>∃o7:Option D,aB=[some<|.jO<|ns.map D.int,some<|.tup<|cs.map ay,some<|cw ps wy,some d,some<|.ref a,some<|.ref lm,some<|.ref lk,o7]/\Sub S4 S',!⟨.refl _⟩,λi aB S' ⟨_,_,sb⟩=>sb _ _ hl,?_,?_};rintro i x aB S' hx ⟨o7,rfl,sb⟩;have hx:(ls.map D.int)[i]?=some x:=hx;obtain⟨c,_,rfl⟩:=zh.mp<|zE hx;have RH:=Gm.trans sb;exact !!!!!!{S2,a,lk,lm,cs,ps,wy,d,c,kn,ce,F,dl,rs,rfl,hg,ho,hsq,hb.sub RH,tb3.sub RH,_,rfl,aZ !⟨sb⟩};rintro aB S' ⟨o7,rfl,sb⟩;exact fo !⟨Gm.trans sb⟩;rintro aB S4 ⟨o7,rfl,RH⟩;have NQ:=hb.sub RH;have Uy:Sq cs (.tup [.str "every"]):={.inl<|.inl rfl,by trivial};refine !!!!{pL,_,rfl,ns,3,rfl,λc4=>{S2,a,lk,lm,cs,ps,wy,_,c4,kn,ce,F,dl,rs,rfl,hg,ho,Uy,NQ,tb3.sub RH,_,rfl,aZ ?_}};obtain⟨ld,lr,ra,hh,_,_⟩:=id NQ.st.sh;have ZH:=NQ.ri.len NQ.st.sh;have ml:(ce.map λx=>D.ref x.1).length=ce.length:=zb _;refine !{a,_,rfl,hh.ins,rfl,a,F,cs,dl,rs,rfl,NQ.st.sh,_,rfl,_,rfl,.inl {_,NQ.ml,_,rfl,gZ ?_ ?_}};rw[ml];exact zw (by lia);refine !{a,_,rfl,hh.ins,rfl,{a,F,cs,dl,rs,.av,rfl,NQ.st.sh,by lia,rP,λi ss hi hp hs p6 hp6=>?_,λh=>by cases h}};cases hi;have ZZ:=Sub.new (c:=.lst<|dZ rs ((dl.length:Nat):Int) ss) hp6;have wH:(S4.set p6<|.lst<|dZ rs ((dl.length:Nat):Int) ss) p6=some (.lst<|dZ rs ((dl.length:Nat):Int) ss):=aa;generalize S4.set p6 (.lst<|dZ rs ((dl.length:Nat):Int) ss)=S8 at ZZ wH⊢;have hb8:=NQ.sub ZZ;refine !{cs,lk,kn,rfl,hb8.st.at 0 rfl,hb.ki,λs2 p9 eV uY Gn=>?_};rw[Jf hb.ri hb.st.sh hb.ki hp hs eV uY,<-jZ eV]at wH;refine ID ((Sub.new Gn) _ _ wH) aa ?_ {S,((s3.trans RH).trans ZZ).trans<|.new Gn,q};rw[jZ eV];exact QD hb.ki eV
def Jz(t:gY)(K:Frag):Sp:=λvs H Q _=>mV K (Jy t) vs H Q E0
theorem QR(T:Txt w K mg t)(B:Bm mg base):bF P w K mg base VO 20 t.Np t.Ib ["_law_script"] (Jz t K):=bF.calm<|Mr T B
theorem JA{w:World}{K:Frag}{mg:Str->Option Value}{t:gY}(T:Txt w K mg t){H:Hp}{a:Addr}{ns:List Int}(hl:ns.length<=63)(hO:xP t.ts H)(hS:iW K H a<|ns.map V.int):Jz t K [.ref a] H (λv _=>v=.bl true) λ_ _ _=>False:=by
 have hR:MT K H a (ns.map V.int):=by rcases hS with (h|h)|h;rcases hO.all a with q|⟨o,xs,q⟩|⟨_,q⟩;rw[q]at h;cases h;rw[q]at h;cases h;rw[q]at h;cases h;exact .inl h;exact .inr h
 have nY:t.aH≠t.aP:=λe=>by have:=T.np;rw[e]at this;simp at this
 have tok:∀q,C5 H q #[]:=λq=>{trivial,λ_ _ e=>by cases e};refine{[.jO<|ns.map D.int],λb=>if b=t.aP then some (.tab qK) else if b=t.aH then some (.tab qV) else none,λd _=>d=.bl true,λ_ _=>False,aO (Hh hR<|C4 ns) bx,λb c e=>?_,{ns,rfl,hl,{if_pos rfl,(if_neg nY).trans<|if_pos rfl},rfl},λd S v H' e r _ _=>by subst e;exact r.bl,λ_ _ _ z=>z.elim};by_cases h1:b=t.aP;have e:=(if_pos h1).symm.trans e;cases e;rw[h1];exact{#[],hO.tab _ T.l_,tok _};by_cases h2:b=t.aH;have e:=(if_neg h1).symm.trans e;have e:=(if_pos h2).symm.trans e;cases e;rw[h2];exact{#[],hO.tab _ T.j9,tok _};have e:=(if_neg h1).symm.trans e;have e:=(if_neg h2).symm.trans e;cases e
theorem QS{P:Program}{w:World}{K:Frag}{mg:Str->Option Value}{fa:Addr}{ts:List Addr}(O0:mg "law"= some (.ref fa))(T:∃t:gY,t.ts=ts/\Txt w K mg t):∃(fd:FuncData) (sp:Sp),(∀b∈ts,∃c,codeHdIn K c b=true)/\(∀(s:Shared) (u:Value),BindsTo s fd {[u],[]} [("_law_script",u)])/\(∀base:Heap,Bm mg base->K.In base->base.Ns mainGlobals mg->bF P w K mg base VO 20 fa fd ["_law_script"] sp)/\∀(H:Hp) (a:Addr) (ns:List Int),ns.length<=63->xP ts H->iW K H a (ns.map V.int)->sp [.ref a] H (λv _=>v=.bl true) λ_ _ _=>False:=by obtain⟨t,et,T⟩:=T;have e0:=O0.symm.trans T.Zg.m;cases e0;subst et;exact{_,_,λb hb=>(T.ta b<|hb).elim (λe=>{_,e ▸ T.dF}) λe=>{_,e ▸ T.cY},T.bl,λbase B kb nb=>QR T B,λH a ns hl hO hS=>JA T hl hO hS}
end My
end Tactic
open Tactic
local macro_rules|`(command|universe $xs*)=>do return Lean.mkNullNode (← (xs[0]!.getId.toString.foldl (fun (h,n,k,l) c=>let n:=n*62+(if c.isDigit then c.toNat-48 else if c.isUpper then c.toNat-55 else c.toNat-61);if k=9 then (h+n-10*62^9,0,0,l.push (h+n-10*62^9)) else (h,n,k+1,l)) (0,0,0,(#[]:Array Nat))).2.2.2.mapM fun v=>`(command|theorem $(Lean.mkIdent (.mkSimple s!"tw{v}")):ident : True:=trivial))
namespace PySem.W.Fast
universe DxiPs3WDrbCaIsGDjWgmAjzySF5v5aCbeoAKElD6AdujBzLN4RAsIi0ijm6BBROTOCDbBQCEFrfV8MIHBXmIpeHDywAAw88e02m0A5sVsEyVWyCe2rigKEkFBNPb87hxzxAgLQzqt4AkAdn2GLXy3zBd9sOfBXg3A4u429R238G1zXqX86NpA6hUWumwZyBaWleLRdcVB2C8CCgGbcAwzKXFku2QGtUuwfGTt7A5bWUbfD4dAisea70G6QBvpKMqQoIXD6QLqIByHjAatTyzsaqmAZVJG7bdJ5Ae7DO3rS0bAvLcgEr6nGAbRNiG7vBFIn0dwLDM58DqqzWQb3MmAmGWtM12zRCbxGWpyiSABKGcy66EAPAiuveFGoo3COAVx0aKfqCW8UrwM3hKAEFmLpO8fVAPzmvWVUM5DDVFk46uzlDSQT8aSSEbBmz4IBuDhrBFVGkgyVLKA23SVkpL7nBEzwqn8QcUAtZHVw9BgRAGkM1PnOQWA7uOfYl1ZYAMfjDsfUAVBg4RGuZysBHssL3Pv3LRAfkoBXWqpMBCRo5wt486C2AaCjPRWxBLhTd9dg5OAmqyOmJLTbCI6U18rjfsBa6X4YuQm1AHvyaOy1qkA4OisIaU9QC6qjMLzOroAIgRSk7iBEBjFqC2bmV0AJzAhJQI5fBFuTcDyW2wB8zOizsLBRAPnxlogE9oCNFaCjdwBgA5HlpiwkpWAeCAvG8XMNAxY8byIuHTCIup9zpKu5BJkI2wP3iYAwE2wxS0a0AuTzCSRwshBiCmPyt3C4ApBF1xFUvaAWFM9HrpkBB913kfMUkxBAkp81TE46AaoBCYIKIcADOltrQ5yvB40ndRhuPQB6W7FRuYE1AdmeVmO2SKAIqQRT0HQsAy9ya3BO70CFx3QmlTibA8pQorhFHyD48WTAcDxpDTAVbfDV95A4hTlyD4CUAzL3dLAyADBatx9wzNwDA3n3u1Vp7MHACTorzI8lDcdOStvS1SABDtC6CajmC8OyfnJGI7DooFrpdPhAFMhwv4gTFCDYmQMwh181AANOYKth4mAYQSMy9IuSB0MugB9IfKACWLyderJ1Ej38U9dCKBHrR1oXTRXTAVWb2g7PWtAjyzd0l502Co9oGO9zWYA6HKcVh2nMC7PZ3EiMQNA1ZKB17uEPA5VjWrqsOQC89N2xjBPaDNsUcTKngQA7fcKnN7iAAVd3TjhzeZADdm3rq79UCSeT34cPSNAtRMWO1IyTB84HebuU1tAPnBPy9eTPBDVTiEUugUBSxXOuWl7eAjbezv33WFB6l4mzolz6BDqQH5rOq8G8ghXoIDqJACbOXJOjkFA8wHpyYa9RAyK7m4R5dLB5oK3xl6IoCbikOgtlNlCbDPbbCY4ADzJtZpS3GfCXkNbdPkpAAfYIX5yKQ8DpDJwyCsDqALhXcwLAoND6W3ckgTroCmXYZOs9IfB516JECqQJCnKLGGM8lRBRKbOH4s8lC3nXBhDVv1B6EJuv9CbEB6csepMvcWEHbbLjN6XwCNOpze55v1A1Ix45SABDB33SLsIpNPAwTyR6yjoiAizfqz5f9nFXIyZacN5qAWqyad2BrPAljfmmal8SCFJH8WNVeBCPjBP5jyLFByrQTZoleMBo08zzgs6qCa2xi2HSpVAsbmdo5tsdB1E8I3o4P0Jz5e7gqvqeAVrKiQQOVRBJKDBGAAV9BBH9oNOiJSAtjDlFZiuEC2TsIKhzJlDSghnOx7v5BphsIBumKkA1ZR8pQMxIAJAmrNy5R8AYrqB6tsCJAFg1WOKSVbDeQKXa2SXIBiDgh9pvmdAgxE7PMtbCEI2VlDW34mBNoxpZCLCyGfLMybX9rhAwD6BseVG0BjfUEtqUwVBTv8sKIYw0CmJHHJuEfvAGhhQVV8U7CAUcVzj9mrAH4wR0xPknCAvQ7p2kltDIm2UEynwsAbl2OmnBkuA5jWU77bzbDC8yT5SvBBCBleW8dWSwAeGzxGvJk9I2hVvaxHk9B4t7Z1DMyvC4TUl6Bab0E8WWnbK7HSBsS6te8D5cBbkYjBJXKMGS1JGl5xZYBcUaADWWAtBNAL0Gh9bUBlXFeGgCKeC8LTwGXlwxBgqoyfUgsiA76EE3RSCqEDGf4PyufyH2S4P2zmBfAL47Hy4C6rBJQHtou44VAtDrAdeDExCyNnfqXOXQCQBYJdbV4xA1DKjkxV6iAKbKxEHEy2AEwJXVPWNjB8mIvUgImmCyAe0zE17NAzOfLOMeqeEVpSNIhsl7AQ5gVJNY4qAWVQjtzWhlBBhV8prpWdAO27WI1Iz0AehfekdZ5dGyTtNihAG2BjwrJkGlo9BzVoh7LbSACt7irgpVNkAS4tIrGyMkAlIB1YeCb7ApYP5PJ2d1BygRx968X0DS2PIMW4miECHnaFb0loAYekRQ7LgnBBEjTeeWSNCkaKM22mQSCMb6dezCmuAzumYbd2sQAWqiz7qkwjDjBsJyMqL9AdB9AdVRkBCYKqV72ISjHrQFdyBGhIBB2qXKfpBNA2MTDltWJOBRuhYWJCBcAhT4U2fNvvAKWtkO0SPsAJnXmLH8KBAKjrHpCfgsBHJjBWvMzADzmcOSuKQWI7cd0T6bcKEqU3U4yRw9BrIH9lPnKSAawf5JTiwRDFn5gCUGY2AOdlMzEwslAzMGDgTdvFA4cluMgbggChmgkfP2DdBi2VYo6IvTDyre6rHIuaBwjXTS5tKEBsNmetc0V3BKbCjuFcv5D3K4W5qcoXAGRt2jK9jeAyCSqJdBVqBuZwtKhgIoBtwy61U5DLBckTg4fJaDB9fJaHklppCuCP4Y0h7CCHYVBHMY1EB4HSMbPe2dDUzf8cGZUtDHp1DBDKmPCgWL3vpvPNA6QhPs0ieBCeSdVJOwDwAYsc7HO7EaAbXvsPdDvHB9ndcnHARGA4uXJxeWvrA7ZpYgtPFQAnFYcF0lrWA7GIkB91gxBWkjMXWM7HCORuOPPO9mB3TUe7ivrxAnx2Da7w1qCTkvpf2NJFEozu8kNDLUD32DUXYO8UCNknBRhWdaAVJf9zqlnVAq46qZnZcBCH2gc70Zw9Akt4eHjpQSArCWUswE6zAKJXSCEHb0A4ZDPUVsYdAGbRtAYSQDAV1esu93hGERHMr7OLoHAyk0lh1d00C2inYZzzLfBdD6n0h4IyACyE6yi3siA2mk099JZBASbL6lxAWTGVLHhV4JYtACzQP5oBHoEx2mkLuST9AyiZCOUbTzAPcSiGgFZ2JB3gK66M6yAEYpkOeAU4BNjjoDQ5cQBsLRBTgzfXAvRzgEEaE1A1BO1H5bH2ALsN2NYrz5B6CxDsKeyoABPDwdzgqyA1gLxQE2bgB005Ab3RALDYmwBRckTxAXA8BUKZpWAiTfMxdfJgBAtjr3YW1QDYHAh7uJxOBFJS1cbVXtDJAJaKt1fyADGTkymRxiATtmTh1sKgAUysgG6wXhAUObjsLw1sAB58Kd6puSFT0GPv6OV3BoaucxmLpBAJhBywhFKzAnFbtB8HioBmCaoheVMaFEdw31FLdJC7pfrEmSwqB7CEefdJ32AH2ORrPLX1B6MtxnkLiyBaXyIMvvOVAm210d1f0WAG23ah8VeUAhs5h1FgXZBOwNTOnVaLDLC2hxHj1bBg6m51EzmHBOMphrrKxXCftWhMAxrnCuzFVxz5lGD5SKi96CosBwNM8QZwFzB8CN0fQDpZEi16s8nXl3AUOaCU48eoDt6s8CodtdAfNa9qnHgzBC4ttOicZrAytU6x8pjAC41Xb3v0kFCBt3Gra0SKAYgT8AotwuAZQkTwzbwCFMPCsxlw8VCFIIvAEiidB66W7qvdNkB6i5ElPh04AmJ5y879OuACJ6lS8i47FgnrShwBqjABYzE9U96oB95gwyCA96Dyb0k2lvdNBvfZo24dcUB8YABQyWIpChlKMHWL6xCnsLgE21qQBFP3XFwuQKDonZeuTdXvEOayKLHAuSBGZnP5pKLGBN70mNyxLRCkmuBuYFgwDG5SoXOUegBE5BFWLpnFArDInB4YzoBM5pVosDBHALQN7fN2JoGMiiSsUWgRCGj3gpfPpkB1EBuYlLk1BVY6SOOBhXAFUp2usCeAAcCoc0pJFAAGsGprEz9fED2ZPQKd0LCmpJ3vypu9FMdlJGuDEcDi0qmijKyfBHNgleV6hZBEu2M5cNpzAB4U2LHHLQAFbRLvNXy5D9oAF41DbPA5VQYTvkJNAhA4GJEXR2AsSitCfiIHAIj7GB6kKBE4NoTlXfIbAtLKysfuLdBNIuQzGnRiAc2PEvTtkYCMpDlIpkLjDX72pNpQOWAfljzfvW6dCd1z0hbkhJCFoQsCccngCVIvQpkOTvE2N8U6NxNNAJgZacITelCPMpqgZwmjB3hXkFfWPSBhH4Rt326QAi1IqQAEzxASAU4eupK2EiO2qHtJ0ZAJFoagrYnhFGIBQJTSOLAc2UwBhAPbB5lbCbldmPBpPqI2HUpIAsbb17vbPKBw4YBKMKtdDg5UOU8VIPCIlt4DyoZBBO1fh0LH85CRZOCAtbqWCPOKYGUa3UBPU7uVL3VqBJu2ElfxFsBCNeNaSJ5EBZbIkFMwn3ANmSWSAeEEAL3y66PFVjE8dKsCYsjyAUA0HklAHUAYXcqpU9UiAr8Yl8if0hA4tsA4QnUxA8kqE3PULAAQv6MNj1OfAfaLd1q7AxEsYdY2cSksAahBatmPiTB08GF6wLYaASYFPjwo1uAKlNhVyqqIEdDeqPagGpAW1hSm0H63AJyz0Fn0w6AVTV2ngUPWAPi6wjHpTKAKkSiggF9GI9eeSvFH4sBMhbBvhiNlEAPx7x6wluANsqop2ONHASAiLG260SAJUQUAF4MTA2X9QSttgEBj098tQI4ZAg8u9WtNuTAaqhqHHu1BAxU8in6ycmA24wPvDYsTB0N8rbf7uSB46b7eV0FJAHfahT80kxDPEWVMQmpaEnHbOOCxhtB1QvKb4uAXEUuRQZrpePBDdMRwWhkPAGLoLvJZd4BDHLGO5tNZA3pnBmKrfVBEE6BLmkY7BkdGk3MSzKBlLAGBm8bZF9YR0tKEbxAzEomL4ip7BaxVlVeK1XB7l0an8cgMAmLiUQTkpEE8Lcn17eghAWgm0NCmtLB7mTWPdZbmBB8fV2lp5iAAjIFsL52KAU5PbFsh7FD3xCiTTM4VBP83mQCZScFbQSmSCJHKF6Ax3Q6jKNC4YtcAvxvKAUKphhwLppA6187YJLpwAhobIG2qLxBhEhbW8Zn9BGJO0tVf5LAWpTVIhZszA7QIreOmHcA1r01VlylmB1FgESt7raBP1927FAiJCgyeZXHKzeAGnhAWqwxeBLUfI57jVkBR3SGLhVUQAwZo10FCREAVlDl9Iy13A5ONfpyX4IATuDmUscIPBVUNbxvMD3BfHSyfMnCXCI7N0c81uzAN4V0eskTBAG9jKqm1PyDlMjMTi1QVAytFc1zuNmA32UfWW6oXBsm0aZIfGcAtyMQw35TmBdfPpvZMtOAtTLjzH0L1Eeay05HAxbEtZRjXjGpBBm6RdLvfEFDX4qvRZ9ByARSUoqsp5qCsNsGO0plkEFWxHqJyfYBkRY5S9bnTA5AcKn9DFCA9yCixllOXBA0PgDE2CVBFr2itUX7bFEy31zfVASAGcWxrWh7AAs2jA148x4C3SCQQ13yKAzm4AeowMWBcu6CdFKUqDnTtVOhHZbCAqpYmLuulDY1r1PA1JaBO4tbMwAgiBSzenWZonpAKawD2G7inBEeyWMvuCuA893jiZygjCciGgaEA2NCpjfjhbBRPAh2e6c1vP1Ac55NxgdBPBYzFKADE52CFrYld6IVvDzu8Dds27fAGGdOWf99rENmQEf2VsMBuqyaP305BAV9qZjmtSWClRkPXx4vrA4bESuPkqXB29etqjn1yBhAESmdAsmClVIp8qlUjBLGmJx8xYTAsd4RLQbmBA2fbqLqyHXDS38sBTM4sAmBKr5TPyEAAjAN0uXPRAJTPlJAH0zAPvdu3DvmTAlEUBVCRuJAe4OWoQyLLB4eCK6ZWkDHrVPyDt8vPA6iR8wDjLQAyUyhLiOzQBsTGUJy9sqDMXufDg7hYC2LWtKYVvDB8vuEOeKZjA9s5PcaBI5AZWwhz49D7CCWsnV7yRTAhy1TPY0qUAIJmk2FqGSBeJA5X1DLoCNvfBrVg7VDNwRqoNNSQA9VEzmaof4BoEplTsT1SBZcOlv4DJrArT1KhUzm1A93FuRBdmeCAt6Tu876eAGsoR6porZEt7Dby5QVlDprpNGsOxuA1u1Sh311RB8LpUz9JGnCswW75AKuhBaxzzCzNmJFAm1GoVPU7C9YvJ0ihHjGkYPSrpv4AD0pcH469t0Ep323Up10iAmd8bi2rAIAfkwRVYuHrA6IBOrubnTAqHH5eEjFXCQbOO4HNkmAzG26lokeyAj2vt06z6RBCZeo98oxXAxkIs1J1cTBBb7PsRGR7BAuwSVkCW5ATdG1srpDGH9C8jBu6CHAMPs9Ph41IBymqxfbUk7AnK7jxHT4YEnwBUWq202A9ym8Lwvg4AdQmKxdEOYAvvlxTWcSZA0kBDGXEMoANzm0vG6qBCSYzOOOiJEAtnCTm3xnhAozEytTLihBMVxl4W7YhADruR6xYerAaGaVt8rSIDPAMF7dV59ADWBkc4UtYBKEzM0DQIiA5FIoC3C0wAsekJO3gYuCEn2fd2D0bAKPOLoCCTEAaynaoxw5BAL9cbaNLClA427cCimdBBRz5ZgdRziDO0FTBpzo7ALBhgB5fVIBAogrprMclFLYOcxCiAtHBZcDbY6TrA2qZCulvUaEiK5MtFuGXDY8K01W5ofADC0gVLQN9AbUkwxJiJGAzeJrcf4r5ATPgeeozFnAWLsuUIAIEDD6BE8b8WLAgVOULlnJ4H7LHHGyy0QAxcPjXJy7dAgSSWHj6STEI8GE3TKBUBCPZQaA1HaADJIhHf0udALlXu4iI1mCaTbXyqbwEAzJeoibkldFDCgCq8CUtBoilpttPxdAxOUlhw1aNCXRme3HB8sAzp59g19LSCkHv9Wh0X1BGc2yFsNUUBLaUFvtOo4D8wbTYbr10AQiJf24gwfB7BnAYY88JAxNdeRiHbcC2paATRfVHAhW0H0rhrrCkx3nHpSL8ADD5wQAseLA54taJt58sCSdRhtRpJeA2lyAGwHRxAqYkaTs6j7AQoerZkeijAtCQCwKR4qHMvxowoXm8DLL9QHvOnWA9Y8JvaQ2vCTLkJuxeglAb3aZrcUw8EH8onTwrUdAVoWAOIJo3D74d9tww5VDsr6UJf8wzBZ7QEuLK5ZADVkMTB4CrAFIq8fAU7UCU3DrWjDtPCT2UQlKJO8ASsHKUkHmbEhy5IPWIJiE52cNMXmrlBv8UNo7Ct2AofBaogNDyAUrh1pzdSxDQqfW3t9peBJg38onZIQAIRInwr2IaBW110LrXQCDKCk74GjVeE7TeYt0pUKAy0dLRbvlhB4M9adhKhKB7OuHzR6alC5BIaCUSnhCo2wnkkJrTDcTaEpEsy9A4z1I39ly4BBOJodtBPZBCtlcw4VLnBry2j4nQHrACMHc1j3mbDbpyt84uyIDvCWSjTXuaA3BkClvQ46BcUWni9zFaA85PawL7CwBiLYorUq7LDUBOeT5kaBAYP7xYjSxZCRhVkm8ABaED2ST6wUxfA2aOqKz9SJBbjDkymNedBIa35EKVXsDZKfPy7QlgCTUMyNrxxGDMROdT1vu4
end PySem.W.Fast
open PySem PySem.W PyProof.Rows
set_option maxRecDepth 100000 in
set_option maxHeartbeats 0 in
theorem PySem.Challenge.cw_pageturns_k31_pages_on_and_back_holds : PySem.Challenge.rw_pageturns_k31_pages_on_and_back.Holds := by
 w_on;o_law;k_head;(case hw=>w_witness2)
 k_fill
 refine L2.HM (l:=PySem.Challenge.rw_pageturns_k31_pages_on_and_back) (n:=63) (k:=20) (x := "_law_script") (CX:=L2.VO) rfl (by decide) rfl ⟨rfl,by decide,by decide⟩ (fun w h Y=>PySem.W.km_in_of Y) (fun w h Y=>PySem.W.km_tabs_of Y) (fun w h Y=>L2.Lu Y (by trivial)) ?tF fun _ _ _ _ z=>z
 intro w mg fa h KX G O0
 refine My.QS O0 ?_
 refine' L2.gvc KX G "Shelf" ?a1 ?b1 ?c1 ?d1 ?e1 ?f1 ?g1 fun Ms ao Mt k_Shelf=>?z1
 (case a1|b1|c1|d1|e1|f1|g1=>k_is)
 refine' L2.afx KX G (l:=[17,18,19,20,21,22,23,24,25,26,29,30,31,32,33,34,35,41,42,43,44,45,46,47,48,49,50,51,57,58,59,60,61,62,63,65,66,67,69,75,76,77,78,79,80,81,82,83,86,88,89,90,91,92,93,94,95,96,97,98,99,100,101,102,103,104,105,106,107,108,109]) (top:=My.top) ?xF fun f0 g0 A0=>?zF
 case xF =>
  repeat' (refine' L2.af KX G _ (by decide) ?a ?b ?c ?d ?e ?_;(case a|b|c|d=>k_is);(case e=>first|exact L2.UJ fun _=>rfl|exact L2.ln2 fun _ _=>rfl|exact L2.UK fun _ _ _=>rfl|exact L2.Wj fun _ _ _ _=>rfl|exact L2.Wk fun _ _ _ _ _=>rfl|exact L2.Wl fun _ _ _ _ _ _=>rfl|exact L2.Y4 rfl))
  exact L2.af0
 refine' L2.amx ao (l:=[0,1,2,3,4,5,6,7,8,13]) (q := "Shelf.") (cl:=My.bA) ?xMShelf fun BH Z1 Cy=>?zMShelf
 case xMShelf =>
  repeat' (refine' L2.am ao _ (by decide) ?a ?b ?c ?d ?f ?e ?_;(case a|b|c|d|f=>k_is);(case e=>first|exact L2.UJ fun _=>rfl|exact L2.ln2 fun _ _=>rfl|exact L2.UK fun _ _ _=>rfl|exact L2.Wj fun _ _ _ _=>rfl|exact L2.Wk fun _ _ _ _ _=>rfl|exact L2.Wl fun _ _ _ _ _ _=>rfl|exact L2.Y4 rfl))
  exact L2.am0
 refine' L2.Y2 KX G "sorted_by_keys" (My.top 68) ["rows","way"] ?a2 ?b2 ?c2 ?d2 ?e2 fun d0 e0 B0 F0=>?z2
 (case a2|b2|c2|d2=>k_is)
 (case e2=>exact L2.ln2 fun _ _=>rfl)
 refine' L2.Y2 KX G "sorted_by_values" (My.top 70) ["columns","part","rows"] ?a3 ?b3 ?c3 ?d3 ?e3 fun d1 e1 B1 F1=>?z3
 (case a3|b3|c3|d3=>k_is)
 (case e3=>exact L2.UK fun _ _ _=>rfl)
 refine' L2.UQ KX G "page_on" (My.top 73) ["shelf","order","sieve","size","gap","moment"] #[.none,.none] ?a4 ?b4 ?c4 ?d4 ?e4 ?f4 ?g4 ?h4 fun d2 F2 C2 D2=>?z4
 (case a4|b4|c4|d4|e4=>k_is)
 (case f4=>intro s us t;revert us;exact L2.Wl fun _ _ _ _ _ _=>.of_defaults rfl t rfl rfl rfl)
 (case g4=>intro s us t;revert us;exact L2.UL fun _ _ _ _ _=>.of_defaults rfl t rfl rfl rfl)
 (case h4=>intro s us t;revert us;exact L2.UP fun _ _ _ _=>.of_defaults rfl t rfl rfl rfl)
 refine' L2.UQ KX G "page_back" (My.top 74) ["shelf","order","sieve","size","gap","moment"] #[.none,.none] ?a5 ?b5 ?c5 ?d5 ?e5 ?f5 ?g5 ?h5 fun d3 F3 C3 D3=>?z5
 (case a5|b5|c5|d5|e5=>k_is)
 (case f5=>intro s us t;revert us;exact L2.Wl fun _ _ _ _ _ _=>.of_defaults rfl t rfl rfl rfl)
 (case g5=>intro s us t;revert us;exact L2.UL fun _ _ _ _ _=>.of_defaults rfl t rfl rfl rfl)
 (case h5=>intro s us t;revert us;exact L2.UP fun _ _ _ _=>.of_defaults rfl t rfl rfl rfl)
 refine' L2.Y2 KX G "law" (My.top 110) ["_law_script"] ?a6 ?b6 ?c6 ?d6 ?e6 fun d4 e4 B4 F4=>?z6
 (case a6|b6|c6|d6=>k_is)
 (case e6=>exact L2.UJ fun _=>rfl)
 refine' L2.fmd ao "worths_at" "Shelf.worths_at" ((L2.inClass My.bA 9)) ["self","key","moment"] ?a7 ?b7 ?c7 ?d7 ?e7 ?f7 ?g7 ?h7 fun d5 F5 D5=>?z7
 (case a7|b7|c7|d7|e7|f7=>k_is)
 (case g7=>intro s us t;revert us;exact L2.UK fun _ _ _=>.of_defaults rfl t rfl rfl rfl)
 (case h7=>intro s us t;revert us;exact L2.Y6 fun _ _=>.of_defaults rfl t rfl rfl rfl)
 refine' L2.fmd ao "all_at" "Shelf.all_at" ((L2.inClass My.bA 10)) ["self","moment"] ?a8 ?b8 ?c8 ?d8 ?e8 ?f8 ?g8 ?h8 fun d6 F6 D6=>?z8
 (case a8|b8|c8|d8|e8|f8=>k_is)
 (case g8=>intro s us t;revert us;exact L2.ln2 fun _ _=>.of_defaults rfl t rfl rfl rfl)
 (case h8=>intro s us t;revert us;exact L2.Y5 fun _=>.of_defaults rfl t rfl rfl rfl)
 refine' L2.LF KX G "MOST_NAME_SIGNS" 8 ?a9 fun mS=>?z9
 (case a9=>k_is)
 refine' L2.LF KX G "MOST_KEY_SIGNS" 12 ?a10 fun oj=>?z10
 (case a10=>k_is)
 refine' L2.LF KX G "MOST_WORD_SIGNS" 40 ?a11 fun mT=>?z11
 (case a11=>k_is)
 refine' L2.LF KX G "MOST_COLUMNS" 8 ?a12 fun sH=>?z12
 (case a12=>k_is)
 refine' L2.LF KX G "MOST_PARTS_orders" 8 ?a13 fun km=>?z13
 (case a13=>k_is)
 refine' L2.LF KX G "MOST_DEEP" 8 ?a14 fun AA=>?z14
 (case a14=>k_is)
 refine' L2.LF KX G "MOST_PARTS_sieves" 200 ?a15 fun ko=>?z15
 (case a15=>k_is)
 refine' L2.LF KX G "MOST_IN_A_TUPLE" 8 ?a16 fun mU=>?z16
 (case a16=>k_is)
 refine' L2.LF KX G "MOST_ROWS" 1000 ?a17 fun AB=>?z17
 (case a17=>k_is)
 refine' L2.UI KX G "KINDS" ?a18 ?b18 fun Mu w_KINDS=>?z18
 (case a18|b18=>k_is)
 refine' L2.UI KX G "OTHER_WAY" ?a19 ?b19 fun AD w_OTHER_WAY=>?z19
 (case a19|b19=>k_is)
 refine' L2.UI KX G "OTHER_END" ?a20 ?b20 fun AE w_OTHER_END=>?z20
 (case a20|b20=>k_is)
 refine' L2.UI KX G "OTHER_SIDE" ?a21 ?b21 fun wI w_OTHER_SIDE=>?z21
 (case a21|b21=>k_is)
 refine' L2.UI KX G "LENGTHS" ?a22 ?b22 fun FW w_LENGTHS=>?z22
 (case a22|b22=>k_is)
 refine' L2.wR KX G "len" ?a23 fun Vr=>?z23
 (case a23=>k_is)
 refine' L2.wR KX G "all" ?a24 fun Vs=>?z24
 (case a24=>k_is)
 refine' L2.wR KX G "any" ?a25 fun Vt=>?z25
 (case a25=>k_is)
 refine' L2.wR KX G "isinstance" ?a26 fun wJ=>?z26
 (case a26=>k_is)
 refine' L2.wR KX G "range" ?a27 fun Mv=>?z27
 (case a27=>k_is)
 refine' L2.wR KX G "int" ?a28 fun Vu=>?z28
 (case a28=>k_is)
 refine' L2.wR KX G "str" ?a29 fun Vv=>?z29
 (case a29=>k_is)
 refine' L2.wR KX G "bool" ?a30 fun QT=>?z30
 (case a30=>k_is)
 refine' L2.wR KX G "tuple" ?a31 fun Mw=>?z31
 (case a31=>k_is)
 refine' L2.wR KX G "list" ?a32 fun QU=>?z32
 (case a32=>k_is)
 refine' L2.wR KX G "dict" ?a33 fun QV=>?z33
 (case a33=>k_is)
 refine' L2.wR KX G "set" ?a34 fun Vx=>?z34
 (case a34=>k_is)
 refine' L2.wR KX G "zip" ?a35 fun Vy=>?z35
 (case a35=>k_is)
 refine' L2.wR KX G "sorted" ?a36 fun JB=>?z36
 (case a36=>k_is)
 refine' L2.wR KX G "min" ?a37 fun Vz=>?z37
 (case a37=>k_is)
 refine' L2.wR KX G "max" ?a38 fun VA=>?z38
 (case a38=>k_is)
 refine' L2.wR KX G "sum" ?a39 fun VB=>?z39
 (case a39=>k_is)
 refine' L2.wR KX G "reversed" ?a40 fun Cz=>?z40
 (case a40=>k_is)
 refine' L2.LG KX G "BadColumns" ?a41 ?b41 fun wK dE=>?z41
 (case a41=>k_is)
 (case b41=>k_exc)
 refine' L2.LG KX G "BadRow" ?a42 ?b42 fun JC gG=>?z42
 (case a42=>k_is)
 (case b42=>k_exc)
 refine' L2.LG KX G "BadOrder" ?a43 ?b43 fun CA dq=>?z43
 (case a43=>k_is)
 (case b43=>k_exc)
 refine' L2.LG KX G "BadSieve" ?a44 ?b44 fun CB h_=>?z44
 (case a44=>k_is)
 (case b44=>k_exc)
 refine' L2.LG KX G "BadPlace" ?a45 ?b45 fun CC dr=>?z45
 (case a45=>k_is)
 (case b45=>k_exc)
 refine' L2.LG KX G "BadSize" ?a46 ?b46 fun FX nJ=>?z46
 (case a46=>k_is)
 (case b46=>k_exc)
 refine' L2.LG KX G "HasKey" ?a47 ?b47 fun JD rn=>?z47
 (case a47=>k_is)
 (case b47=>k_exc)
 refine' L2.LG KX G "NoKey" ?a48 ?b48 fun Mx vH=>?z48
 (case a48=>k_is)
 (case b48=>k_exc)
 refine' L2.LG KX G "NoMoment" ?a49 ?b49 fun CD k7=>?z49
 (case a49=>k_is)
 (case b49=>k_exc)
 refine' L2.Y3 ao "columns" ?a50 fun pS=>?z50
 (case a50=>k_is)
 refine' L2.Y3 ao "deeds" ?a51 fun tZ=>?z51
 (case a51=>k_is)
 refine' L2.Y3 ao "runs" ?a52 fun wL=>?z52
 (case a52=>k_is)
 refine' L2.gvm KX e0 ?a53 ?b53 ?c53 fun om=>?z53
 (case a53=>k_is)
 (case b53=>rfl)
 (case c53=>first|rfl|decide|simp [codeHdIn])
 refine' L2.gvm KX e1 ?a54 ?b54 ?c54 fun lH=>?z54
 (case a54=>k_is)
 (case b54=>rfl)
 (case c54=>first|rfl|decide|simp [codeHdIn])
 exact⟨⟨_,_,_,_,_,_,_,_,_,_,_,_,_,_,_,_,_,_,_,_,_,_,_,_,_,_,_,_,_,_,_,_,_,_,_,_,_,_,_,_,_,_,_,_,_,_,_⟩,rfl,⟨A0,Cy,F0,F1,F2,C2,D2,F3,C3,D3,F4,F5,D5,F6,D6,mS,oj,mT,sH,km,AA,ko,mU,AB,Mu,fun H=>L2.MU (xs:=[.str "number",.str "word"]) ⟨_,_,_,w_KINDS,rfl,rfl,(by rw[yg];show 2≤16777216;decide),.cons ⟨_,rfl⟩ (.cons ⟨_,rfl⟩ (.nil))⟩ (L2.vf ["number","word"]),AD,⟨by first|rfl|decide,_,_,_,w_OTHER_WAY,⟨rfl,rfl,rfl⟩,rfl,.cons ⟨rfl,⟨_,rfl⟩,⟨_,rfl⟩⟩ (.cons ⟨rfl,⟨_,rfl⟩,⟨_,rfl⟩⟩ (.nil)),by trivial⟩,AE,⟨by first|rfl|decide,_,_,_,w_OTHER_END,⟨rfl,rfl,rfl⟩,rfl,.cons ⟨rfl,⟨_,rfl⟩,⟨_,rfl⟩⟩ (.cons ⟨rfl,⟨_,rfl⟩,⟨_,rfl⟩⟩ (.nil)),by trivial⟩,wI,⟨by first|rfl|decide,_,_,_,w_OTHER_SIDE,⟨rfl,rfl,rfl⟩,rfl,.cons ⟨rfl,⟨_,rfl⟩,⟨_,rfl⟩⟩ (.cons ⟨rfl,⟨_,rfl⟩,⟨_,rfl⟩⟩ (.nil)),by trivial⟩,FW,⟨by first|rfl|decide,_,_,_,w_LENGTHS,⟨rfl,rfl,rfl⟩,rfl,.cons ⟨rfl,⟨_,rfl⟩,⟨_,rfl⟩⟩ (.cons ⟨rfl,⟨_,rfl⟩,⟨_,rfl⟩⟩ (.cons ⟨rfl,⟨_,rfl⟩,⟨_,rfl⟩⟩ (.cons ⟨rfl,⟨_,rfl⟩,⟨_,rfl⟩⟩ (.cons ⟨rfl,⟨_,rfl⟩,⟨_,rfl⟩⟩ (.cons ⟨rfl,⟨_,rfl⟩,⟨_,rfl⟩⟩ (.cons ⟨rfl,⟨_,rfl⟩,⟨_,rfl⟩⟩ (.cons ⟨rfl,⟨_,rfl⟩,⟨_,rfl⟩⟩ (.cons ⟨rfl,⟨_,rfl⟩,⟨_,rfl⟩⟩ (.nil))))))))),by trivial⟩,Vr,Vs,Vt,wJ,Mv,Vu,Vv,QT,Mw,QU,QV,Vx,Vy,JB,Vz,VA,VB,Cz,wK,dE,JC,gG,CA,dq,CB,h_,CC,dr,FX,nJ,JD,rn,Mx,vH,CD,k7,Ms,ao,⟨Mt,(Cy 0 (by decide)).e.at_,(Cy 0 (by decide)).e.fn,k_Shelf⟩,pS,tZ,wL,e0,om,by simp,e1,lH,by simp,by simp,by simp,fun s v=>B4 s [v] rfl⟩⟩
