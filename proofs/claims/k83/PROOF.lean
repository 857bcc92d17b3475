import PyProof.Rows.All
import Wide.All
import OpenK.AllK
import Wide.FinOn
import Lean
import PyProof.EqAt
import PyProof.EqKinds
import PyProof.TupleCall
import PyProof.NsDelKeeps
import KE.KIsBytes
import PyProof.Rows.SetFrom
import KE.KDictOf
import PyProof.AttrMissSeq
import PyProof.WalksMore
import PyProof.ZipIter
import PyProof.StrBlock2
import PyProof.StrBlockI
import PyProof.Rows.StrJoin2
import PyProof.Rows.CountFlat
import PyProof.Rows.Range3
import PyProof.SumWalkG
import PyProof.Rows.ListMulArg
import PyProof.FactsAll.tuple
import PyProof.EnumFor
import PyProof.EnumMake
import KE.KDictLaws
import KE.KDictSum
import KE.KRevIter
import PyProof.Rows.SortStr
import PyProof.Rows.SortWalk
import PyProof.AutoListH
import PyProof.StrLawsReplace
import PyProof.Rows.SortShellK
import KE.KLam
import KE.KSortKey
import KE.KNestM
import PyProof.EnumStmt
import PyProof.ListMulRoad
import PySem.Challenge.RW_pageturns_k83_whole_back_again
set_option compiler.extract_closed false
set_option hygiene false in
local macro_rules|`(tactic|obtain $p:rcasesPatMed)=>`(tactic|(rintro _ _ _ _ _ _ _ S R Z hr ($p:rcasesPatMed);subst e))
local macro_rules|`(tactic| trivial)=>`(tactic| decide +kernel)
set_option Elab.async false
set_option linter.all false
set_option maxRecDepth 100000
set_option genInjectivity false
set_option genSizeOfSpec false
namespace Tactic
theorem qQQ(h:True:=by rfl):True:=h
def qQJ:Lean.Syntax:=qQQ._auto_1
theorem qQX(h:True:=by decide):True:=h
def qQZ:Lean.Syntax:=qQX._auto_1
theorem qQK(h:True:=by intro _;rfl):True:=h
def qQ0:Lean.Syntax:=qQK._auto_1
theorem qQ1(h:True:=by with_unfolding_all rfl):True:=h
def qQ2:Lean.Syntax:=qQ1._auto_1
theorem qQ3(h:True:=by exact⟨rfl,rfl,rfl,rfl⟩):True:=h
def qQ4:Lean.Syntax:=qQ3._auto_1
theorem qQ5(h:True:=by first|exact .inl rfl|exact .inr rfl|assumption):True:=h
def qQ6:Lean.Syntax:=qQ5._auto_1
theorem qQ7(h:True:=by first|exact .inl rfl|exact .inr rfl):True:=h
def qQ8:Lean.Syntax:=qQ7._auto_1
theorem qQ9(h:True:=by intro _ _ _ _ _;exact{Or.inl rfl,rfl}):True:=h
def qJQ:Lean.Syntax:=qQ9._auto_1
theorem qJJ(h:True:=by first|decide|omega):True:=h
def qJX:Lean.Syntax:=qJJ._auto_1
theorem qJZ(h:True:=by first|exact Or.inl rfl|exact Or.inr rfl):True:=h
def qJK:Lean.Syntax:=qJZ._auto_1
theorem qJ0(h:True:=by intro _ _ _ _ _;rfl):True:=h
def qJ1:Lean.Syntax:=qJ0._auto_1
theorem qJ2(h:True:=by trivial):True:=h
def qJ3:Lean.Syntax:=qJ2._auto_1
local macro_rules|`({$a:term})=>`(⟨$a⟩)|`({$a:term,$b:term,*})=>`(⟨$a,$b,*⟩)
local macro_rules|`(!$t)=>do{let mut t:=t;let mut n:=1;for _ in [0:20] do{if let `(!$u):=t then{t:=u;n:=n+1}};let xs←(match t with|`(⟨$x,*⟩)=>pure x.getElems|`({$x:term,$y:term,*})=>pure (#[x]++y.getElems)|_=>Lean.Macro.throwUnsupported);let mut a:=xs;for _ in [0:n] do{a:=#[←`(_),←`(rfl)]++a};`(⟨$a,*⟩)}
open PySem.W (instObj methodObj hideAll hideAll_get of_hideAll Frag lookIn plainGet hasDictIn findIn handedIn plainGet_of isFn plainOver takerIn makesIn emptyDict specialIn keepIn mroIn kitOne kia_one kitx_list fnOf codeIn excIn callWith_K methodCall_KW envX kla_fn codeHdIn tabObj codeHd_of_K nsIn mg_of)
theorem za:type_of%@List.length_map:=@List.length_map
theorem zb:type_of%@PySem.Heap.get?_push_of_some:=@PySem.Heap.get?_push_of_some
theorem zc:type_of%@PySem.wpAny_bind:=@PySem.wpAny_bind
theorem zd:type_of%@Bool.false_ne_true:=@Bool.false_ne_true
theorem ze:type_of%@List.getElem?_eq_some_iff:=@List.getElem?_eq_some_iff
theorem zf:type_of%@List.getElem?_eq_getElem:=@List.getElem?_eq_getElem
theorem zg:type_of%@List.mem_map:=@List.mem_map
theorem zh:type_of%@List.mem_cons:=@List.mem_cons
theorem zi:type_of%@List.mem_cons_of_mem:=@List.mem_cons_of_mem
theorem zj:type_of%@PySem.Heap.get?_push_size:=@PySem.Heap.get?_push_size
theorem zk:type_of%@List.getElem?_map:=@List.getElem?_map
theorem zm:type_of%@Nat.lt_of_lt_of_le:=@Nat.lt_of_lt_of_le
theorem zo:type_of%@List.mem_cons_self:=@List.mem_cons_self
theorem zp:type_of%@List.size_toArray:=@List.size_toArray
theorem zq:type_of%@decide_eq_false:=@decide_eq_false
theorem zr:type_of%@Nat.le_refl:=@Nat.le_refl
theorem zt:type_of%@List.length_append:=@List.length_append
theorem zu:type_of%@decide_eq_true:=@decide_eq_true
theorem zw:type_of%@PySem.Heap.lt_size:=@PySem.Heap.lt_size
theorem zx:type_of%@List.map_map:=@List.map_map
theorem zy:type_of%@List.mem_of_getElem?:=@List.mem_of_getElem?
theorem zA:type_of%@PySem.wpAny_pure:=@PySem.wpAny_pure
theorem zB:type_of%@Nat.ne_of_lt:=@Nat.ne_of_lt
theorem zC:type_of%@of_decide_eq_true:=@of_decide_eq_true
theorem zD:type_of%@List.mem_append_right:=@List.mem_append_right
theorem zE:type_of%@List.mem_singleton:=@List.mem_singleton
theorem zG:type_of%@List.map_append:=@List.map_append
theorem zH:type_of%@List.getD_eq_getElem?_getD:=@List.getD_eq_getElem?_getD
theorem zI:type_of%@List.map_cons:=@List.map_cons
theorem zJ:type_of%@Int.emod_lt_of_pos:=@Int.emod_lt_of_pos
theorem zK:type_of%@Nat.le_trans:=@Nat.le_trans
theorem zL:type_of%@Int.emod_nonneg:=@Int.emod_nonneg
theorem zM:type_of%@List.not_mem_nil:=@List.not_mem_nil
theorem zN:type_of%@PySem.F.plainAttrs_list:=@PySem.F.plainAttrs_list
theorem zO:type_of%@Bool.and_eq_true:=@Bool.and_eq_true
theorem zP:type_of%@List.mem_append:=@List.mem_append
theorem zQ:type_of%@List.length_cons:=@List.length_cons
theorem zR:type_of%@Option.some.inj:=@Option.some.inj
theorem zS:type_of%@List.mem_range:=@List.mem_range
theorem zT:type_of%@Nat.zero_le:=@Nat.zero_le
theorem zU:type_of%@List.map_congr_left:=@List.map_congr_left
theorem zV:type_of%@PySem.F.slot_list_append:=@PySem.F.slot_list_append
theorem zW:type_of%@PySem.F.type_list_append:=@PySem.F.type_list_append
theorem zX:type_of%@Bool.false_and:=@Bool.false_and
theorem zY:type_of%@decide_eq_true_eq:=@decide_eq_true_eq
theorem zZ:type_of%@List.all_eq_true:=@List.all_eq_true
theorem z0:type_of%@List.find?_cons:=@List.find?_cons
theorem ya:type_of%@PySem.Heap.size_push:=@PySem.Heap.size_push
theorem yb:type_of%@Bool.true_and:=@Bool.true_and
theorem yc:type_of%@List.lookup_cons:=@List.lookup_cons
theorem yd:type_of%@of_decide_eq_false:=@of_decide_eq_false
theorem ye:type_of%@PySem.sizeLine_eq:=@PySem.sizeLine_eq
theorem yf:type_of%@PySem.wpAny_field:=@PySem.wpAny_field
theorem yg:type_of%@List.length_filter_le:=@List.length_filter_le
theorem yh:type_of%@PySem.mem_of_lookup:=@PySem.mem_of_lookup
theorem yi:type_of%@decide_eq_false_iff_not:=@decide_eq_false_iff_not
theorem yj:type_of%@List.mem_append_left:=@List.mem_append_left
theorem yk:type_of%@List.mem_filter:=@List.mem_filter
theorem ym:type_of%@List.length_take:=@List.length_take
theorem yn:type_of%@Nat.ne_of_gt:=@Nat.ne_of_gt
theorem yo:type_of%@List.nodup_cons:=@List.nodup_cons
theorem yp:type_of%@List.getElem?_of_mem:=@List.getElem?_of_mem
theorem yq:type_of%@PySem.Heap.get?_update_other:=@PySem.Heap.get?_update_other
theorem yr:type_of%@Array.length_toList:=@Array.length_toList
theorem yt:type_of%@List.filter_sublist:=@List.filter_sublist
theorem yu:type_of%@PySem.wpAny_truthy_bool:=@PySem.wpAny_truthy_bool
theorem yw:type_of%@Nat.le_of_lt:=@Nat.le_of_lt
theorem yx:type_of%@PySem.Heap.get?_update_self:=@PySem.Heap.get?_update_self
theorem yy:type_of%@PySem.F.slot_dict_get:=@PySem.F.slot_dict_get
theorem yz:type_of%@PySem.Obj.data_mapFields:=@PySem.Obj.data_mapFields
theorem yA:type_of%@Nat.lt_irrefl:=@Nat.lt_irrefl
theorem yB:type_of%@PySem.Heap.SameBut.update:=@PySem.Heap.SameBut.update
theorem yC:type_of%@List.length_reverse:=@List.length_reverse
theorem yD:type_of%@Bool.eq_iff_iff:=@Bool.eq_iff_iff
theorem yE:type_of%@PySem.Calls.spliced_cons:=@PySem.Calls.spliced_cons
theorem yF:type_of%@PySem.wpAny_mono:=@PySem.wpAny_mono
theorem yG:type_of%@PySem.wpAny_newObj_type:=@PySem.wpAny_newObj_type
theorem yH:type_of%@PySem.Paired.length:=@PySem.Paired.length
theorem yI:type_of%@PySem.wpAny_holding:=@PySem.wpAny_holding
theorem yJ:type_of%@List.length_drop:=@List.length_drop
theorem yK:type_of%@List.take_length:=@List.take_length
theorem yL:type_of%@PySem.wpAny_call_entry:=@PySem.wpAny_call_entry
theorem yM:type_of%@decide_eq_decide:=@decide_eq_decide
theorem yN:type_of%@Sum.inr.inj:=@Sum.inr.inj
theorem yO:type_of%@List.foldl_cons:=@List.foldl_cons
theorem yP:type_of%@PySem.codeAny_builtin:=@PySem.codeAny_builtin
theorem yQ:type_of%@List.any_cons:=@List.any_cons
theorem yR:type_of%@PySem.wpAny_setField:=@PySem.wpAny_setField
theorem yS:type_of%@Nat.le_succ:=@Nat.le_succ
theorem yT:type_of%@PySem.codeAny_mono:=@PySem.codeAny_mono
theorem yU:type_of%@Bool.false_or:=@Bool.false_or
theorem yV:type_of%@PySem.wpAny_of_eq:=@PySem.wpAny_of_eq
namespace L2
open PySem PySem.Spec PyProof.Rows
abbrev Key:=Sum Int Str
def keyIs:Key->Value->Bool|.inl k,v=>Value.isInt k v|.inr x,v=>Value.isStrOf x v
def Xy(w:World):Key->Int|.inl k=>hashInt k|.inr x=>hashStr w x
theorem bB:∀{k:Key}{v:Value},keyIs k v=true->(∃i t,k=Sum.inl i/\v=Value.int i t)\/(∃x t,k=Sum.inr x/\v=Value.str x t)|.inl i,v,h=>(by obtain⟨t,e⟩:=Value.isInt_shape (k:=i) (v:=v) h;exact .inl ⟨i,t,rfl,e⟩)|.inr x,v,h=>by obtain⟨t,e⟩:=Value.isStrOf_shape (x:=x) (v:=v) h;exact .inr ⟨x,t,rfl,e⟩
theorem Fc(i:Int)(t:Tok):keyIs (.inl i) (.int i t)=true:=by simp[keyIs,Value.isInt]
theorem Fd(x:Str)(t:Tok):keyIs (.inr x) (.str x t)=true:=by simp[keyIs,Value.isStrOf]
theorem OC(a b:Int):decide ((Sum.inl a:Key)=Sum.inl b)=(a==b):=by by_cases e:a=b;subst e;simp;have h:¬(Sum.inl a:Key)=Sum.inl b:=λq=>e<|Sum.inl.inj q;rw[zq h];exact(beq_eq_false_iff_ne.mpr e).symm
theorem OD(a b:Str):decide ((Sum.inr a:Key)=Sum.inr b)=decide (a=b):=by by_cases e:a=b;subst e;simp;have h:¬(Sum.inr a:Key)=Sum.inr b:=λq=>e<|yN q;rw[zq h,zq e]
theorem OE(a:Int)(b:Str):decide ((Sum.inl a:Key)=Sum.inr b)=false:=zq λq=>nomatch q
theorem OF(a:Str)(b:Int):decide ((Sum.inr a:Key)=Sum.inl b)=false:=zq λq=>nomatch q
def aH(prog:Program)(w:World):PySem.KeyKind prog w Key where
 is:=keyIs
 hash:=Xy w
 inj:=λv a b ha hb=>by
  rcases bB ha with⟨i,t,rfl,rfl⟩|⟨x,t,rfl,rfl⟩
  ·rcases bB hb with⟨j,u,rfl,e⟩|⟨y,u,rfl,e⟩
   ·injection e with e1 _;rw[e1]
   ·exact nomatch e
  ·rcases bB hb with⟨j,u,rfl,e⟩|⟨y,u,rfl,e⟩
   ·exact nomatch e
   ·injection e with e1 _;rw[e1]
 byValue:=λk v h=>by
  rcases bB h with⟨i,t,rfl,rfl⟩|⟨x,t,rfl,rfl⟩<;>rfl
 pyHash:=λhv h=>by
  rcases bB hv with⟨i,t,rfl,rfl⟩|⟨x,t,rfl,rfl⟩
  ·exact wpAny_pyHash_int h
  ·exact wpAny_pyHash_str h
 eqBool:=λhu hv h=>by
  rcases bB hu with⟨i,t,rfl,rfl⟩|⟨x,t,rfl,rfl⟩
  ·rcases bB hv with⟨j,u,rfl,rfl⟩|⟨y,u,rfl,rfl⟩
   ·rw[OC]at h;exact wpAny_eqBool_int h
   ·rw[OE]at h;exact SeqAt.EqAt.int_str i t y u _ _ _ _ h
  ·rcases bB hv with⟨j,u,rfl,rfl⟩|⟨y,u,rfl,rfl⟩
   ·rw[OF]at h;exact SeqAt.EqAt.str_int x t j u _ _ _ _ h
   ·rw[OD]at h;exact wpAny_eqBool_str h
 «strs»:=λk x t v h=>by
  rcases bB h with⟨i,u,rfl,e⟩|⟨y,u,rfl,e⟩
  ·exact nomatch e
  ·injection e with e1 _
   subst e1
   cases v<;>rfl
theorem xY(prog:Program)(w:World)(i:Int)(t:Tok):(aH prog w).is (.inl i) (.int i t)=true:=Fc i t
theorem jy(prog:Program)(w:World)(x:Str)(t:Tok):(aH prog w).is (.inr x) (.str x t)=true:=Fd x t
set_option genInjectivity true in
set_option genSizeOfSpec true in
inductive V where
 |av|bl (b:Bool)|int (i:Int)|str (x:Str)|DR (b:Array UInt8)|OG (b:UInt64)|ref (a:Addr)|ty (n:String)
 deriving DecidableEq
def RelV:V->Value->Prop|.av,u=>u=Value.none|.bl b,u=>u=Value.bool b|.int i,u=>∃t,u=Value.int i t|.str x,u=>∃t,u=Value.str x t|.DR b,u=>∃t,u=Value.bytes b t|.OG b,u=>∃t,u=Value.float b t|.ref a,u=>u=Value.ref a|.ty n,u=>u=Value.type n
abbrev Vals:List V->List Value->Prop:=Paired RelV
theorem Vals.length{xs:List V}{us:List Value}(r:Vals xs us):xs.length=us.length:=yH r
theorem Vals.get:∀{xs:List V}{us:List Value}{i:Nat}{x:V},Vals xs us->xs[i]?=some x->∃u,us[i]?=some u/\RelV x u|_,_,_,_,.nil,e=>by simp at e|_,_,0,_,.cons r _,e=>by simp at e;subst e;exact{_,rfl,r}|_,_,i+1,x,.cons _ t,e=>by obtain⟨u,h1,h2⟩:=Vals.get (i:=i) (x:=x) t (by simpa using e);exact{u,by simpa using h1,h2}
theorem Vals.set(r:RelV x u):∀{xs:List V}{us:List Value}(i:Nat),Vals xs us->Vals (xs.set i x) (us.set i u)|_,_,_,.nil=>.nil|_,_,0,.cons _ t=>.cons r t|_,_,i+1,.cons q t=>.cons q<|Vals.set r i t
theorem Vals.append:∀{xs ys:List V}{us ws:List Value},Vals xs us->Vals ys ws->Vals (xs++ys) (us++ws)|_,_,_,_,.nil,s=>s|_,_,_,_,.cons r t,s=>.cons r<|Vals.append t s
theorem Vals.take:∀{xs:List V}{us:List Value}(n:Nat),Vals xs us->Vals (xs.take n) (us.take n)|_,_,0,_=>.nil|_,_,_+1,.nil=>.nil|_,_,n+1,.cons r t=>.cons r<|Vals.take n t
theorem Vals.drop:∀{xs:List V}{us:List Value}(n:Nat),Vals xs us->Vals (xs.drop n) (us.drop n)|_,_,0,r=>r|_,_,_+1,.nil=>.nil|_,_,n+1,.cons _ t=>Vals.drop n t
def gu:Option V->Option Value->Prop|some v,some u=>RelV v u|none,none=>True|_,_=>False
def KV{κ:Type} : List (κ×V)->List (κ×Value)->Prop:=Paired λ(p:κ×V)(q:κ×Value)=>p.1=q.1/\RelV p.2 q.2
def kV:Key->V|.inl i=>.int i|.inr x=>.str x
set_option genInjectivity true in
set_option genSizeOfSpec true in
inductive HO where
  |lst (xs:List V)
  |tup (xs:List V)
  |dK (kvs:List<|Key×V)|dT (kvs:List<|List Key×V)
  |set (S:Int->Bool) (n:Nat)
  |ins (C dx:Addr) (fs:List<|Str×V)
  |own (x:Addr)
  |xd (fs:List<|Str×V)
  |met (f x:Addr)
  |Wt (lo hi:Int)
  |lQ (o:Obj) (u:HO)
  |qO (ps:Array Value)
  |ext (φ:Heap->Prop)
abbrev Hp:=Addr->Option HO
noncomputable def upd(H:Hp)(a:Addr)(o:HO):Hp:=λb=>if b=a then some o else H b
theorem aF{H:Hp}{a:Addr}{o:HO} : upd H a o a=some o:=by unfold upd;rw[if_pos rfl]
theorem aw{H:Hp}{a b:Addr}{o:HO}(h:b≠a):upd H a o b=H b:=by unfold upd;rw[if_neg h]
theorem aC{H:Hp}{a b:Addr}{o:HO}(h:H a=some o)(h':H b=none):a≠b:=by intro e;subst e;rw[h]at h';cases h'
def jz(h:Heap)(a:Addr)(items:Array Value):Prop:=∃o,h.get? a=some o/\o.cls=.type "tuple"/\o.dict=none/\∃n,o.data=.seq items n
theorem jz.tup(x:jz h a items):IsTup h a items:=by obtain⟨o,e,c,_,n,d⟩:=x;exact⟨o,e,c,n,d⟩
theorem jz.lt(x:jz h a items):a<h.objs.size:=x.tup.lt
theorem jz.new(h:Heap)(items:Array Value):jz (h.push {cls:=.type "tuple",data:=.seq items}) h.objs.size items:={_,zj _ rfl,rfl,rfl,_,rfl}
section
variable(P:Program)(w:World)
def br(H:Hp)(h:Heap)(a:Addr):HO->Prop|.lst xs=>xs.length<=sizeLine/\∃(ay:List Value) (n:Nat),Vals xs ay/\h.get? a=some {cls:=.type "list",data:=.seq ay.toArray n}|.tup xs=>xs.length<=sizeLine/\∃ay:List Value,Vals xs ay/\jz h a ay.toArray|.dK kvs=>kvs.length<=sizeLine/\(a==sysModules)=false/\∃vs,KV kvs vs/\h.DictOf (aH P w) a vs|.dT _=>False|.set S n=>h.SetOf (intKind P w) a S n|.ins C dx fs=>H dx=some (.own a)/\fs.length<=1000/\dx≠a/\h.get? a=some (instObj C dx)/\∃mA,h.Ns1 dx mA/\(∀f,gu (fs.lookup f)<|mA f)/\PySem.Within mA (fs.map (·.1))|.own _=>∃o,h.get? a=some o|.xd fs=>∃mA,h.Ns1 a mA/\∀f,gu (fs.lookup f) (mA f)|.Wt lo hi=>∃t u v,h.get? a=some {cls:=.type "range",data:=.fields #[.int lo t,.int hi u,.int 1 v]}|.lQ o u=>h.get? a=some o/\br H h a u|.qO ps=>h.get? a=some {cls:=.none,data:=.fields ps}|.met f x=>h.get? a=some (methodObj (.ref f)<|.ref x)|.ext φ=>φ h/\(∃o,h.get? a=some o)/\∀h1 h2:Heap,φ h1->(∀o,h1.get? a=some o->h2.get? a=some o)->φ h2
def lR(H:Hp)(h:Heap):Prop:=∀a o,H a=some o->br P w H h a o
end
section
variable{P:Program}{w:World}{H H':Hp}{h h':Heap}{a:Addr}{o:HO}
theorem br.lt(x:br P w H h a o):a<h.objs.size:=by cases o with|lst xs=>(obtain⟨_,_,_,_,e⟩:=x;exact zw e)|tup xs=>(obtain⟨_,_,_,p⟩:=x;exact p.lt)|dK kvs=>(obtain⟨_,_,_,_,o,_,_,e,_⟩:=x;exact zw e)|dT kvs=>exact False.elim x|set S n=>(obtain⟨o,_,_,_,e,_⟩:=x;exact zw e)|ins C dx fs=>(obtain⟨_,_,_,e,_⟩:=x;exact zw e)|own y=>(obtain⟨_,e⟩:=x;exact zw e)|xd fs=>(obtain⟨_,⟨_,_,_,e,_⟩,_⟩:=x;exact zw e)|Wt lo hi=>(obtain⟨_,_,_,e⟩:=x;exact zw e)|lQ ob u=>(obtain⟨e,_⟩:=x;exact zw e)|qO ps=>exact zw (show h.get? a=some _ from x)|met f y=>exact zw (show h.get? a=some _ from x)|ext φ=>obtain⟨_,⟨_,e⟩,_⟩:=x;exact zw e
theorem br.qx(x:br P w H h a o)(k:∀b u,(b=a\/H b=some (.own a))->h.get? b=some u->h'.get? b=some u) (ho:∀b,H b=some (.own a)->H' b=some (.own a)) (ht:∀b xs,H b=some (.tup xs)->H' b=some (.tup xs)):br P w H' h' a o:=by induction o with|lst xs=>(obtain⟨z,ay,n,r,e⟩:=x;exact{z,ay,n,r,k _ _ (.inl rfl) e})|tup xs=>(obtain⟨z,ay,r,ob,e,c⟩:=x;exact{z,ay,r,ob,k _ _ (.inl rfl) e,c})|dK kvs=>(obtain⟨z,y,vs,r,ob,es,ep,e,c⟩:=x;exact{z,y,vs,r,ob,es,ep,k _ _ (.inl rfl) e,c})|dT kvs=>exact False.elim x|set S n=>(obtain⟨ob,es,ep,t,e,c⟩:=x;exact{ob,es,ep,t,k _ _ (.inl rfl) e,c})|ins C dx fs=>(obtain⟨d,z,ne,e,mA,⟨od,es,ep,e2,c⟩,r⟩:=x;exact{ho _ d,z,ne,k _ _ (.inl rfl) e,mA,{od,es,ep,k _ _ (.inr d) e2,c},r})|own y=>(obtain⟨ob,e⟩:=x;exact{ob,k _ _ (.inl rfl) e})|xd fs=>(obtain⟨mA,⟨od,es,ep,e,c⟩,r⟩:=x;exact{mA,{od,es,ep,k _ _ (.inl rfl) e,c},r})|Wt lo hi=>(obtain⟨t,u,v,e⟩:=x;exact{t,u,v,k _ _ (.inl rfl) e})|lQ ob u ih=>(obtain⟨e,q⟩:=x;exact{k _ _ (.inl rfl) e,ih q})|qO ps=>have e:h.get? a=some {cls:=.none,data:=.fields ps}:=x;show h'.get? a=some {cls:=.none,data:=.fields ps};exact k a _ (.inl rfl) e|met f y=>have e:h.get? a=some (methodObj (.ref f)<|.ref y):=x;show h'.get? a=some (methodObj (.ref f)<|.ref y);exact k a _ (.inl rfl) e|ext φ=>obtain⟨p,⟨o,e⟩,st⟩:=x;exact{st _ _ p λo q=>k _ _ (.inl rfl) q,{o,k _ _ (.inl rfl) e},st}
theorem lR.lt(x:lR P w H h)(e:H a=some o):a<h.objs.size:=(x a o e).lt
theorem lR.fresh(x:lR P w H h)(e:h.objs.size<=a):H a=none:=by cases q:H a with|none=>rfl|some u=>exact absurd (zm (x.lt q) e)<|yA _
theorem lR.kept(x:lR P w H h)(k:∀b u,h.get? b=some u->h'.get? b=some u):lR P w H h':=λa o e=>(x a o e).qx (λb u _ q=>k b u q) (λ_ q=>q) λ_ _ q=>q
theorem lR.laid(x:lR P w H h)(k:∀b u,h.get? b=some u->h'.get? b=some u)(hp:h.objs.size<=a)(new:br P w (upd H a o) h' a o):lR P w (upd H a o) h':=λb u e=>by have hn:=x.fresh hp;by_cases hb:b=a;subst hb;rw[aF]at e;cases e;exact new;rw[aw hb]at e;exact(x b u e).qx (λc v _ q=>k c v q) (λc q=>by rw[aw<|aC q hn];exact q) λc xs q=>by rw[aw<|aC q hn];exact q
end
def Rd(H:Hp)(a:Addr)(u:HO):Prop:=H a=some u\/∃o,H a=some (.lQ o u)
theorem Rd.of(h:H a=some u):Rd H a u:=.inl h
theorem Rd.ok{P:Program}{w:World}{H:Hp}{h:Heap}{a:Addr}{u:HO}(r:Rd H a u)(x:lR P w H h):br P w H h a u:=by rcases r with r|⟨o,r⟩;exact x a u r;obtain⟨_,q⟩:=x a _ r;exact q
def Sw:Option HO->Prop|some (.lst _)=>True|some (.dK _)=>True|some (.dT _)=>True|some (.set _ _)=>True|some (.ins _ _ _)=>True|some (.ext _)=>True|_=>False
section
variable{P:Program}{w:World}{H:Hp}{h h':Heap}{x e:Addr}{o':HO}
theorem lR.write(ok:lR P w H h)(mu:Sw<|H x)(he:e=x\/H e=some (.own x))(k:∀b u,b≠e->h.get? b=some u->h'.get? b=some u)(RH:∃u,h'.get? e=some u) (new:br P w (upd H x o') h' x o'):lR P w (upd H x o') h':=λb u q=>by
 have Sy:∀c y,H c=some (.own y)->c≠x:=λc y r z=>by subst z;rw[r]at mu;exact mu
 have Xz:∀c xs,H c=some (.tup xs)->c≠x:=λc xs r z=>by subst z;rw[r]at mu;exact mu
 by_cases hb:b=x;subst hb;rw[aF]at q;cases q;exact new;rw[aw hb]at q;by_cases Fe:b=e;have q':H b=some (.own x):=by rcases he with z|z;exact absurd (Fe.trans z) hb;rw[Fe];exact z
 rw[q]at q';cases q';obtain⟨v,hv⟩:=RH;exact{v,by rw[Fe];exact hv};refine(ok b u q).qx (λc v hc r=>k c v ?_ r) (λc r=>by rw[aw<|Sy c b r];exact r) λc xs r=>by rw[aw<|Xz c xs r];exact r
 rcases hc with rfl|hc;exact Fe;rintro rfl;rcases he with z|z;exact Sy c b hc z;rw[hc]at z;cases z;exact hb rfl
end
structure Un(fs ex:List Addr)(H H':Hp)(h h':Heap):Prop where
 keep:∀b o,h.get? b=some o->H b=none->b∉fs->b∉ex->h'.get? b=some o
 slot:∀b o,h.get? b=some o->H b=none->b∈fs->b∉ex->∃sl,h'.get? b=some {o with slots:=sl}
 free:∀b o,h.get? b=some o->H b=none->b∉ex->H' b=none
 there:∀b o,h.get? b=some o->b∉ex->∃o',h'.get? b=some o'
 mG:∀b xs,H b=some (.tup xs)->H' b=some (.tup xs)
 lS:∀b o u,H b=some (.lQ o u)->H' b=some (.lQ o u)
 lT:∀b ps,H b=some (.qO ps)->∃more,H' b=some (.qO<|ps++more)
section
variable{fs ex:List Addr}{H H1:Hp}{h h1 h':Heap}{a x e:Addr}{o:HO}
theorem Un.any(u:Un fs ex H H1 h h1){b:Addr}{ob:Obj}(q:h.get? b=some ob)(n:H b=none)(hx:b∉ex):∃sl,h1.get? b=some {ob with slots:=sl}:=by by_cases hb:b∈fs;exact u.slot b ob q n hb hx;exact{ob.slots,u.keep b ob q n hb hx}
theorem Un.kept(k:∀b u,h.get? b=some u->h'.get? b=some u):Un fs ex H H h h':={λb ob q _ _ _=>k b ob q,λb ob q _ _ _=>{ob.slots,k b ob q},λ_ _ _ n _=>n,λb ob q _=>{ob,k b ob q},λ_ _ q=>q,λ_ _ _ q=>q,λ_ ps q=>{#[],by rw[q];simp}}
theorem Un.refl:Un fs ex H H h h:=Un.kept λ_ _ q=>q
theorem Un.laid(k:∀b u,h.get? b=some u->h'.get? b=some u)(hp:h.objs.size<=a)(hn:H a=none):Un fs ex H (upd H a o) h h' where
 keep:=λb u q _ _ _=>k b u q
 slot:=λb u q _ _ _=>{u.slots,k b u q}
 free:=λb u q n _=>by rw[aw<|zB<|zm (zw q) hp];exact n
 there:=λb u q _=>{u,k b u q}
 mG:=λb xs q=>by rw[aw<|aC q hn];exact q
 lS:=λb u xs q=>by rw[aw<|aC q hn];exact q
 lT:=λb ps q=>{#[],by rw[aw<|aC q hn,q];simp}
theorem Un.write(mu:Sw<|H x)(he:e=x\/H e=some (.own x))(k:∀b u,b≠e->h.get? b=some u->h'.get? b=some u)(RH:∃u,h'.get? e=some u):Un fs ex H (upd H x o) h h':=by
 have hx:∀b,H b=none->b≠x:=λb n z=>by subst z;rw[n]at mu;exact mu
 have hb:∀b,H b=none->b≠e:=λb n z=>by subst z;rcases he with r|r;exact hx b n r;rw[n]at r;cases r
 have hm:∀b u,H b=some u->¬Sw (some u)->b≠x:=λb u q nm z=>by subst z;rw[q]at mu;exact nm mu
 refine⟨λb u q n _ _=>k b u (hb b n) q,λb u q n _ _=>{u.slots,k b u (hb b n) q},λb u q n _=>by rw[aw<|hx b n];exact n,λb u q _=>?_,
  λb xs q=>by rw[aw<|hm b _ q λz=>z];exact q,λb u xs q=>by rw[aw<|hm b _ q λz=>z];exact q,λb ps q=>{#[],by rw[aw<|hm b _ q λz=>z,q];simp}⟩
 by_cases Fe:b=e;subst Fe;exact RH;exact{u,k b u Fe q}
end
noncomputable def Wu(h:Heap)(H:Hp):List Addr:=(List.range h.objs.size).filter λa=>(H a).isSome
noncomputable def uf(h:Heap)(H:Hp):Heap:=hideAll h<|Wu h H
theorem Ff(h:Heap)(H:Hp):(uf h H).objs.size=h.objs.size:=PySem.W.hideAll_size _ _
theorem Hh(e:h.get? b=some o)(n:H b=none):(uf h H).get? b=some o:=hideAll_get _ e λhm=>by have q:(H b).isSome=true:=(yk.mp hm).2;rw[n]at q;simp at q
theorem KG(e:(uf h H).get? b=some o):h.get? b=some o/\H b=none:=by have e':h.get? b=some o:=of_hideAll (Wu h H) e;refine{e',?_};cases q:H b with|none=>rfl|some x=>have hm:b∈Wu h H:=yk.mpr {zS.mpr<|zw e',by simp[q]};have z:(uf h H).get? b=none:=PySem.W.hideAll_none (Wu h H) hm;rw[z]at e;cases e
noncomputable def KH(g h:Heap)(L:Addr):List (Addr×Obj):=(List.range h.objs.size).filterMap λa=>if a=L\/(g.get? a).isSome=true then none else (h.get? a).map λo=>(a,o)
noncomputable def rest(g h:Heap)(L d:Addr):List (Addr×Obj):=(KH g h L).filter λp=>decide<|p.1≠d
structure Mod(K:Frag)(mg:Str->Option Value)(base:Heap):Prop where
 RK:K.In base
 glob:base.Ns mainGlobals mg
 blt:∃mb,base.Ns builtinsNs mb/\∀x:Str,x≠"__name__"->mb x=bootBuiltins x
 nolimit:base.NoLimit
structure Cx where
 prog:Program
 w:World
 K:Frag
 mg:Str->Option Value
 base:Heap
 A:Around
 N:List Str
 dF:Shared
 vX:Hp
 env:Env
 outer:List Env
 stack:List Env
 ex:List Addr
 fn:Str->Bool
 calm:Bool
 pn:List (Addr×Obj)
 xe:Value->Shared->Prop
def og(l:List Env):List Addr:=l.filterMap (·.frame)
noncomputable abbrev Cx.fs(X:Cx):List Addr:=og X.outer
def OH(sc:Scope)(x:Str):Prop:=sc.names.lookup x=some .local\/sc.names.lookup x=some .cell\/sc.names.lookup x=some .free
def Loc(sc:Scope)(x:Str):Prop:=sc.names.lookup x=some .local\/sc.names.lookup x=some .cell
def Look(env:Env)(h:Heap)(m:Str->Option Value)(x:Str)(u:Value):Prop:=(env.kindOf x=some .local/\m x=some u)\/((env.kindOf x=some .cell\/env.kindOf x=some .free)/\∃c,env.cells.lookup x=some c/\h.IsCell c (some u))
structure Cx.Ok(X:Cx):Prop where
 mod:Mod X.K X.mg X.base
 kind:X.env.scope.kind=.function
 glob:X.env.globals=mainGlobals
 blt:X.env.builtins=builtinsNs
 above:X.dF.heap.objs.size<=X.env.locals
 inj:∀x y c,X.env.cells.lookup x=some c->X.env.cells.lookup y=some c->x=y
 has:∀x,(X.env.kindOf x=some .cell\/X.env.kindOf x=some .free)->∃c,X.env.cells.lookup x=some c
 XB:∀x c,X.fn x=true->X.env.cells.lookup x=some c->X.dF.heap.objs.size<=c
 hd:X.calm=true->X.A.handled=none
 frames:X.A.frames=some X.stack
 stk:X.stack=X.outer\/(X.stack=X.env::X.outer/\X.env.frame=some X.env.locals)
 exf:∀b∈X.ex,b≠X.env.locals/\∀x c,X.env.cells.lookup x=some c->c≠b
 bs:∀b o,X.base.get? b=some o->X.dF.heap.get? b=some o/\X.vX b=none
 KJ:X.base.objs.size<=X.dF.heap.objs.size
 OI:∀b o,X.base.get? b=some o->b∉X.ex
 Sz:∀b∈X.ex,b∉X.fs
 qy:X.dF.heap.FunFrames X.base X.outer
 OJ:∀b∈X.fs,X.vX b=none
structure Inv(X:Cx)(pins:List (Addr×Obj))(σ:List (Option V))(H:Hp)(s:Shared):Prop where
 ok:X.Ok
 os:s.os=X.dF.os
 bare:AllBare s.gens
 base:Un X.fs X.ex X.vX H X.dF.heap s.heap
 loc:∃m,s.heap.Ns X.env.locals m/\∀(i:Nat)(x:Str)(v:V),X.N[i]?=some x->σ[i]?=some (some v)->OH X.env.scope x->∃u,RelV v u/\Look X.env s.heap m x u
 cell:∀x c,X.env.cells.lookup x=some c->∃v,s.heap.IsCell c v
 free:H X.env.locals=none
 gw:∀x c,X.env.cells.lookup x=some c->H c=none
 pin:∀p∈X.pn++pins,s.heap.get? p.1=some p.2/\H p.1=none/\p.1≠X.env.locals/\p.1∉X.fs/\∀v,p.2.data≠.cell v
 aL:lR X.prog X.w H s.heap
 len:σ.length=X.N.length
section
variable{X:Cx}{pins:List (Addr×Obj)}{σ:List (Option V)}{H H':Hp}{s:Shared}{h':Heap}
theorem Cx.Ok.Fh(ok:X.Ok)(e:X.base.get? b=some o):b∉X.fs:=λhb=>by have:=(ok.qy.mem hb).1;rw[e]at this;cases this
theorem Inv.bs(I:Inv X pins σ H s):∀b o,X.base.get? b=some o->s.heap.get? b=some o/\H b=none:=λb o e=>{I.base.keep b o (I.ok.bs b o e).1 (I.ok.bs b o e).2 (I.ok.Fh e)<|I.ok.OI b o e,I.base.free b o (I.ok.bs b o e).1 (I.ok.bs b o e).2<|I.ok.OI b o e}
theorem Inv.bk(I:Inv X pins σ H s):∀b o,X.base.get? b=some o->s.heap.get? b=some o:=λb o e=>(I.bs b o e).1
theorem Inv.mod(I:Inv X pins σ H s):Mod X.K X.mg X.base:=I.ok.mod
theorem Inv.pN(I:Inv X pins σ H s):X.K.In s.heap:=I.ok.mod.RK.keeps I.bk
theorem Inv.nolimit(I:Inv X pins σ H s):s.heap.NoLimit:=I.ok.mod.nolimit.keeps I.bk
theorem Inv.fr(I:Inv X pins σ H s):∃m,Fr X.base X.env.locals s.heap m :=
 let ⟨m,hn,_⟩:=I.loc
 ⟨m,hn,I.bk,zK I.ok.KJ I.ok.above⟩
theorem Inv.lt(I:Inv X pins σ H s):X.env.locals<s.heap.objs.size:=by obtain⟨_,hn,_⟩:=I.loc;exact hn.lt
theorem Inv.sz(I:Inv X pins σ H s):X.dF.heap.objs.size<=s.heap.objs.size:=zK I.ok.above<|yw I.lt
theorem Inv.SE(I:Inv X pins σ H s)(h:s.heap.objs.size<=a):a∉X.fs:=λhb=>by obtain⟨_,o,ho,_⟩:=I.ok.qy.mem hb;exact absurd (zm (zw ho)<|zK I.sz h)<|yA _
theorem Inv.OL(I:Inv X pins σ H s):∀x c,X.env.cells.lookup x=some c->c≠X.env.locals:=λx c e z=>by obtain⟨v,o,ho,hd⟩:=I.cell x c e;obtain⟨m,⟨o',es,ep,BA,rG,_⟩,_⟩:=I.loc;rw[z,BA]at ho;cases ho;rw[rG]at hd;cases hd
theorem Inv.qy(I:Inv X pins σ H s):s.heap.FunFrames X.base X.outer:=by
 have all:∀(l:List Env),(∀b∈og l,b∈X.fs)->X.dF.heap.FunFrames X.base l->s.heap.FunFrames X.base l:=by intro l;induction l with|nil=>intro _ _;trivial|cons env r ih=>intro hs hl;obtain⟨hk,⟨L,o,hf,hn,ho,hd⟩,hr⟩:=hl;have hL:L∈X.fs:=hs L (by unfold og;rw[List.filterMap_cons,hf];exact zo);obtain⟨sl,e⟩:=I.base.slot L o ho (I.ok.OJ L hL) hL λz=>I.ok.Sz L z hL;exact{hk,{L,_,hf,hn,e,hd},ih (λb hb=>hs b<|by unfold og;rw[List.filterMap_cons,hf];exact zi _ hb) hr}
 exact all X.outer (λ_ hb=>hb) I.ok.qy
theorem Inv.stack(I:Inv X pins σ H s):s.heap.FunFrames X.base X.stack:=by rcases I.ok.stk with e|⟨e,hf⟩;rw[e];exact I.qy;rw[e];obtain⟨m,hn,_⟩:=I.loc;refine .cons (by rw[I.ok.kind];decide) hf hn ?_ I.qy;exact Heap.get?_none_of_le<|zK I.ok.KJ I.ok.above
theorem Inv.oh(I:Inv X pins σ H s):∀b∈og X.stack,b∈X.env.locals::X.fs:=λb hb=>by rcases I.ok.stk with e|⟨e,hf⟩;rw[e]at hb;exact zi _ hb;rw[e]at hb;unfold og at hb;rw[List.filterMap_cons,hf]at hb;exact hb
theorem Inv.qP(I:Inv X pins σ H s):∀b∈og X.stack,H b=none:=λb hb=>by rcases zh.mp (I.oh b hb) with e|hb;rw[e];exact I.free;obtain⟨_,o,ho,_⟩:=I.ok.qy.mem hb;exact I.base.free b o ho (I.ok.OJ b hb) λz=>I.ok.Sz b z hb
theorem Inv.step{g':Array GenState}{t':Nat}{d':Drawn}{ch:List Addr}(I:Inv X pins σ H s) (Ki:∀b∈ch,(b∈X.ex\/X.dF.heap.objs.size<=b)/\b≠X.env.locals/\(∀x c,X.env.cells.lookup x=some c->c≠b)/\∀p∈X.pn++pins,p.1≠b) (keep:∀b o,b≠X.env.locals->b∉X.fs->b∉ch->s.heap.get? b=some o->H b=none->h'.get? b=some o) (slot:∀b o,b≠X.env.locals->b∈X.fs->b∉ch->s.heap.get? b=some o->H b=none->∃sl,h'.get? b=some {o with slots:=sl}) (free:∀b o,b∉ch->s.heap.get? b=some o->H b=none->H' b=none) (there:∀b o,b∉ch->s.heap.get? b=some o->∃o',h'.get? b=some o') (mG:∀b xs,H b=some (.tup xs)->H' b=some (.tup xs)) (lS:∀b o u,H b=some (.lQ o u)->H' b=some (.lQ o u)) (lT:∀b ps,H b=some (.qO ps)->∃more,H' b=some (.qO<|ps++more)) (ns:∀m,s.heap.Ns X.env.locals m->h'.Ns X.env.locals m) (aL:lR X.prog X.w H' h') (hg:AllBare g'): Inv X pins σ H' {s with heap:=h',gens:=g',drawn:=d',toks:=t'}:=by
 have neL:∀b o,X.dF.heap.get? b=some o->b≠X.env.locals:=λb o e=>zB<|zm (zw e) I.ok.above;have Wv:∀b o,X.dF.heap.get? b=some o->b∉X.ex->b∉ch:=λb o e hx hb=>by rcases (Ki b hb).1 with z|z;exact hx z;exact absurd (zm (zw e) z)<|yA _
 have cellK:∀x c,X.env.cells.lookup x=some c->∀v,s.heap.IsCell c v->h'.IsCell c v:=by rintro x c e v ⟨o,ho,hd⟩;have SF:c∉ch:=λz=>(Ki c z).2.2.1 x c e rfl;by_cases hc:c∈X.fs;obtain⟨sl,q⟩:=slot c o (I.OL x c e) hc SF ho<|I.gw x c e;exact{_,q,hd};exact{o,keep c o (I.OL x c e) hc SF ho<|I.gw x c e,hd}
 refine{I.ok,I.os,hg,{λb o e n hb hx=>?_,λb o e n hb hx=>?_,λb o e n hx=>?_,λb o e hx=>?_,λb xs e=>mG b xs<|I.base.mG b xs e,λb o xs e=>lS b o xs<|I.base.lS b o xs e,λb ps e=>?_},?_,λx c e=>?_,?_,λx c e=>?_,λp hp=>?_,aL,I.len};exact keep b o (neL b o e) hb (Wv b o e hx) (I.base.keep b o e n hb hx)<|I.base.free b o e n hx;obtain⟨sl,e1⟩:=I.base.slot b o e n hb hx;obtain⟨sl',e2⟩:=slot b _ (neL b o e) hb (Wv b o e hx) e1<|I.base.free b o e n hx;exact⟨sl',e2⟩;obtain⟨o',e1⟩:=I.base.there b o e hx;exact free b o' (Wv b o e hx) e1<|I.base.free b o e n hx;obtain⟨o',e1⟩:=I.base.there b o e hx;exact there b o' (Wv b o e hx) e1;obtain⟨m1,e1⟩:=I.base.lT b ps e;obtain⟨m2,e2⟩:=lT b _ e1;exact{m1++m2,by rw[e2,Array.append_assoc]};obtain⟨m,hn,hl⟩:=I.loc;refine{m,ns m hn,λi x v e1 e2 e3=>?_};obtain⟨u,r,l⟩:=hl i x v e1 e2 e3;refine{u,r,?_};rcases l with l|⟨k,c,e,z⟩;exact .inl l;exact .inr {k,c,e,cellK x c e _ z};obtain⟨v,z⟩:=I.cell x c e;exact{v,cellK x c e v z};obtain⟨m,⟨o,_,_,ho,_⟩,_⟩:=I.loc;exact free _ o (λz=>(Ki _ z).2.1 rfl) ho I.free;obtain⟨v,o,ho,hd⟩:=I.cell x c e;exact free c o (λz=>(Ki c z).2.2.1 x c e rfl) ho<|I.gw x c e;obtain⟨e,n,ne,nf,d⟩:=I.pin p hp;have SF:p.1∉ch:=λz=>(Ki p.1 z).2.2.2 p hp rfl;exact{keep p.1 p.2 ne nf SF e n,free p.1 p.2 SF e n,ne,nf,d}
theorem Inv.un{t':Nat}(I:Inv X pins σ H s)(u:Un X.fs [] H H' s.heap h')(aL:lR X.prog X.w H' h'):Inv X pins σ H' {s with heap:=h',toks:=t'}:=by obtain⟨m,⟨o,es,ep,ho,r⟩,_⟩:=id I.loc;obtain⟨sl,hL⟩:=u.any ho I.free (by simp);exact I.step (g':=s.gens) (d':=s.drawn) (ch:=[]) (λ_ z=>nomatch z) (λb o _ hb _ e n=>u.keep b o e n hb<|by simp) (λb o _ hb _ e n=>u.slot b o e n hb<|by simp) (λb o _ e n=>u.free b o e n<|by simp) (λb o _ e=>u.there b o e<|by simp) u.mG u.lS u.lT (λm' hm=>by obtain⟨o',Ww,XD,BA,r'⟩:=hm;rw[ho]at BA;cases BA;exact{_,Ww,XD,hL,r'}) aL I.bare
theorem Inv.call{g':Array GenState}{t':Nat}{d':Drawn}{ch:List Addr}(I:Inv X pins σ H s)(u:Un (og X.stack) ch H H' s.heap h')(aL:lR X.prog X.w H' h')(hg:AllBare g') (Ki:∀b∈ch,(b∈X.ex\/X.dF.heap.objs.size<=b)/\b≠X.env.locals/\(∀x c,X.env.cells.lookup x=some c->c≠b)/\∀p∈X.pn++pins,p.1≠b): Inv X pins σ H' {s with heap:=h',gens:=g',drawn:=d',toks:=t'}:=by obtain⟨m,⟨o,es,ep,ho,r⟩,_⟩:=id I.loc;obtain⟨sl,hL⟩:=u.any ho I.free λz=>(Ki _ z).2.1 rfl;exact I.step (ch:=ch) Ki (λb o hL hb hc e n=>u.keep b o e n (λz=>(zh.mp<|I.oh b z).elim hL hb) hc) (λb o _ _ hc e n=>u.any e n hc) (λb o hc e n=>u.free b o e n hc) (λb o hc e=>u.there b o e hc) u.mG u.lS u.lT (λm' hm=>by obtain⟨o',Ww,XD,BA,r'⟩:=hm;rw[ho]at BA;cases BA;exact{_,Ww,XD,hL,r'}) aL hg
theorem Inv.turned{t':Nat}{it:Addr}(I:Inv X pins σ H s)(k:∀b o,b≠it->s.heap.get? b=some o->h'.get? b=some o)(hn:H it=none)(hL:it≠X.env.locals) (h1:it∈X.ex\/X.dF.heap.objs.size<=it) (h2:∀x c,X.env.cells.lookup x=some c->c≠it) (h3:∀p∈X.pn++pins,p.1≠it):Inv X pins σ H {s with heap:=h',toks:=t'}:=by
 have OM:∀b u,H b=some u->b≠it:=λb u e z=>by rw[z,hn]at e;cases e
 refine I.step (g':=s.gens) (d':=s.drawn) (ch:=[it]) (λb hb=>?_) (λb o _ _ hc e _=>k b o (λz=>hc<|by simp[z]) e) (λb o _ _ hc e _=>{o.slots,k b o (λz=>hc<|by simp[z]) e}) (λ_ _ _ _ n=>n) (λb o hc e=>{o,k b o (λz=>hc<|by simp[z]) e}) (λ_ _ e=>e) (λ_ _ _ e=>e) (λb ps e=>{#[],by rw[e];simp}) (λm hm=>?_) (λb u e=>?_) I.bare;have e:b=it:=by simpa using hb
 subst e;exact⟨h1,hL,h2,h3⟩;obtain⟨o,es,ep,ho,r⟩:=hm;exact{o,es,ep,k _ o (Ne.symm hL) ho,r};refine(I.aL b u e).qx (λc v hc q=>k c v ?_ q) (λ_ q=>q) λ_ _ q=>q;rcases hc with z|z;rw[z];exact OM b u e;exact OM c _ z
theorem Inv.tok(I:Inv X pins σ H s)(t:Nat):Inv X pins σ H {s with toks:=t}:=I.un (h':=s.heap) (t':=t) Un.refl I.aL
theorem Inv.kept(I:Inv X pins σ H s)(k:∀b u,s.heap.get? b=some u->h'.get? b=some u):Inv X pins σ H {s with heap:=h',toks:=t'}:=I.un (Un.kept k)<|I.aL.kept k
theorem Inv.laid{a:Addr}{o:HO}{t':Nat}(I:Inv X pins σ H s)(k:∀b u,s.heap.get? b=some u->h'.get? b=some u)(hp:s.heap.objs.size<=a)(new:br X.prog X.w (upd H a o) h' a o): Inv X pins σ (upd H a o) {s with heap:=h',toks:=t'}:=I.un (Un.laid k hp<|I.aL.fresh hp)<|I.aL.laid k hp new
theorem Inv.write(I:Inv X pins σ H s)(mu:Sw<|H x)(he:e=x\/H e=some (.own x))(k:∀b u,b≠e->s.heap.get? b=some u->h'.get? b=some u)(RH:∃u,h'.get? e=some u) (new:br X.prog X.w (upd H x o) h' x o):Inv X pins σ (upd H x o) {s with heap:=h',toks:=t'}:=I.un (Un.write mu he k RH)<|I.aL.write mu he k RH new
theorem Inv.weak(I:Inv X pins σ H s)(hl:aI.length=σ.length)(w:∀(i:Nat) v,aI[i]?=some (some v)->σ[i]?=some (some v)):Inv X pins aI H s:={I.ok,I.os,I.bare,I.base,by obtain⟨m,hn,hl'⟩:=I.loc;exact{m,hn,λi x v e1 e2 e3=>hl' i x v e1 (w i v e2) e3},I.cell,I.free,I.gw,I.pin,I.aL,hl.trans I.len}
theorem Inv.mH(I:Inv X pins σ H s)(h:∀p∈pins',s.heap.get? p.1=some p.2/\H p.1=none/\p.1≠X.env.locals/\p.1∉X.fs/\∀v,p.2.data≠.cell v):Inv X pins' σ H s:={I.ok,I.os,I.bare,I.base,I.loc,I.cell,I.free,I.gw,λp hp=>(zP.mp hp).elim (λz=>I.pin p<|yj _ z)<|h p,I.aL,I.len}
theorem xZ{N:List Str}(hN:N.Nodup){i j:Nat}{x:Str}(a:N[i]?=some x)(b:N[j]?=some x):i=j:=by obtain⟨h1,e1⟩:=ze.mp a;obtain⟨h2,e2⟩:=ze.mp b;exact(List.getElem_inj hN).mp<|e1.trans e2.symm
theorem uR{M:Model}{A:Around}{E:Value->Shared->Prop}{i:Nat}{x:Str}{v:V}{u:Value}{Q:Unit->Shared->Prop}(I:Inv X pins σ H s)(hN:X.N.Nodup)(hi:X.N[i]?=some x)(hx:Loc X.env.scope x)(r:RelV v u) (h:∀s',Inv X pins (σ.set i<|some v) H s'->(∃a,Heap.SameBut a s.heap s'.heap/\(a=X.env.locals\/X.env.cells.lookup x=some a))->Q () s') (hf:autoParam (X.fn x=true\/X.env.scope.names.lookup x=some .local) qQ6):wpAny M A (storeName X.env x u) Q E s:=by
 obtain⟨m,hn,hl⟩:=id I.loc;have XE:(X.env.scope.kind==.class||(X.env.scope.kind==.module&&X.env.locals != X.env.globals))=false:=by rw[I.ok.kind];rfl
 have SG:i<σ.length:=by rw[I.len];exact(ze.mp hi).1
 have OL:=I.OL;have tracked:∀{a:Addr}{h':Heap},(∃o,s.heap.get? a=some o/\H a=none)->Heap.SameBut a s.heap h'->lR X.prog X.w H h':=λ{a h'} ha hs b ob e=>by obtain⟨_,_,Ng⟩:=ha;refine(I.aL b ob e).qx (λc w' hc q=>(hs.2 c ?_).trans q) (λ_ q=>q) λ_ _ q=>q;rintro rfl;rcases hc with rfl|hc;rw[Ng]at e;cases e;rw[Ng]at hc;cases hc
 rcases hx with hk|hk;refine wpAny_storeName_local hk hn (λh' Nh hs=>?_) XE;obtain⟨oL,_,_,G6,_⟩:=id hn;refine h _ {I.ok,I.os,I.bare,{λb o e n hb hx=>?_,λb o e n hb hx=>?_,I.base.free,λb o e hx=>?_,I.base.mG,I.base.lS,I.base.lT},{_,Nh,λj y v' e1 e2 e3=>?_},λy c e=>?_,I.free,I.gw,λp hp=>?_,tracked ⟨oL,G6,I.free⟩ hs,by simpa using I.len} {_,hs,.inl rfl};exact(hs.2 b<|zB<|zm (zw e) I.ok.above).trans<|I.base.keep b o e n hb hx;obtain⟨sl,e1⟩:=I.base.slot b o e n hb hx;exact{sl,(hs.2 b<|zB<|zm (zw e) I.ok.above).trans e1};obtain⟨o',e1⟩:=I.base.there b o e hx;exact{o',(hs.2 b<|zB<|zm (zw e) I.ok.above).trans e1};by_cases hj:j=i;subst hj;rw[hi]at e1;cases e1;rw[List.getElem?_set_self SG]at e2;cases e2;exact{u,r,.inl {hk,by simp}};rw[List.getElem?_set_ne<|Ne.symm hj]at e2;obtain⟨u',r',q⟩:=hl j y v' e1 e2 e3;refine{u',r',?_};rcases q with⟨k,e⟩|⟨k,c,e,z⟩;refine .inl {k,?_};have:y≠x:=λe=>hj<|xZ hN e1<|e ▸ hi;simp[this,e];exact .inr {k,c,e,z.sameBut hs<|OL y c e};obtain⟨w',z⟩:=I.cell y c e;exact{w',z.sameBut hs<|OL y c e};obtain⟨e,n,ne,nf,d⟩:=I.pin p hp;exact{(hs.2 p.1 ne).trans e,n,ne,nf,d};have XF:X.fn x=true:=by rcases hf with z|z;exact z;rw[z]at hk;cases hk
 obtain⟨c,hc⟩:=I.ok.has x<|.inl hk;obtain⟨w',z⟩:=I.cell x c hc;refine wpAny_storeName_cell I.ok.kind hk hc z λh' KL hs=>?_;obtain⟨oc,Wx,XG⟩:=id z;refine h {s with heap:=h'} {I.ok,I.os,I.bare,{λb o e n hb hx=>?_,λb o e n hb hx=>?_,I.base.free,λb o e hx=>?_,I.base.mG,I.base.lS,I.base.lT},{m,hn.sameBut hs<|Ne.symm<|OL x c hc,λj y v' e1 e2 e3=>?_},λy c' e=>?_,I.free,I.gw,λp hp=>?_,tracked {oc,Wx,I.gw x c hc} hs,by simpa using I.len} {c,hs,.inr hc};exact(hs.2 b<|zB<|zm (zw e)<|I.ok.XB x c XF hc).trans<|I.base.keep b o e n hb hx;obtain⟨sl,e1⟩:=I.base.slot b o e n hb hx;exact{sl,(hs.2 b<|zB<|zm (zw e)<|I.ok.XB x c XF hc).trans e1};obtain⟨o',e1⟩:=I.base.there b o e hx;exact{o',(hs.2 b<|zB<|zm (zw e)<|I.ok.XB x c XF hc).trans e1};by_cases hj:j=i;subst hj;rw[hi]at e1;cases e1;rw[List.getElem?_set_self SG]at e2;cases e2;exact{u,r,.inr {.inl hk,c,hc,KL}};rw[List.getElem?_set_ne<|Ne.symm hj]at e2;obtain⟨u',r',q⟩:=hl j y v' e1 e2 e3;refine{u',r',?_};rcases q with q|⟨k,c',e,z'⟩;exact .inl q;refine .inr {k,c',e,z'.sameBut hs ?_};rintro rfl;exact hj<|xZ hN e1<|I.ok.inj _ _ _ e hc ▸ hi;by_cases SH:c'=c;subst SH;exact{_,KL};obtain⟨w2,z2⟩:=I.cell y c' e;exact{w2,z2.sameBut hs SH};obtain⟨e,n,ne,nf,d⟩:=I.pin p hp;refine{(hs.2 p.1 ?_).trans e,n,ne,nf,d};intro q;rw[q,Wx]at e;have q':oc=p.2:=zR e;exact d w'<|by rw[<-q'];exact XG
theorem rH(I:Inv X pins σ H s)(hN:X.N.Nodup)(hi:X.N[i]?=some x)(hx:Loc X.env.scope x)(r:RelV v u) (h:∀s',Inv X pins (σ.set i<|some v) H s'->Q () s') (hf:autoParam (X.fn x=true\/X.env.scope.names.lookup x=some .local) qQ6):wpAny M A (storeName X.env x u) Q E s:=uR I hN hi hx r (λs' I' _=>h s' I') hf
theorem Inv.SI(I:Inv X pins σ H s)(ho:s'.os=s.os)(u:Un (og X.stack) ch H H' s.heap s'.heap)(aL:lR X.prog X.w H' s'.heap)(hg:AllBare s'.gens) (Ki:∀b∈ch,(b∈X.ex\/X.dF.heap.objs.size<=b)/\b≠X.env.locals/\(∀x c,X.env.cells.lookup x=some c->c≠b)/\∀p∈X.pn++pins,p.1≠b):Inv X pins σ H' s':=by obtain⟨h',g',d',t',o'⟩:=s';have e:o'=s.os:=ho;subst e;exact I.call (g':=g') (t':=t') (d':=d') u aL hg Ki
end
abbrev XK:=Value->Option Addr->Hp->Prop
abbrev St:=List<|Option V
abbrev VK:=V->Hp->Prop
abbrev TE:=St->Hp->VK->Prop
abbrev TT:=St->Hp->(Bool->Hp->Prop)->Prop
abbrev TA:=St->Hp->(List V->Hp->Prop)->Prop
structure Ends where
 nx:St->Hp->Prop
 rt:VK
 bk:St->Hp->Prop:=λ_ _=>False
 ct:St->Hp->Prop:=λ_ _=>False
abbrev TS:=Ends->St->Hp->Prop
def EP(X:Cx)(pins:List<|Addr×Obj)(σ:St)(Q:VK)(u:Value)(s':Shared):Prop:=∃v H',Inv X pins σ H' s'/\RelV v u/\Q v H'
def TP(X:Cx)(pins:List<|Addr×Obj)(σ:St)(Q:Bool->Hp->Prop)(b:Bool)(s':Shared):Prop:=∃H',Inv X pins σ H' s'/\Q b H'
def AP(X:Cx)(pins:List<|Addr×Obj)(σ:St)(Q:List V->Hp->Prop)(us:List Value)(s':Shared):Prop:=∃vs H',Inv X pins σ H' s'/\Vals vs us/\Q vs H'
def SP(X:Cx)(pins:List<|Addr×Obj)(D:Ends)(f:Flow)(s':Shared):Prop:=match f with|.next=>∃aI H',Inv X pins aI H' s'/\D.nx aI H'|.brk=>∃aI H',Inv X pins aI H' s'/\D.bk aI H'|.cont=>∃aI H',Inv X pins aI H' s'/\D.ct aI H'|.ret u=>∃v aI H',Inv X pins aI H' s'/\RelV v u/\D.rt v H'
def PE(X:Cx)(e:Expr)(t:TE):Prop:=∀(pins:List (Addr×Obj))(s:Shared)(σ:St)(H:Hp)(Q:VK),Inv X pins σ H s->t σ H Q->wpAny (model X.prog X.w) X.A (eval e X.env) (EP X pins σ Q) X.xe s
def PT(X:Cx)(e:Expr)(t:TT):Prop:=∀(pins:List (Addr×Obj))(s:Shared)(σ:St)(H:Hp)(Q:Bool->Hp->Prop),Inv X pins σ H s->t σ H Q->wpAny (model X.prog X.w) X.A (isTrue e X.env<|eval e X.env) (TP X pins σ Q) X.xe s
def PW(X:Cx)(e:Expr)(t:TT):Prop:=∀(whole:Sem Value)(pins:List (Addr×Obj))(s:Shared)(σ:St)(H:Hp)(Q:Bool->Hp->Prop),Inv X pins σ H s->t σ H Q->wpAny (model X.prog X.w) X.A (isTrue e X.env whole) (TP X pins σ Q) X.xe s
theorem PW.pt{t:TT}(h:PW X e t):PT X e t:=h _
def PA(X:Cx)(es:List Expr)(t:TA):Prop:=∀(pos:Pos)(pins:List (Addr×Obj))(s:Shared)(σ:St)(H:Hp)(Q:List V->Hp->Prop),Inv X pins σ H s->t σ H Q->wpAny (model X.prog X.w) X.A (spliced<|backTo pos<|starEach es X.env) (AP X pins σ Q) X.xe s
def PS(X:Cx)(st:Stmt)(t:TS):Prop:=∀(pins:List (Addr×Obj))(s:Shared)(σ:St)(H:Hp)(D:Ends),Inv X pins σ H s->t D σ H->wpAny (model X.prog X.w) X.A (exec st X.env) (SP X pins D) X.xe s
def DU(X:Cx)(st:List Stmt)(t:TS):Prop:=∀(pins:List (Addr×Obj))(s:Shared)(σ:St)(H:Hp)(D:Ends),Inv X pins σ H s->t D σ H->wpAny (model X.prog X.w) X.A (execs st X.env) (SP X pins D) X.xe s
theorem bt{t:Sem α}(h:wpAny M A t Q E s)(hQ:∀a s,Q a s->Q' a s):wpAny M A t Q' E s:=yF h hQ λ_ _ x=>x
section
variable{X:Cx}
def XH(i:Nat):TE:=λσ H Q=>∃v,σ[i]?=some (some v)/\Q v H
def tC(v:V):TE:=λ_ H Q=>Q v H
theorem ON(hN:X.N[i]?=some x)(hv:OH X.env.scope x)(hd:autoParam ((x==("__debug__": Str))=false) qQZ)(t9:autoParam ((x==("__classdict__": Str))=false) qQZ):PE X (.Name x pos) (XH i):=by intro pins s σ H Q I h;obtain⟨v,e,h⟩:=h;obtain⟨m,hn,hl⟩:=I.loc;obtain⟨u,r,l⟩:=hl i x v hN e hv;have fin:EP X pins σ Q u s:=⟨v,H,I,r,h⟩;rcases l with⟨hk,hm⟩|⟨hk,c,hc,DV⟩;exact wpAny_Name (wpAny_loadName_local I.ok.kind hk hn hm fin) hd;rcases hk with hk|hk;exact wpAny_Name (wpAny_loadName_cell I.ok.kind hk hc DV fin) hd;exact wpAny_Name (wpAny_loadName_free I.ok.kind hk hc DV fin t9) hd
theorem OO:PE X (.Constant (.int i) j pos) (tC<|.int i):=λ_ _ _ H _ I h=>wpAny_Constant_int {.int i,H,I.tok _,{_,rfl},h}
theorem Ni:PE X (.Constant (.bool b) j pos) (tC<|.bl b):=λ_ _ _ H _ I h=>Constant_bool {.bl b,H,I,rfl,h}
theorem OP:PE X (.Constant .none j pos) (tC .av):=λ_ _ _ H _ I h=>Constant_none {.av,H,I,rfl,h}
theorem OQ:PE X (.Constant (.str x) j pos) (tC<|.str x):=λ_ _ _ H _ I h=>Calls.Constant_str {.str x,H,I.tok _,{_,rfl},h}
def Gl(X:Cx)(x:Str):Prop:=X.env.kindOf x=some .globalImplicit
theorem qQ(I:Inv X pins σ H s)(hg:Gl X x)(hm:X.mg x=some u)(h:Q u s) (hd:autoParam ((x==("__debug__": Str))=false) qQZ):wpAny (model X.prog X.w) X.A (eval (.Name x pos) X.env) Q E s:=Calls.Name_function_global I.ok.kind hg (Calls.loadGlobal_global (by rw[I.ok.glob];exact I.mod.glob.keeps I.bk) hm h) hd
theorem gN(I:Inv X pins σ H s)(hg:Gl X x)(hm:X.mg x=none)(hv:bootBuiltins x=some u)(h:Q u s) (hn:autoParam (x≠"__name__") qQZ) (hd:autoParam ((x==("__debug__": Str))=false) qQZ):wpAny (model X.prog X.w) X.A (eval (.Name x pos) X.env) Q E s:=by obtain⟨mb,h1,h2⟩:=I.mod.blt;exact Calls.Name_function_global I.ok.kind hg (Calls.loadGlobal_builtin (by rw[I.ok.glob];exact I.mod.glob.keeps I.bk) hm (by rw[I.ok.blt];exact h1.keeps I.bk) ((h2 x hn).trans hv) h) hd
theorem DX(hg:Gl X x)(hm:X.mg x=some u)(r:RelV v u)(hd:autoParam ((x==("__debug__": Str))=false) qQZ):PE X (.Name x pos) (tC v):=λ_ _ _ H _ I h=>qQ I hg hm ⟨v,H,I,r,h⟩ hd
theorem KN(hg:Gl X x)(hm:X.mg x=none)(hv:bootBuiltins x=some u)(r:RelV v u)(hn:autoParam (x≠"__name__") qQZ)(hd:autoParam ((x==("__debug__": Str))=false) qQZ):PE X (.Name x pos) (tC v):=λ_ _ _ H _ I h=>gN I hg hm hv ⟨v,H,I,r,h⟩ hn hd
variable{a b:Expr}{ta tb:TE}{pos:Pos}
def tB(t:TE):TT:=λσ H Q=>t σ H λx H1=>∃c,x=.bl c/\Q c H1
theorem OR{t:TE}(h:PE X e t)(he:autoParam (∀whole,isTrue e X.env whole=(do let v <-whole;standAt e.pos;holding [v] (truthy v))) qQ0):PT X e (tB t):=by intro pins s σ H Q I hw;refine isTrue_plain (bt (h pins s σ H _ I hw) λv s1 ⟨x,H1,I1,r1,q1⟩=>?_)<|he _;obtain⟨d,rfl,q⟩:=q1;cases r1;exact yu ⟨H1,I1,q⟩
variable{tA Wy:TT}{rest:List Expr}
def XI(t u:TT):TT:=λσ H Q=>t σ H λc H1=>if c=true then u σ H1 Q else Q false H1
def tOr(t u:TT):TT:=λσ H Q=>t σ H λc H1=>if c=true then Q true H1 else u σ H1 Q
def XJ(t:TT):TT:=λσ H Q=>t σ H λc H1=>Q (!c) H1
theorem pw_and1(ha:PT X a tA):PW X (.BoolOp .And [a] pos) tA:=by intro wh pins s σ H Q I h;refine isTrue_and<|bt (ha pins s σ H Q I h) λc s1 e=>?_;cases c with|true=>exact isTrue_and_nil e|false=>exact e
theorem pw_or1(ha:PT X a tA):PW X (.BoolOp .Or [a] pos) tA:=by intro wh pins s σ H Q I h;refine isTrue_or<|bt (ha pins s σ H Q I h) λc s1 e=>?_;cases c with|false=>exact isTrue_or_nil e|true=>exact e
theorem pw_and(ha:PT X a tA)(hb:PW X (.BoolOp .And (b::rest) pos) Wy):PW X (.BoolOp .And (a::b::rest) pos) (XI tA Wy):=by intro wh pins s σ H Q I h;refine isTrue_and<|bt (ha pins s σ H _ I h) λc s1 ⟨H1,I1,q1⟩=>?_;cases c with|true=>exact hb wh pins s1 σ H1 Q I1 q1|false=>exact⟨H1,I1,q1⟩
theorem pw_or(ha:PT X a tA)(hb:PW X (.BoolOp .Or (b::rest) pos) Wy):PW X (.BoolOp .Or (a::b::rest) pos) (tOr tA Wy):=by intro wh pins s σ H Q I h;refine isTrue_or<|bt (ha pins s σ H _ I h) λc s1 ⟨H1,I1,q1⟩=>?_;cases c with|true=>exact⟨H1,I1,q1⟩|false=>exact hb wh pins s1 σ H1 Q I1 q1
theorem OS(ha:PT X a tA):PT X (.UnaryOp .Not a pos) (XJ tA):=by intro pins s σ H Q I h;exact isTrue_not<|ha pins s σ H (λc H1=>Q (!c) H1) I h
def SJ(ta tb:TE):TE:=λσ H Q=>ta σ H λx H1=>∃c,x=.bl c/\if c=true then tb σ H1 Q else Q (.bl false) H1
def XM(ta tb:TE):TE:=λσ H Q=>ta σ H λx H1=>∃c,x=.bl c/\if c=true then Q (.bl true) H1 else tb σ H1 Q
def SK(ta:TE):TE:=λσ H Q=>ta σ H λx H1=>∃c,x=.bl c/\Q (.bl<|!c) H1
theorem OT{t:TE}(h:PE X a t):PE X (.BoolOp op [a] pos) t:=λpins s σ H Q I hw=>BoolOp_one<|h pins s σ H Q I hw
theorem OU(ha:PE X a ta)(hb:PE X (.BoolOp .And (b::rest) pos) tb):PE X (.BoolOp .And (a::b::rest) pos) (SJ ta tb):=by intro pins s σ H Q I h;refine BoolOp_and<|bt (ha pins s σ H _ I h) λv s1 ⟨x,H1,I1,r1,q1⟩=>?_;obtain⟨c,rfl,q1⟩:=q1;cases r1;refine yu ?_;cases c with|true=>exact hb pins s1 σ H1 Q I1 q1|false=>exact{.bl false,H1,I1,rfl,q1}
theorem SM(ha:PE X a ta)(hb:PE X (.BoolOp .Or (b::rest) pos) tb):PE X (.BoolOp .Or (a::b::rest) pos) (XM ta tb):=by intro pins s σ H Q I h;refine BoolOp_or<|bt (ha pins s σ H _ I h) λv s1 ⟨x,H1,I1,r1,q1⟩=>?_;obtain⟨c,rfl,q1⟩:=q1;cases r1;refine yu ?_;cases c with|false=>exact hb pins s1 σ H1 Q I1 q1|true=>exact{.bl true,H1,I1,rfl,q1}
theorem OV(ha:PE X a ta):PE X (.UnaryOp .Not a pos) (SK ta):=by intro pins s σ H Q I h;refine UnaryOp_<|bt (ha pins s σ H _ I h) λv s1 ⟨x,H1,I1,r1,q1⟩=>?_;obtain⟨c,rfl,q1⟩:=q1;cases r1;exact not_of<|yu {.bl<|!c,H1,I1,rfl,q1}
def tIf(t:TT)(ta tb:TE):TE:=λσ H Q=>t σ H λc H1=>if c=true then ta σ H1 Q else tb σ H1 Q
theorem Hi(hc:PT X c tA)(ha:PE X a ta)(hb:PE X b tb):PE X (.IfExp c a b pos) (tIf tA ta tb):=by intro pins s σ H Q I h;refine wpAny_IfExp<|bt (hc pins s σ H _ I h) λd s1 ⟨H1,I1,q1⟩=>?_;cases d with|true=>exact ha pins s1 σ H1 Q I1 q1|false=>exact hb pins s1 σ H1 Q I1 q1
end
def kz(K:Frag)(H:Hp)(a:Addr)(xs:List V):Prop:=Rd H a (.lst xs)\/∃(o:Obj)(ay:Array Value)(n:Nat),K.lookup a=some o/\o.cls=.type "list"/\o.dict=none/\o.data=.seq ay n/\ay.size<=sizeLine/\Vals xs ay.toList
def jn(K:Frag)(H:Hp)(a:Addr)(xs:List V):Prop:=Rd H a (.tup xs)\/∃(o:Obj)(ay:Array Value)(n:Nat),K.lookup a=some o/\o.cls=.type "tuple"/\o.data=.seq ay n/\ay.size<=sizeLine/\Vals xs ay.toList
noncomputable def XN:Value->Option V|.none=>some .av|.bool b=>some (.bl b)|.int i _=>some (.int i)|.str x _=>some (.str x)|.bytes b _=>some (.DR b)|.float b _=>some (.OG b)|.ref a=>some (.ref a)|.type n=>some (.ty n)|_=>none
theorem RelV.abs(r:RelV x u):XN u=some x:=by cases x with|av=>(cases r;rfl)|bl _=>(cases r;rfl)|int _=>(obtain⟨t,rfl⟩:=r;rfl)|str _=>(obtain⟨t,rfl⟩:=r;rfl)|DR _=>(obtain⟨t,rfl⟩:=r;rfl)|OG _=>(obtain⟨t,rfl⟩:=r;rfl)|ref _=>(cases r;rfl)|ty _=>cases r;rfl
theorem RelV.inj(r:RelV x u)(q:RelV y u):x=y:=zR<|r.abs.symm.trans q.abs
theorem Vals.inj:∀{xs ys:List V}{us:List Value},Vals xs us->Vals ys us->xs=ys|_,_,_,.nil,.nil=>rfl|_,_,_,.cons r t,.cons r' t'=>by rw[r.inj r',Vals.inj t t']
section
variable{X:Cx}{pins:List (Addr×Obj)}{σ:St}{H:Hp}{s:Shared}{a:Addr}{xs ys:List V}
theorem kz.of{K:Frag}(h:H a=some (.lst xs)):kz K H a xs:=.inl<|.inl h
theorem jn.of{K:Frag}(h:H a=some (.tup xs)):jn K H a xs:=.inl<|.inl h
theorem Inv.list(I:Inv X pins σ H s)(h:kz X.K H a xs):∃ay:List Value,Vals xs ay/\PlainL s.heap a ay.toArray/\xs.length<=sizeLine:=by rcases h with h|⟨o,ay,n,hk,hc,hd,hs,hz,r⟩;obtain⟨z,ay,n,r,e⟩:=h.ok I.aL;exact{ay,r,{_,n,e,rfl,rfl,rfl},z};refine{ay.toList,r,{o,n,I.pN a o hk,hc,hd,by simpa using hs},?_};have e:=r.length;simp only[yr]at e;lia
theorem Inv.tuple(I:Inv X pins σ H s)(h:jn X.K H a xs):∃ay:List Value,Vals xs ay/\IsTup s.heap a ay.toArray/\xs.length<=sizeLine:=by rcases h with h|⟨o,ay,n,hk,hc,hs,hz,r⟩;obtain⟨z,ay,r,p⟩:=h.ok I.aL;exact⟨ay,r,p.tup,z⟩;refine{ay.toList,r,{o,I.pN a o hk,hc,n,by simpa using hs},?_};have e:=r.length;simp only[yr]at e;lia
theorem Inv.x5(I:Inv X pins σ H s)(h:kz X.K H a xs)(h':kz X.K H a ys):xs=ys:=by
 obtain⟨ay,r,⟨o,n,e,_,_,d⟩,_⟩:=I.list h;obtain⟨its',r',⟨o',n',e',_,_,d'⟩,_⟩:=I.list h';rw[e]at e';cases e';rw[d]at d';injection d' with d1 _;have:ay=its':=by simpa using congrArg Array.toList d1
 subst this;exact r.inj r'
theorem Inv.oi(I:Inv X pins σ H s)(h:jn X.K H a xs)(h':jn X.K H a ys):xs=ys:=by
 obtain⟨ay,r,⟨o,e,_,n,d⟩,_⟩:=I.tuple h;obtain⟨its',r',⟨o',e',_,n',d'⟩,_⟩:=I.tuple h';rw[e]at e';cases e';rw[d]at d';injection d' with d1 _;have:ay=its':=by simpa using congrArg Array.toList d1
 subst this;exact r.inj r'
end
noncomputable abbrev Cx.acu(X:Cx)(E:Value->Shared->Prop):Cx:={X with xe:=E}
section
variable{X:Cx}{st:Stmt}{rest:List Stmt}{t u:TS}{e:Expr}{te:TE}{pos:Pos}
def SN:TS:=λD σ H=>D.nx σ H
def XO(t u:TS):TS:=λD σ H=>t {D with nx:=u D} σ H
theorem KO:DU X [] SN:=λ_ _ σ H _ I h=>wpAny_execs_nil ⟨σ,H,I,h⟩
theorem Hj(h1:PS X st t)(h2:DU X rest u):DU X (st::rest) (XO t u):=by intro pins s σ H D I h;refine wpAny_execs_cons<|bt (h1 pins s σ H {D with nx:=u D} I h) λf s1 q=>?_;cases f with|next=>(obtain⟨aI,H',I',q⟩:=q;exact h2 pins s1 aI H' D I' q)|ret v=>exact q|brk=>exact q|cont=>exact q
theorem KP(h1:PS X st t):DU X [st] t:=by intro pins s σ H D I h;refine wpAny_execs_cons<|bt (h1 pins s σ H D I h) λf s1 q=>?_;cases f with|next=>exact wpAny_execs_nil q|ret v=>exact q|brk=>exact q|cont=>exact q
theorem Inv.quiet(I:Inv X pins σ H s):interactive X.env=false:=by simp[interactive,I.ok.kind]
def SO(te:TE):TS:=λD σ H=>te σ H λ_ H1=>D.nx σ H1
theorem KQ(he:PE X e te)(hs:autoParam (swapsWith e none pos.line X.env=pure false) qQJ):PS X (.Expr e pos) (SO te):=by intro pins s σ H D I h;exact wpAny_Expr_any (bt (he pins s σ H _ I h) <| by rintro v s1 ⟨x,H1,I1,r1,q1⟩;exact⟨σ,H1,I1,q1⟩) I.quiet hs
def XQ(te:TE):TS:=λD σ H=>te σ H D.rt
theorem OW(he:PE X e te):PS X (.Return (some e) pos) (XQ te):=by intro pins s σ H D I h;exact wpAny_Return_some<|bt (he pins s σ H _ I h) <| by rintro v s1 ⟨x,H1,I1,r1,q1⟩;exact⟨x,σ,H1,I1,r1,q1⟩
def XR(c:TT)(t u:TS):TS:=λD σ H=>c σ H λb H1=>if b=true then t D σ H1 else u D σ H1
theorem SQ(hc:PT X c tc)(ha:DU X a t)(hb:DU X b u):PS X (.If c a b pos) (XR tc t u):=by intro pins s σ H D I h;refine wpAny_If<|bt (hc pins s σ H _ I h) λd s1 ⟨H1,I1,q1⟩=>?_;cases d with|true=>exact ha pins s1 σ H1 D I1 q1|false=>exact hb pins s1 σ H1 D I1 q1
end
abbrev TG:=V->St->Hp->(St->Hp->Prop)->Prop
abbrev Nj:=List V->St->Hp->(St->Hp->Prop)->Prop
def PG(X:Cx)(target:Expr)(t:TG):Prop:=∀(pins:List (Addr×Obj))(s:Shared)(σ:St)(H:Hp)(v:V)(u:Value)(Q:St->Hp->Prop),Inv X pins σ H s->RelV v u->t v σ H Q->wpAny (model X.prog X.w) X.A (assign target X.env u) (λ_ s'=>∃aI H',Inv X pins aI H' s'/\Q aI H') X.xe s
def Nk(X:Cx)(ts:List Expr)(t:Nj):Prop:=∀(pins:List (Addr×Obj))(s:Shared)(σ:St)(H:Hp)(vs:List V)(us:List Value)(Q:St->Hp->Prop),Inv X pins σ H s->Vals vs us->t vs σ H Q->wpAny (model X.prog X.w) X.A (assignInOrder ((assignEach ts X.env).map (·.2)) us) (λ_ s'=>∃aI H',Inv X pins aI H' s'/\Q aI H') X.xe s
abbrev OX:=V->V->V->Hp->(Hp->Prop)->Prop
def SR(X:Cx)(t:OX):Prop:=∀(pins:List (Addr×Obj))(s:Shared)(σ:St)(H:Hp)(o i v:V)(ov iv u:Value)(Q:Hp->Prop),Inv X pins σ H s->RelV o ov->RelV i iv->RelV v u->t o i v H Q->wpAny (model X.prog X.w) X.A (setItem ov iv u) (λ_ s'=>∃H',Inv X pins σ H' s'/\Q H') X.xe s
abbrev XS:=V->V->Hp->VK->Prop
def PIp(X:Cx)(op:Operator)(t:XS):Prop:=∀(pins:List (Addr×Obj))(s:Shared)(σ:St)(H:Hp)(x y:V)(v u:Value)(Q:VK),Inv X pins σ H s->RelV x v->RelV y u->t x y H Q->wpAny (model X.prog X.w) X.A (inplaceOp op v u) (EP X pins σ Q) X.xe s
section
variable{X:Cx}{pos:Pos}
def i9(i:Nat):TG:=λv σ H Q=>Q (σ.set i<|some v) H
theorem qR(hN:X.N.Nodup)(hi:X.N[i]?=some x)(hx:Loc X.env.scope x)(hf:autoParam (X.fn x=true\/X.env.scope.names.lookup x=some .local) qQ6):PG X (.Name x pos) (i9 i):=by intro pins s σ H v u Q I r h;exact wpAny_assign_Name<|rH I hN hi hx r (λs' I'=>{_,H,I',h}) hf
def KR:Nj:=λvs σ H Q=>vs=[]/\Q σ H
def rJ(t:TG)(u:Nj):Nj:=λvs σ H Q=>∃v r,vs=v::r/\t v σ H λaI H'=>u r aI H' Q
theorem DY:Nk X [] KR:=by intro pins s σ H vs us Q I r h;obtain⟨e,h⟩:=h;subst e;cases r;exact assignInOrder_nil ⟨σ,H,I,h⟩
theorem rK{t:TG}(h1:PG X e t)(h2:Nk X es u) (hs:autoParam ((assignEach (e::es) X.env).map (·.2)=assign e X.env::(assignEach es X.env).map (·.2)) qQJ):Nk X (e::es) (rJ t u):=by intro pins s σ H vs us Q I r h;obtain⟨v,vr,e1,h⟩:=h;subst e1;cases r with|cons r rr=>rw[hs];refine assignInOrder_cons<|bt (h1 pins s σ H _ _ _ I r h) λ_ s1 ⟨xS,H1,I1,q1⟩=>?_;exact h2 pins s1 xS H1 _ _ Q I1 rr q1
def KY(K:Frag)(n:Nat)(t:Nj):TG:=λv σ H Q=>∃a xs,v=.ref a/\jn K H a xs/\xs.length=n/\t xs σ H Q
theorem Hk{t:Nj}(hc:X.calm=true)(h:Nk X es t) (hn:autoParam ((assignEach es X.env).length=n) qQJ) (x6:autoParam ((assignEach es X.env).findIdx? (·.1)=none) qQJ):PG X (.Tuple es k pos) (KY X.K n t):=by intro pins s σ H v u Q I r hw;obtain⟨a,xs,e1,hq,hl,hw⟩:=hw;subst e1;cases r;obtain⟨ay,rv,ht,hz⟩:=I.tuple hq;refine assign_Tuple_tuple (I.ok.hd hc) ht (by simp[hn,<-hl,rv.length]) x6 λh' hx=>?_;have I1:Inv X pins σ H {s with heap:=h'}:=I.kept (t':=s.toks) λb o e=>hx b o (zB<|zw e) e;exact h pins _ σ H xs _ Q I1 (by simpa using rv) hw
def XT(to ti:TE)(t:OX):TG:=λv σ H Q=>to σ H λo H1=>ti σ H1 λi H2=>t o i v H2 λH3=>Q σ H3
theorem OY{t:OX}(ho:PE X o to)(hi:PE X i ti)(hs:SR X t)
  (ha:autoParam (∀v,assign (.Subscript o i pos) X.env v=(do
   let ov <-holding [v] (eval o X.env)
   let iv <-holding [v,ov] (eval i X.env)
   standAt pos
   holding [v,ov,iv] (setItem ov iv v)
   release [v,ov,iv] [])) qQ0):PG X (.Subscript o i pos) (XT to ti t):=by
 intro pins s σ H v u Q I r h
 rw[ha]
 refine zc<|yI<|bt (ho pins s σ H _ I h) λov s1 ⟨x,H1,I1,r1,q1⟩=>?_
 refine zc<|yI<|bt (hi pins s1 σ H1 _ I1 q1) λiv s2 ⟨y,H2,I2,r2,q2⟩=>?_
 refine zc<|wpAny_standAt<|zc<|yI<|bt (hs pins s2 σ H2 x y v ov iv u _ I2 r1 r2 r q2) λ_ s3 ⟨H3,I3,q3⟩=>?_
 exact wpAny_release ⟨σ,H3,I3,q3⟩
def OZ(te:TE)(g:TG):TS:=λD σ H=>te σ H λx H1=>g x σ H1 D.nx
theorem Hl(he:PE X e te)(hg:PG X tg g)(hs:autoParam (swapsWithSole [tg] e pos.line X.env=pure false) qQJ)(hw:autoParam (swappedStores [tg] e X.env=pure none) qQJ) (h1:autoParam ((assignEach [tg] X.env).map (·.2)=[assign tg X.env]) qQJ):PS X (.Assign [tg] e pos) (OZ te g):=by intro pins s σ H D I h;refine wpAny_Assign_stores (bt (he pins s σ H _ I h) λv s1 ⟨x,H1,I1,r1,q1⟩=>?_) hs hw;rw[h1];exact bt (hg pins s1 σ H1 x v _ I1 r1 q1) λ_ s2 q=>q
theorem O0(hN:X.N.Nodup)(hi:X.N[i]?=some x)(hx:Loc X.env.scope x)(he:PE X e te)(hs:autoParam (swapsWith e (some<|.Name x pos') pos.line X.env=pure false) qQJ)(hf:autoParam (X.fn x=true\/X.env.scope.names.lookup x=some .local) qQ6): PS X (.Assign [.Name x pos'] e pos) (OZ te<|i9 i):=by intro pins s σ H D I h;refine wpAny_Assign_Name (bt (he pins s σ H _ I h) λv s1 ⟨y,H1,I1,r1,q1⟩=>?_) hs;exact rH I1 hN hi hx r1 (λs2 I2=>{_,H1,I2,q1}) hf
def XU(i:Nat)(te:TE)(ti:XS):TS:=λD σ H=>∃x,σ[i]?=some (some x)/\te σ H λy H1=>ti x y H1 λz H2=>D.nx (σ.set i<|some z) H2
theorem O3(hN:X.N.Nodup)(hi:X.N[i]?=some x)(hx:Loc X.env.scope x)(he:PE X e te)(ho:PIp X op ti)(hf:autoParam (X.fn x=true\/X.env.scope.names.lookup x=some .local) qQ6): PS X (.AugAssign (.Name x pos') op e pos) (XU i te ti):=by
 intro pins s σ H D I h;obtain⟨v,e1,h⟩:=h;obtain⟨m,hn,hl⟩:=I.loc;have vis:OH X.env.scope x:=by rcases hx with k|k;exact .inl k;exact .inr<|.inl k
 obtain⟨u,r,l⟩:=hl i x v hi e1 vis;refine wpAny_AugAssign_Name ?_;have go:wpAny (model X.prog X.w) X.A (eval e X.env) (λw bV=>wpAny (model X.prog X.w) X.A (inplaceOp op u w) (λr BB=>wpAny (model X.prog X.w) X.A (storeName X.env x r) (λ_=>SP X pins D .next) X.xe BB) X.xe bV) X.xe s:=by refine bt (he pins s σ H _ I h) λw s1 ⟨y,H1,I1,r1,q1⟩=>?_;refine bt (ho pins s1 σ H1 v y u w _ I1 r r1 q1) λz s2 ⟨zv,H2,I2,r2,q2⟩=>?_;exact rH I2 hN hi hx r2 (λs3 I3=>{_,H2,I3,q2}) hf
 rcases l with⟨hk,hm⟩|⟨hk,c,hc,DV⟩;exact wpAny_loadName_local I.ok.kind hk hn hm go;rcases hk with hk|hk;exact wpAny_loadName_cell I.ok.kind hk hc DV go;rcases hx with k|k;have:X.env.scope.names.lookup x=some .free:=hk;rw[k]at this;cases this;have:X.env.scope.names.lookup x=some .free:=hk;rw[k]at this;cases this
def ipI(f:Int->Int->Int):XS:=λx y H Q=>∃i j,x=.int i/\y=.int j/\Q (.int<|f i j) H
theorem O4:PIp X .Add (ipI λi j=>i+j):=by intro pins s σ H x y v u Q I r1 r2 h;obtain⟨i,j,e1,e2,q⟩:=h;subst e1;subst e2;obtain⟨t,rfl⟩:=r1;obtain⟨t',rfl⟩:=r2;exact iadd_int {.int _,H,I.tok _,{_,rfl},q}
def O5(c:TT)(tb:TS):TS:=λD σ H=>∃W:Nat->St->Hp->Prop,(∃m,W m σ H)/\∀m σ H,W m σ H->c σ H λb H1=>if b=true then ∃N:St->Hp->Prop,(∀aI H',N aI H'->∃m',m'<m/\W m' aI H')/\tb {D with nx:=N,ct:=N,bk:=D.nx} σ H1 else D.nx σ H1
theorem Hm(hp:PassesOwn (model X.prog X.w) X.A X.env X.xe)(hc:PT X c tc)(hb:DU X body tb):PS X (.While c body [] pos) (O5 tc tb):=by intro pins s σ H D I h;obtain⟨W,⟨m0,w0⟩,turn⟩:=h;refine wpAny_While<|codeAny_whileLoop (λn s'=>∃aI H',Inv X pins aI H' s'/\W n aI H') ?_ m0 ⟨σ,H,I,w0⟩;rintro n s1 ⟨xS,H1,I1,w1⟩;refine wpAny_passesOwn hp<|bt (hc pins s1 xS H1 _ I1<|turn n xS H1 w1) λb s2 ⟨H2,I2,q2⟩=>?_;cases b with|true=>(obtain⟨N,hN,q2⟩:=q2;rw[if_pos rfl];refine wpAny_passesOwn hp<|bt (hb pins s2 xS H2 _ I2 q2) λf s3 q3=>?_;cases f with|next=>(obtain⟨fw,H3,I3,n3⟩:=q3;obtain⟨m',hm,w3⟩:=hN fw H3 n3;exact⟨m',hm,fw,H3,I3,w3⟩)|cont=>(obtain⟨fw,H3,I3,n3⟩:=q3;obtain⟨m',hm,w3⟩:=hN fw H3 n3;exact⟨m',hm,fw,H3,I3,w3⟩)|brk=>exact q3|ret v=>exact q3)|false=>rw[if_neg zd];exact wpAny_execs_nil ⟨xS,H2,I2,q2⟩
end
structure It where
 go:Nat->Hp->Prop
 SS:Nat->Hp->V->Hp->Prop
 stop:Nat->Hp->Prop
def ug(X:Cx)(pins:List<|Addr×Obj)(H:Hp)(b:Addr):Prop:=H b=none/\b≠X.env.locals/\b∉X.fs/\(b∈X.ex\/X.dF.heap.objs.size<=b)/\(∀x c,X.env.cells.lookup x=some c->c≠b)/\∀p∈X.pn++pins,p.1≠b
theorem Inv.qz(I:Inv X pins σ H s)(hb:s.heap.objs.size<=b)(hn:H' b=none):ug X pins H' b:=by refine{hn,yn<|zm I.lt hb,I.SE hb,.inr<|zK I.sz hb,λx c e z=>?_,λp hp z=>?_};obtain⟨v,q⟩:=I.cell x c e;exact absurd (zm q.lt<|by rw[z];exact hb)<|yA _;exact absurd (zm (zw (I.pin p hp).1)<|by rw[z];exact hb)<|yA _
structure Turn(P:Program)(w:World)(K:Frag)(tg:Expr)(J:It)(fp:List Addr)(it:Addr)(tn:Nat->Heap->Prop):Prop where
 mem:it∈fp
 obj:∀i h,tn i h->∀b∈fp,∃o,h.get? b=some o/\∀v,o.data≠.cell v
 keep:∀i h h',tn i h->(∀b∈fp,∀o,h.get? b=some o->h'.get? b=some o)->tn i h'
 item:∀(X:Cx),X.prog=P->X.w=w->X.K=K->X.calm=true->∀(i:Nat)(pins:List (Addr×Obj))(s:Shared)(σ:St)(H:Hp)(E:Value->Shared->Prop),Inv X pins σ H s->(∀b∈fp,ug X pins H b)->tn i s.heap->J.go i H ->
  wpAny (model P w) X.A (pyNext<|.ref it) (λr s1=>∃u,r=some u /\
   wpAny (model P w) X.A (letOwnedTupleGo tg (.ref it) u) (λ_ s2=>∃x H',Inv X pins σ H' s2/\RelV x u/\J.SS i H x H'/\tn (i+1) s2.heap/\∀b∈fp,H' b=none) E s1) E s
 done:∀(X:Cx),X.prog=P->X.w=w->X.K=K->X.calm=true->∀(i:Nat)(pins:List (Addr×Obj))(s:Shared)(σ:St)(H:Hp)(E:Value->Shared->Prop),Inv X pins σ H s->(∀b∈fp,ug X pins H b)->tn i s.heap->J.stop i H ->
  wpAny (model P w) X.A (pyNext<|.ref it) (λr s1=>r=none/\Inv X pins σ H s1) E s
 self:∀(A:Around)(i:Nat)(s:Shared)(Q:Value->Shared->Prop)(E:Value->Shared->Prop),tn i s.heap->Q (.ref it) s->wpAny (model P w) A (pyIter<|.ref it) Q E s
abbrev TI:=St->Hp->(It->Hp->Prop)->Prop
def XW(X:Cx)(pins:List<|Addr×Obj)(σ:St)(tg:Expr)(R:It->Hp->Prop)(Wz:Value)(s2:Shared):Prop:=∃(it:Addr)(fp:List Addr)(tn:Nat->Heap->Prop)(J:It)(H':Hp),Wz=.ref it/\Inv X pins σ H' s2/\Turn X.prog X.w X.K tg J fp it tn/\tn 0 s2.heap/\(∀b∈fp,ug X pins H' b)/\R J H'
def PI(X:Cx)(tg iter:Expr)(wi:TI):Prop:=∀(pins:List (Addr×Obj))(s:Shared)(σ:St)(H:Hp)(R:It->Hp->Prop),Inv X pins σ H s->wi σ H R->wpAny (model X.prog X.w) X.A (eval iter X.env) (λv s1=>wpAny (model X.prog X.w) X.A (pyIter v) (XW X pins σ tg R) X.xe s1) X.xe s
theorem uS(ho:s.heap.get? it=some o)(hc:o.cls=.type n)(hd:o.data=.fields vs) (hn:["enumerate","zip","dict_itemiterator","dict_reverseitemiterator","odict_iterator","itertools.zip_longest","itertools.pairwise"].contains n=false) (hQ:Q () s):wpAny M A (letOwnedTupleGo tg (.ref it) u) Q E s:=by
 unfold letOwnedTupleGo
 cases tg<;>first
  |exact zA hQ
  | (cases u<;>first
    |exact zA hQ
    | (refine zc (wpAny_load ho ?_)
       rw[hc,hd]
       show wpAny M A (if (["enumerate","zip","dict_itemiterator","dict_reverseitemiterator","odict_iterator","itertools.zip_longest","itertools.pairwise"].contains n&&vs[0]?==some (rawInt _))=true then _ else _) Q E s
       rw[if_neg<|by intro h;rw[hn,zX]at h;cases h]
       exact zA hQ))
def Itl(K:Frag)(a:Addr):It:={λi H=>∃xs x,kz K H a xs/\xs[i]?=some x,λi H x H'=>H'=H/\∀xs,kz K H a xs->xs[i]?=some x,λi H=>∃xs,kz K H a xs/\xs.length<=i}
def Itt(K:Frag)(a:Addr):It:={λi H=>∃xs x,jn K H a xs/\xs[i]?=some x,λi H x H'=>H'=H/\∀xs,jn K H a xs->xs[i]?=some x,λi H=>∃xs,jn K H a xs/\xs.length<=i}
noncomputable def WA(lo:Int)(n:Nat):It:={λi _=>i<n,λi H x H'=>H'=H/\x=.int (lo+i),λi _=>n<=i}
theorem Fi{P:Program}{w:World}{K:Frag}{tg:Expr}(a it:Addr):Turn P w K tg (Itl K a) [it] it (λi h=>h.IsListIter it a i) where
 mem:=by simp
 obj:=λi h st b hb=>by
  have e:b=it:=by simpa using hb
  subst e
  obtain⟨o,e,c,d⟩:=st
  exact{o,e,λv z=>by rw[d]at z;cases z}
 keep:=λi h h' st k=>st.at λo e=>k it (by simp) o e
 item:=by
  intro X hP hw hK hc i pins s σ H E I hf st hg
  subst hP hw hK
  obtain⟨xs,x,hq,hx⟩:=hg
  obtain⟨ay,rv,p,hz⟩:=I.list hq
  obtain⟨u,hu,ru⟩:=rv.get hx
  obtain⟨f0,f1,f2,f3,f4,f5⟩:=hf it<|by simp
  refine wpAny_pyNext_list_item st p.isList (x:=u) (by simpa using hu) λh' dP sb=>?_
  have I1:Inv X pins σ H {s with heap:=h'}:=I.turned (t':=s.toks) (λb o hb e=>(sb.2 b hb).trans e) f0 f1 f3 f4 f5
  obtain⟨o,e,c,d⟩:=id dP
  exact{u,rfl,uS (s:={s with heap:=h'}) e c d (by decide) {x,H,I1,ru,{rfl,λys hy=>by rw[I.x5 hy hq];exact hx},dP,λb hb=>(hf b hb).1}}
 done:=by
  intro X hP hw hK hc i pins s σ H E I hf st hg
  subst hP hw hK
  obtain⟨xs,hq,hx⟩:=hg
  obtain⟨ay,rv,p,hz⟩:=I.list hq
  obtain⟨f0,f1,f2,f3,f4,f5⟩:=hf it<|by simp
  have hl:=rv.length
  exact wpAny_pyNext_list_end (I.ok.hd hc) st p.isList (by simp;lia) λh' eb=>{rfl,I.turned (t':=s.toks) (λb o hb e=>eb b o hb e) f0 f1 f3 f4 f5}
 self:=λ_ _ _ _ _ st h=>wpAny_pyIter_listiter st h
theorem BC{P:Program}{w:World}{K:Frag}{tg:Expr}(a it:Addr):Turn P w K tg (Itt K a) [it] it (λi h=>h.IsTupleIter it a i) where
 mem:=by simp
 obj:=λi h st b hb=>by
  have e:b=it:=by simpa using hb
  subst e
  obtain⟨o,e,c,d⟩:=st
  exact{o,e,λv z=>by rw[d]at z;cases z}
 keep:=λi h h' st k=>st.at λo e=>k it (by simp) o e
 item:=by
  intro X hP hw hK hc i pins s σ H E I hf st hg
  subst hP hw hK
  obtain⟨xs,x,hq,hx⟩:=hg
  obtain⟨ay,rv,p,hz⟩:=I.tuple hq
  obtain⟨u,hu,ru⟩:=rv.get hx
  obtain⟨f0,f1,f2,f3,f4,f5⟩:=hf it<|by simp
  refine wpAny_pyNext_tuple_item st (show s.heap.IsTuple a ay.toArray from p) (x:=u) (by simpa using hu) λh' dP sb=>?_
  have I1:Inv X pins σ H {s with heap:=h'}:=I.turned (t':=s.toks) (λb o hb e=>(sb.2 b hb).trans e) f0 f1 f3 f4 f5
  obtain⟨o,e,c,d⟩:=id dP
  exact{u,rfl,uS (s:={s with heap:=h'}) e c d (by decide) {x,H,I1,ru,{rfl,λys hy=>by rw[I.oi hy hq];exact hx},dP,λb hb=>(hf b hb).1}}
 done:=by
  intro X hP hw hK hc i pins s σ H E I hf st hg
  subst hP hw hK
  obtain⟨xs,hq,hx⟩:=hg
  obtain⟨ay,rv,p,hz⟩:=I.tuple hq
  obtain⟨f0,f1,f2,f3,f4,f5⟩:=hf it<|by simp
  have hl:=rv.length
  exact wpAny_pyNext_tuple_end (I.ok.hd hc) st (show s.heap.IsTuple a ay.toArray from p) (by simp;lia) λh' eb=>{rfl,I.turned (t':=s.toks) (λb o hb e=>eb b o hb e) f0 f1 f3 f4 f5}
 self:=λ_ _ _ _ _ st h=>wpAny_pyIter_tupleiter st h
theorem BD{P:Program}{w:World}{K:Frag}{tg:Expr}(it:Addr)(lo:Int)(n:Nat):Turn P w K tg (WA lo n) [it] it (λi h=>IsRangeIter h it (lo+(i:Nat)*1) ((n:Int)-(i:Nat)) 1) where
 mem:=by simp
 obj:=λi h st b hb=>by
  have e:b=it:=by simpa using hb
  subst e
  exact⟨_,st,λv z=>by
   have z':Data.fields _=Data.cell v:=z
   cases z'⟩
 keep:=λi h h' st k=>k it (by simp) _ st
 item:=by
  intro X hP hw hK hc i pins s σ H E I hf st hg
  subst hP hw hK
  obtain⟨f0,f1,f2,f3,f4,f5⟩:=hf it<|by simp
  have W:=Walks.range (prog:=X.prog) (w:=X.w) (I.ok.hd hc) it lo 1 n
  refine W.item i s _ _ hg st λv h' tk hv dP kk=>?_
  obtain⟨t,rfl⟩:=hv
  have I1:Inv X pins σ H {s with heap:=h',toks:=tk}:=I.turned (λb o hb e=>kk b o (by simpa using hb) e) f0 f1 f3 f4 f5
  refine{_,rfl,uS (s:={s with heap:=h',toks:=tk}) (n:="range_iterator") dP rfl rfl (by decide) {.int<|lo+i,H,I1,{t,?_},⟨rfl,rfl⟩,dP,λb hb=>(hf b hb).1}}
  rw[Int.mul_one]
 done:=by
  intro X hP hw hK hc i pins s σ H E I hf st hg
  subst hP hw hK
  obtain⟨f0,f1,f2,f3,f4,f5⟩:=hf it<|by simp
  exact wpAny_pyNext_range_end (I.ok.hd hc) st (by have:n<=i:=hg;lia) λh' eb=>{rfl,I.turned (t':=s.toks) (λb o hb e=>eb b o hb e) f0 f1 f3 f4 f5}
 self:=λ_ _ _ _ _ st h=>wpAny_pyIter_rangeiter st h
section
variable{X:Cx}{tg:Expr}
def SU(K:Frag)(tl:TE):TI:=λσ H R=>tl σ H λx H1=>∃a,x=.ref a/\(∃xs,kz K H1 a xs)/\R (Itl K a) H1
def XX(K:Frag)(tl:TE):TI:=λσ H R=>tl σ H λx H1=>∃a,x=.ref a/\(∃xs,jn K H1 a xs)/\R (Itt K a) H1
theorem KZ{l:Expr}{tl:TE}(hl:PE X l tl):PI X tg l (SU X.K tl):=by
 intro pins s σ H R I h;refine bt (hl pins s σ H _ I h) λv s1 ⟨x,H1,I1,r1,q1⟩=>?_;obtain⟨a,e,⟨xs,hq⟩,q⟩:=q1;subst e;cases r1;obtain⟨ay,rv,p,hz⟩:=I1.list hq;refine wpAny_pyIter_list p.isList ?_;refine{s1.heap.objs.size,[s1.heap.objs.size],_,_,H1,rfl,I1.kept (t':=s1.toks) λb o e=>zb _ e,Fi a _,{_,zj _ rfl,rfl,rfl},λb hb=>?_,q};have e:b=s1.heap.objs.size:=by simpa using hb
 subst e;exact I1.qz (zr _)<|I1.aL.fresh<|zr _
theorem O6{l:Expr}{tl:TE}(hl:PE X l tl):PI X tg l (XX X.K tl):=by
 intro pins s σ H R I h;refine bt (hl pins s σ H _ I h) λv s1 ⟨x,H1,I1,r1,q1⟩=>?_;obtain⟨a,e,⟨xs,hq⟩,q⟩:=q1;subst e;cases r1;obtain⟨ay,rv,p,hz⟩:=I1.tuple hq;refine wpAny_pyIter_tuple (show s1.heap.IsTuple a ay.toArray from p) ?_;refine{s1.heap.objs.size,[s1.heap.objs.size],_,_,H1,rfl,I1.kept (t':=s1.toks) λb o e=>zb _ e,BC a _,{_,zj _ rfl,rfl,rfl},λb hb=>?_,q};have e:b=s1.heap.objs.size:=by simpa using hb
 subst e;exact I1.qz (zr _)<|I1.aL.fresh<|zr _
theorem Hn{pins:List<|Addr×Obj}{σ:St}{H:Hp}{s:Shared}{R:It->Hp->Prop}{E:Value->Shared->Prop}{lo hi:Int}{t u v:Tok}{tk:Nat}(I:Inv X pins σ H s)(h1:-(2^62)<=lo)(h2:lo<2^62)(h3:-(2^62)<=hi)(h4:hi<2^62) (q:R (WA lo (hi-lo).toNat) H):wpAny (model X.prog X.w) X.A (pyIter<|.ref s.heap.objs.size) (XW X pins σ tg R) E {s with heap:=s.heap.push {cls:=.type "range",data:=.fields #[.int lo t,.int hi u,.int 1 v]},toks:=tk}:=by
 refine wpAny_pyIter_range (IsRange.new ..) (small_one h1 h2 h3 h4) ?_;have I1:Inv X pins σ H {s with heap:=s.heap.push {cls:=.type "range",data:=.fields #[.int lo t,.int hi u,.int 1 v]},toks:=tk}:=I.kept λb o e=>zb _ e;refine{(s.heap.push {cls:=.type "range",data:=.fields #[.int lo t,.int hi u,.int 1 v]}).objs.size,[(s.heap.push {cls:=.type "range",data:=.fields #[.int lo t,.int hi u,.int 1 v]}).objs.size],_,_,H,rfl,I1.kept (t':=tk) λb o e=>zb _ e,BD _ lo (hi-lo).toNat,?_,λb hb=>?_,q};have e1:lo+((0:Nat):Int)*1=lo:=by simp
 have e2:(((hi-lo).toNat:Nat):Int)-((0:Nat):Int)=Builtin.Range.rangeSize lo hi 1:=by rw[rangeSize_one];split<;>lia
 show IsRangeIter _ _ (lo+((0:Nat):Int)*1) ((((hi-lo).toNat:Nat):Int)-((0:Nat):Int)) 1;rw[e1,e2];exact zj _ rfl;have e:b=(s.heap.push {cls:=.type "range",data:=.fields #[.int lo t,.int hi u,.int 1 v]}).objs.size:=by simpa using hb
 subst e;exact I1.qz (zr _)<|I1.aL.fresh<|zr _
def SV(ta:TA):TI:=λσ H R=>ta σ H λvs H1=>∃j:Int,vs=[.int j]/\-(2^62)<=j/\j<2^62/\R (WA 0 j.toNat) H1
theorem Fj{a:Expr}{ta:TA}{p pos:Pos}(hg:Gl X "range")(hm:X.mg "range"= none)(ha:PA X [a] ta)(hs:autoParam (starEach [a] X.env=[(false,eval a X.env)]) qQJ):PI X tg (.Call (.Name "range" p) [a] [] pos) (SV ta):=by intro pins s σ H R I h;refine Call_<|gN I hg hm boot_range<|PyProof.Rows.callWith_type1 (bt (ha pos pins s σ H _ I h) λus s1 ⟨vs,H1,I1,r1,q1⟩=>?_) hs rfl;obtain⟨j,e,q1,q2,q⟩:=q1;subst e;cases r1 with|cons r rr=>cases rr;obtain⟨t,rfl⟩:=r;exact call_range_1<|Hn I1 (by lia) (by lia) q1 q2<|by simpa using q
def XY(wi:TI)(g:TG)(tb:TS):TS:=λD σ H=>wi σ H λJ H1=>∃W:Nat->Nat->St->Hp->Prop,(∃m,W 0 m σ H1)/\∀i m σ H,W i m σ H->(J.stop i H/\D.nx σ H)\/(J.go i H/\∃N:St->Hp->Prop,(∀aI H',N aI H'->∃m',m'<m/\W (i+1) m' aI H')/\∀x H',J.SS i H x H'->g x σ H' λqS H2=>tb {D with nx:=N,ct:=N,bk:=D.nx} qS H2)
noncomputable def rL(fp:List Addr)(h:Heap):List (Addr×Obj):=fp.filterMap λb=>(h.get? b).map λo=>(b,o)
theorem iF(hb:b∈fp)(e:h.get? b=some o):(b,o)∈rL fp h:=List.mem_filterMap.mpr {b,hb,by rw[e];rfl}
theorem Fl(hp:p∈rL fp h):p.1∈fp/\h.get? p.1=some p.2:=by obtain⟨b,hb,e⟩:=List.mem_filterMap.mp hp;cases q:h.get? b with|none=>(rw[q]at e;cases e)|some o=>rw[q]at e;have e':(b,o)=p:=zR e;subst e';exact⟨hb,q⟩
theorem Inv.pinned(I:Inv X pins σ H s)(hf:∀b∈fp,ug X pins H b)(ho:∀b∈fp,∃o,s.heap.get? b=some o/\∀v,o.data≠.cell v):Inv X (pins++rL fp s.heap) σ H s:=I.mH λp hp=>(zP.mp hp).elim (λz=>I.pin p<|zD _ z) λz=>by obtain⟨hb,e⟩:=Fl z;obtain⟨f0,f1,f2,_⟩:=hf p.1 hb;obtain⟨o,e',d⟩:=ho p.1 hb;rw[e]at e';cases e';exact⟨e,f0,f1,f2,d⟩
theorem Inv.rM(I:Inv X (pins++pl) σ H s):Inv X pins σ H s:=I.mH λp hp=>I.pin p<|zD _<|yj _ hp
theorem O7(hp:PassesOwn (model X.prog X.w) X.A X.env X.xe)(hc:X.calm=true)(hi:PI X tg iter wi)(hg:PG X tg g)(hb:DU X body tb) (hs:autoParam (∀x,foldedSetIterable iter X.env x=pure x) qQ0):PS X (.For tg iter body [] pos) (XY wi g tb):=by intro pins s σ H D I h;refine wpAny_For (bt (hi pins s σ H _ I h) λv s1 h1=>bt h1 λWz s2 h2=>?_) hs;obtain⟨it,fp,tn,J,H2,e,I2,T,Bp,f2,W,⟨m0,w0⟩,turn⟩:=h2;subst e;have O8:∀{H':Hp},(∀b∈fp,H' b=none)->∀b∈fp,ug X pins H' b:=λhn b hb=>{hn b hb,(f2 b hb).2};refine codeAny_forLoop_any (λn s'=>∃i aI H',Inv X pins aI H' s'/\tn i s'.heap/\(∀b∈fp,H' b=none)/\W i n aI H') ?_ m0 {0,σ,H2,I2,Bp,λb hb=>(f2 b hb).1,w0};rintro n s3 ⟨i,fw,H3,I3,Bq,SW,w3⟩;rcases turn i n fw H3 w3 with⟨stop,qn⟩|⟨go,N,hN,step⟩;refine wpAny_passesOwn hp<|bt (T.done X rfl rfl rfl hc i pins s3 fw H3 X.xe I3 (O8 SW) Bq stop) λr s4 ⟨hr,I4⟩=>?_;subst hr;exact wpAny_execs_nil ⟨fw,H3,I4,qn⟩;{refine wpAny_passesOwn hp<|bt (T.item X rfl rfl rfl hc i pins s3 fw H3 X.xe I3 (O8 SW) Bq go) λr s4 ⟨u,hr,h4⟩=>?_;subst hr;refine wpAny_passesOwn hp<|bt h4 λ_ s5 ⟨x,H5,I5,r5,y5,Kj,fr5⟩=>?_;have XZ:=I5.pinned (O8 fr5)<|T.obj _ _ Kj;refine wpAny_passesOwn hp<|bt (hg _ s5 fw H5 x u _ XZ r5<|step x H5 y5) λ_ s6 ⟨SX,H6,I6,q6⟩=>?_;refine wpAny_passesOwn hp<|bt (hb _ s6 SX H6 _ I6 q6) λf s7 q7=>?_;have again:∀{Ho:St}{H7:Hp},Inv X (pins++rL fp s5.heap) Ho H7 s7->N Ho H7->∃m,m<n/\∃i aI H',Inv X pins aI H' s7/\tn i s7.heap/\(∀b∈fp,H' b=none)/\W i m aI H':=λ{Ho H7} I7 n7=>(by obtain⟨m',hm,w7⟩:=hN Ho H7 n7;refine{m',hm,i+1,Ho,H7,I7.rM,T.keep _ _ _ Kj λb hb o e=>(I7.pin (b,o)<|zD _<|zD _<|iF hb e).1,λb hb=>?_,w7};obtain⟨o,e,d⟩:=T.obj _ _ Kj b hb;exact(I7.pin (b,o)<|zD _<|zD _<|iF hb e).2.1);cases f with|next=>(obtain⟨Ho,H7,I7,n7⟩:=q7;exact again I7 n7)|cont=>(obtain⟨Ho,H7,I7,n7⟩:=q7;exact again I7 n7)|brk=>(obtain⟨Ho,H7,I7,q7⟩:=q7;exact⟨Ho,H7,I7.rM,q7⟩)|ret v=>obtain⟨x7,Ho,H7,I7,r7,q7⟩:=q7;exact⟨x7,Ho,H7,I7.rM,r7,q7⟩}
end
abbrev R2:=V->V->Hp->VK->Prop
def hU(X:Cx)(f:Value->Value->Sem Value)(r:R2):Prop:=∀(pins:List (Addr×Obj))(s:Shared)(σ:St)(H:Hp)(x y:V)(v u:Value)(Q:VK),Inv X pins σ H s->RelV x v->RelV y u->r x y H Q->wpAny (model X.prog X.w) X.A (f v u) (EP X pins σ Q) X.xe s
def X0(X:Cx)(f:Value->Sem Value)(r:V->Hp->VK->Prop):Prop:=∀(pins:List (Addr×Obj))(s:Shared)(σ:St)(H:Hp)(x:V)(v:Value)(Q:VK),Inv X pins σ H s->RelV x v->r x H Q->wpAny (model X.prog X.w) X.A (f v) (EP X pins σ Q) X.xe s
def fe(X:Cx)(f:Value)(r:List V->Hp->VK->Prop):Prop:=∀(pins:List (Addr×Obj))(s:Shared)(σ:St)(H:Hp)(xs:List V)(us:List Value)(Q:VK),Inv X pins σ H s->Vals xs us->r xs H Q->wpAny (model X.prog X.w) X.A (call f us) (EP X pins σ Q) X.xe s
def RL(r:R2)(ta tb:TE):TE:=λσ H Q=>ta σ H λx H1=>tb σ H1 λy H2=>r x y H2 Q
def tUn(r:V->Hp->VK->Prop)(ta:TE):TE:=λσ H Q=>ta σ H λx H1=>r x H1 Q
def rI(C:Int->Int->Prop)(g:Int->Int->V):R2:=λx y H Q=>∃i j,x=.int i/\y=.int j/\C i j/\Q (g i j) H
def K0(g:Int->Int->V):R2:=λx y H Q=>∃i j,x=.int i/\y=.int j/\Q (g i j) H
def rU(g:Int->V):V->Hp->VK->Prop:=λx H Q=>∃i,x=.int i/\Q (g i) H
section
variable{X:Cx}{a b:Expr}{ta tb:TE}{pos:Pos}
theorem O9(ha:PE X a ta)(hb:PE X b tb){pins:List<|Addr×Obj}{s:Shared}{σ:St}{H:Hp}{R:V->V->Hp->Prop}(I:Inv X pins σ H s) (h:ta σ H λx H1=>tb σ H1 λy H2=>R x y H2) {Q:Value->Shared->Prop}{f:Value->Value->Sem Value} (hf:∀v u s2 x y H2,Inv X pins σ H2 s2->RelV x v->RelV y u->R x y H2->wpAny (model X.prog X.w) X.A (f v u) Q X.xe s2): wpAny (model X.prog X.w) X.A (eval a X.env) (λv aZ=>wpAny (model X.prog X.w) X.A (eval b X.env) (λu bV=>wpAny (model X.prog X.w) X.A (f v u) Q X.xe bV) X.xe aZ) X.xe s:=by refine bt (ha pins s σ H _ I h) λv s1 ⟨x,H1,I1,r1,q1⟩=>?_;refine bt (hb pins s1 σ H1 _ I1 q1) λu s2 ⟨y,H2,I2,r2,q2⟩=>?_;exact hf v u s2 x y H2 I2 r1 r2 q2
theorem SY{op:Operator}{r:R2}(ho:hU X (binaryOp op) r)(ha:PE X a ta)(hb:PE X b tb):PE X (.BinOp a op b pos) (RL r ta tb):=by intro pins s σ H Q I h;exact wpAny_BinOp<|O9 ha hb I h λv u s2 x y H2 I2 rx ry q=>ho pins s2 σ H2 x y v u Q I2 rx ry q
theorem S_(ho:X0 X (unaryOp op) r)(ha:PE X a ta):PE X (.UnaryOp op a pos) (tUn r ta):=by intro pins s σ H Q I h;exact UnaryOp_<|bt (ha pins s σ H _ I h) <| by rintro v s1 ⟨x,H1,I1,r1,q1⟩;exact ho pins s1 σ H1 x v Q I1 r1 q1
theorem WB{f:Value->Value->Sem Value}{C:Int->Int->Prop}{g:Int->Int->Int} (rule:∀(i j:Int)(t u:Tok)(s:Shared)(Q:Value->Shared->Prop)(E:Value->Shared->Prop),C i j->Q (.int (g i j) s.toks) {s with toks:=s.toks+1}->wpAny (model X.prog X.w) X.A (f (.int i t)<|.int j u) Q E s): hU X f (rI C λi j=>.int<|g i j):=by intro pins s σ H x y v u Q I rx ry h;obtain⟨i,j,rfl,rfl,hc,q⟩:=h;obtain⟨t,rfl⟩:=rx;obtain⟨t',rfl⟩:=ry;exact rule i j t t' s _ _ hc {.int<|g i j,H,I.tok _,{_,rfl},q}
theorem Tc{f:Value->Value->Sem Value}{g:Int->Int->Int} (rule:∀(i j:Int)(t u:Tok)(s:Shared)(Q:Value->Shared->Prop)(E:Value->Shared->Prop),Q (.int (g i j) s.toks) {s with toks:=s.toks+1}->wpAny (model X.prog X.w) X.A (f (.int i t)<|.int j u) Q E s): hU X f (K0 λi j=>.int<|g i j):=by intro pins s σ H x y v u Q I rx ry h;obtain⟨i,j,rfl,rfl,q⟩:=h;obtain⟨t,rfl⟩:=rx;obtain⟨t',rfl⟩:=ry;exact rule i j t t' s _ _ {.int<|g i j,H,I.tok _,{_,rfl},q}
theorem K1{f:Value->Value->Sem Value}{g:Int->Int->Bool} (rule:∀(i j:Int)(t u:Tok)(s:Shared)(Q:Value->Shared->Prop)(E:Value->Shared->Prop),Q (.bool<|g i j) s->wpAny (model X.prog X.w) X.A (f (.int i t)<|.int j u) Q E s): hU X f (K0 λi j=>.bl<|g i j):=by intro pins s σ H x y v u Q I rx ry h;obtain⟨i,j,rfl,rfl,q⟩:=h;obtain⟨t,rfl⟩:=rx;obtain⟨t',rfl⟩:=ry;exact rule i j t t' s _ _ {.bl<|g i j,H,I,rfl,q}
def Td(i j:Int):Prop:=0<=j/\j<=1000000/\i.natAbs<2^64
def K2(i j:Int):Prop:=(-(2^64)<i/\i<2^64)\/(-(2^64)<j/\j<2^64)
theorem K2.ok{i j:Int}(h:K2 i j):IntMulOk i j:=by rcases h with⟨h1,h2⟩|⟨h1,h2⟩;exact .of_left<|intBits_le_64 h1 h2;exact .of_right<|intBits_le_64 h1 h2
theorem O_:hU X (binaryOp .Add) (K0 λi j=>.int<|i+j):=Tc λ_ _ _ _ _ _ _ q=>add_int q
theorem Pa:hU X (binaryOp .Sub) (K0 λi j=>.int<|i-j):=Tc λ_ _ _ _ _ _ _ q=>sub_int q
theorem Pb:hU X (binaryOp .Mult) (rI K2 λi j=>.int<|i*j):=WB λ_ _ _ _ _ _ _ hc q=>mul_int q hc.ok
theorem Pc:hU X (binaryOp .Mod) (rI (λ_ j=>0<j) λi j=>.int<|i%j):=WB λi j _ _ _ _ _ hc q=>by have h1:(0:Int)<j:=hc;exact mod_int' (by lia)<|by rw[Int.fmod_eq_emod_of_nonneg i<|by lia];exact q
theorem Pd:hU X (binaryOp .Pow) (rI Td λi j=>.int<|i^j.toNat):=WB λ_ _ _ _ _ _ _ hc q=>pow_int_small hc.1 hc.2.1 hc.2.2 q
theorem unI{f:Value->Sem Value}{g:Int->Int} (rule:∀(i:Int)(t:Tok)(s:Shared)(Q:Value->Shared->Prop)(E:Value->Shared->Prop),Q (.int (g i) s.toks) {s with toks:=s.toks+1}->wpAny (model X.prog X.w) X.A (f<|.int i t) Q E s): X0 X f (rU λi=>.int<|g i):=by intro pins s σ H x v Q I rx h;obtain⟨i,rfl,q⟩:=h;obtain⟨t,rfl⟩:=rx;exact rule i t s _ _ {.int<|g i,H,I.tok _,{_,rfl},q}
theorem Pe:X0 X (unaryOp .USub) (rU λi=>.int (-i)):=unI λ_ _ _ _ _ q=>neg_int q
end
noncomputable def Te:V->V->Bool|.av,.av=>true|.av,.int _=>true|.int _,.av=>true|.av,.bl _=>true|.bl _,.av=>true|.av,.str _=>true|.str _,.av=>true|.int _,.int _=>true|.bl _,.bl _=>true|.str _,.str _=>true|.DR _,.DR _=>true|.int _,.str _=>true|.str _,.int _=>true|.bl _,.str _=>true|.str _,.bl _=>true|_,_=>false
def rEq:R2:=λx y H Q=>Te x y=true/\Q (.bl<|decide<|x=y) H
def rNe:R2:=λx y H Q=>Te x y=true/\Q (.bl<|!decide (x=y)) H
theorem DZ:decide (V.int i=V.int j)=(i==j):=by rw[yD];simp
theorem Hq:decide (V.bl i=V.bl j)=(i==j):=by rw[yD];simp
theorem D0:decide (V.str i=V.str j)=(i==j):=by rw[yD];simp
theorem D1:decide (V.DR i=V.DR j)=(i.toList==j.toList):=by rw[yD];cases i;cases j;simp
section
variable{X:Cx}{a b c:Expr}{ta tb tc:TE}{pos:Pos}
theorem aJ(I:Inv X pins σ H s)(q:Q (.bl k) H)(e:k=k'):EP X pins σ Q (.bool k') s:=by subst e;exact{.bl k,H,I,rfl,q}
theorem Nl:hU X (compareOp .Eq) rEq:=by intro pins s σ H x y v u Q I rx ry h;obtain⟨hs,q⟩:=h;cases x with|av=>(cases rx;cases y with|av=>(cases ry;exact PySem.EqNone.eq_none_none<|aJ I q<|by simp)|bl j=>(cases ry;exact PySem.EqNone.eq_none_bool<|aJ I q<|by simp)|int j=>(obtain⟨t',rfl⟩:=ry;exact PySem.EqNone.eq_none_int<|aJ I q<|by simp)|str j=>(obtain⟨t',rfl⟩:=ry;exact PySem.EqNone.eq_none_str<|aJ I q<|by simp)|_=>exact absurd (show false=true from hs) zd)|bl i=>(cases rx;cases y with|av=>(cases ry;exact PySem.EqNone.eq_bool_none<|aJ I q<|by simp)|bl j=>(cases ry;exact eq_bool<|aJ I q Hq)|str j=>(obtain⟨t',rfl⟩:=ry;exact PySem.EqMixed.eq_bool_str<|aJ I q<|by simp)|_=>exact absurd (show false=true from hs) zd)|int i=>(obtain⟨t,rfl⟩:=rx;cases y with|av=>(cases ry;exact PySem.EqNone.eq_int_none<|aJ I q<|by simp)|int j=>(obtain⟨t',rfl⟩:=ry;exact eq_int<|aJ I q DZ)|str j=>(obtain⟨t',rfl⟩:=ry;exact PySem.EqMixed.eq_int_str<|aJ I q<|by simp)|_=>exact absurd (show false=true from hs) zd)|str i=>(obtain⟨t,rfl⟩:=rx;cases y with|av=>(cases ry;exact PySem.EqNone.eq_str_none<|aJ I q<|by simp)|bl j=>(cases ry;exact PySem.EqMixed.eq_str_bool<|aJ I q<|by simp)|int j=>(obtain⟨t',rfl⟩:=ry;exact PySem.EqMixed.eq_str_int<|aJ I q<|by simp)|str j=>(obtain⟨t',rfl⟩:=ry;exact eq_str<|aJ I q D0)|_=>exact absurd (show false=true from hs) zd)|DR i=>(obtain⟨t,rfl⟩:=rx;cases y with|DR j=>(obtain⟨t',rfl⟩:=ry;exact PySem.W.eq_bytes<|aJ I q D1)|_=>exact absurd (show false=true from hs) zd)|_=>cases y<;>exact absurd (show false=true from hs) zd
theorem Nm:hU X (compareOp .NotEq) rNe:=by intro pins s σ H x y v u Q I rx ry h;obtain⟨hs,q⟩:=h;cases x with|av=>(cases rx;cases y with|av=>(cases ry;exact PySem.EqNone.ne_none_none<|aJ I q<|by simp)|bl j=>(cases ry;exact PySem.EqNone.ne_none_bool<|aJ I q<|by simp)|int j=>(obtain⟨t',rfl⟩:=ry;exact PySem.EqNone.ne_none_int<|aJ I q<|by simp)|str j=>(obtain⟨t',rfl⟩:=ry;exact PySem.EqNone.ne_none_str<|aJ I q<|by simp)|_=>exact absurd (show false=true from hs) zd)|bl i=>(cases rx;cases y with|av=>(cases ry;exact PySem.EqNone.ne_bool_none<|aJ I q<|by simp)|bl j=>(cases ry;exact ne_bool<|aJ I q<|congrArg not Hq)|str j=>(obtain⟨t',rfl⟩:=ry;exact PySem.EqMixed.ne_bool_str<|aJ I q<|by simp)|_=>exact absurd (show false=true from hs) zd)|int i=>(obtain⟨t,rfl⟩:=rx;cases y with|av=>(cases ry;exact PySem.EqNone.ne_int_none<|aJ I q<|by simp)|int j=>(obtain⟨t',rfl⟩:=ry;exact ne_int<|aJ I q<|congrArg not DZ)|str j=>(obtain⟨t',rfl⟩:=ry;exact PySem.EqMixed.ne_int_str<|aJ I q<|by simp)|_=>exact absurd (show false=true from hs) zd)|str i=>(obtain⟨t,rfl⟩:=rx;cases y with|av=>(cases ry;exact PySem.EqNone.ne_str_none<|aJ I q<|by simp)|bl j=>(cases ry;exact PySem.EqMixed.ne_str_bool<|aJ I q<|by simp)|int j=>(obtain⟨t',rfl⟩:=ry;exact PySem.EqMixed.ne_str_int<|aJ I q<|by simp)|str j=>(obtain⟨t',rfl⟩:=ry;exact ne_str<|aJ I q<|congrArg not D0)|_=>exact absurd (show false=true from hs) zd)|DR i=>(obtain⟨t,rfl⟩:=rx;cases y with|DR j=>(obtain⟨t',rfl⟩:=ry;exact PySem.W.ne_bytes<|aJ I q<|congrArg not D1)|_=>exact absurd (show false=true from hs) zd)|_=>cases y<;>exact absurd (show false=true from hs) zd
theorem Tf:hU X (compareOp .Lt) (K0 λi j=>.bl<|decide<|i<j):=K1 λ_ _ _ _ _ _ _ q=>lt_int q
theorem Th:hU X (compareOp .LtE) (K0 λi j=>.bl<|decide<|i<=j):=K1 λ_ _ _ _ _ _ _ q=>le_int q
theorem Tj:hU X (compareOp .Gt) (K0 λi j=>.bl<|decide<|j<i):=K1 λ_ _ _ _ _ _ _ q=>gt_int q
theorem Tp:hU X (compareOp .GtE) (K0 λi j=>.bl<|decide<|j<=i):=K1 λ_ _ _ _ _ _ _ q=>ge_int q
theorem Fm:hU X (compareOp .Lt) (λx y H Q=>∃i j,x=.str i/\y=.str j/\Q (.bl<|decide<|i.cps.toList<j.cps.toList) H):=by intro pins s σ H x y v u Q I rx ry h;obtain⟨i,j,rfl,rfl,q⟩:=h;obtain⟨t,rfl⟩:=rx;obtain⟨t',rfl⟩:=ry;exact lt_str<|aJ I q rfl
theorem Fn:hU X (compareOp .In) (λx y H Q=>∃i j,x=.str i/\y=.str j/\Q (.bl<|!(Builtin.Str.occurrences j i 0 j.length 1).isEmpty) H):=by intro pins s σ H x y v u Q I rx ry h;obtain⟨i,j,rfl,rfl,q⟩:=h;obtain⟨t,rfl⟩:=rx;obtain⟨t',rfl⟩:=ry;exact in_str<|aJ I q rfl
theorem Pf:hU X (compareOp .Is) (λx y H Q=>y=.av/\Q (.bl<|decide<|x=.av) H):=by intro pins s σ H x y v u Q I rx ry h;obtain⟨rfl,q⟩:=h;cases ry;refine is_none_gen<|aJ I q ?_;cases x<;>first| (cases rx;rfl)| (obtain⟨t,rfl⟩:=rx;rfl)
theorem K3:hU X (compareOp .IsNot) (λx y H Q=>y=.av/\Q (.bl<|!decide (x=.av)) H):=by intro pins s σ H x y v u Q I rx ry h;obtain⟨rfl,q⟩:=h;cases ry;refine isnot_none_gen<|aJ I q ?_;cases x<;>first| (cases rx;rfl)| (obtain⟨t,rfl⟩:=rx;rfl)
theorem vY:hU X (compareOp .NotIn) (λx y H Q=>∃i j,x=.str i/\y=.str j/\Q (.bl<|!(!(Builtin.Str.occurrences j i 0 j.length 1).isEmpty)) H):=by intro pins s σ H x y v u Q I rx ry h;obtain⟨i,j,rfl,rfl,q⟩:=h;obtain⟨t,rfl⟩:=rx;obtain⟨t',rfl⟩:=ry;exact notIn_str<|aJ I q rfl
theorem X1(b:Expr)(h:autoParam (op≠.In) qQZ)(h2:autoParam (op≠.NotIn) qQZ):behindInMarks op b=false:=by
 have e1:(op==CmpOp.In)=false:=by cases op<;>first|rfl|exact absurd rfl h
 have e2:(op==CmpOp.NotIn)=false:=by cases op<;>first|rfl|exact absurd rfl h2
 cases b<;>simp[behindInMarks,e1,e2]
theorem D5{op:CmpOp}{r:R2}(ho:hU X (compareOp op) r)(ha:PE X a ta)(hb:PE X b tb)(hm:behindInMarks op b=false):PE X (.Compare a [op] [b] pos) (RL r ta tb):=by intro pins s σ H Q I h;exact wpAny_Compare1 (O9 ha hb I h λv u s2 x y H2 I2 rx ry q=>ho pins s2 σ H2 x y v u Q I2 rx ry q) hm
def Hr(t:TE):TT:=λσ H Q=>t σ H λx H'=>∃k,x=.bl k/\Q k H'
theorem K4{op:CmpOp}{r:R2}(ho:hU X (compareOp op) r)(ha:PE X a ta)(hb:PE X b tb)(hm:behindInMarks op b=false):PT X (.Compare a [op] [b] pos) (Hr<|RL r ta tb):=by intro pins s σ H Q I h;refine wpAny_isTrue_Compare1 (bt (ha pins s σ H _ I h) λv s1 ⟨x,H1,I1,r1,q1⟩=>bt (hb pins s1 σ H1 _ I1 q1) λu s2 ⟨y,H2,I2,r2,q2⟩=>bt (ho pins s2 σ H2 x y v u _ I2 r1 r2 q2) λc s3 ⟨z,H3,I3,r3,k,e,q3⟩=>?_) hm;subst e;cases r3;exact yu ⟨H3,I3,q3⟩
def BE(r r':R2)(ta tb tc:TE):TE:=λσ H Q=>ta σ H λx H1=>tb σ H1 λy H2=>r x y H2 λz H3=>∃k,z=.bl k/\(if k=true then tc σ H3 λw' H4=>r' y w' H4 Q else Q (.bl false) H3)
theorem Hs{op Fp:CmpOp}{r r':R2}(ho:hU X (compareOp op) r)(BA:hU X (compareOp Fp) r')(ha:PE X a ta)(hb:PE X b tb)(hc:PE X c tc) (hm:autoParam (lastMarks [op,Fp] [b,c]=false) qQ2):PE X (.Compare a [op,Fp] [b,c] pos) (BE r r' ta tb tc):=by intro pins s σ H Q I h;refine Compare_chain (bt (ha pins s σ H _ I h) λv s1 ⟨x,H1,I1,r1,q1⟩=>chain_link<|bt (hb pins s1 σ H1 _ I1 q1) λu s2 ⟨y,H2,I2,r2,q2⟩=>bt (ho pins s2 σ H2 x y v u _ I2 r1 r2 q2) λd s3 ⟨z,H3,I3,r3,k,e,q3⟩=>?_) hm;subst e;cases r3;refine yu ?_;cases k with|false=>exact ite_ff {.bl false,H3,I3,rfl,q3}|true=>exact ite_tt<|chain_last<|bt (hc pins s3 σ H3 _ I3 q3) λw' s4 ⟨z',H4,I4,r4,q4⟩=>BA pins s4 σ H4 y z' u w' Q I4 r2 r4 q4
theorem Ht{op Fp:CmpOp}{r r':R2}(ho:hU X (compareOp op) r)(BA:hU X (compareOp Fp) r')(ha:PE X a ta)(hb:PE X b tb)(hc:PE X c tc) (hm:autoParam (lastMarks [op,Fp] [b,c]=false) qQ2):PT X (.Compare a [op,Fp] [b,c] pos) (Hr<|BE r r' ta tb tc):=by intro pins s σ H Q I h;refine isTrue_chain (bt (ha pins s σ H _ I h) λv s1 ⟨x,H1,I1,r1,q1⟩=>test_link<|bt (hb pins s1 σ H1 _ I1 q1) λu s2 ⟨y,H2,I2,r2,q2⟩=>bt (ho pins s2 σ H2 x y v u _ I2 r1 r2 q2) λd s3 ⟨z,H3,I3,r3,k,e,q3⟩=>?_) hm;subst e;cases r3;refine yu ?_;cases k with|false=>(obtain⟨k',e',q'⟩:=q3;cases e';exact ite_ff ⟨H3,I3,q'⟩)|true=>refine ite_tt<|test_last<|bt (hc pins s3 σ H3 _ I3 q3) λw' s4 ⟨z',H4,I4,r4,q4⟩=>bt (BA pins s4 σ H4 y z' u w' _ I4 r2 r4 q4) λd' s5 ⟨z2,H5,I5,r5,k2,e2,q5⟩=>?_;subst e2;cases r5;exact yu ⟨H5,I5,q5⟩
theorem rN:(sizeLine:Nat)<2^63:=by rw[ye];decide
theorem BF:hU X (binaryOp .Add) (λx y H Q=>∃i j,x=.str i/\y=.str j/\i.length+j.length<=sizeLine/\Q (.str<|i++j) H):=by intro pins s σ H x y v u Q I rx ry h;obtain⟨i,j,rfl,rfl,hz,q⟩:=h;obtain⟨t,rfl⟩:=rx;obtain⟨t',rfl⟩:=ry;exact add_str (λt' tk=>{.str<|i++j,H,I.tok _,{_,rfl},q}) hz
theorem vals1(r:Vals [x] us):∃u,us=[u]/\RelV x u:=by cases r with|cons r1 r2=>cases r2;exact{_,rfl,r1}
theorem vals2(r:Vals [x,y] us):∃u w',us=[u,w']/\RelV x u/\RelV y w':=by cases r with|cons r1 r2=>cases r2 with|cons r3 r4=>cases r4;exact{_,_,rfl,r1,r3}
theorem Fq(hc:X.calm=true):fe X (.builtin "max") (λxs H Q=>∃i j,xs=[.int i,.int j]/\Q (.int<|if j>i then j else i) H):=by intro pins s σ H xs us Q I r h;obtain⟨i,j,rfl,q⟩:=h;obtain⟨u,w',rfl,⟨t,rfl⟩,⟨t',rfl⟩⟩:=vals2 r;refine max_two_ints (I.ok.hd hc) λh' tk k=>{_,H,I.kept k,?_,q};by_cases hj:j>i;rw[if_pos hj,if_pos hj];exact{_,rfl};rw[if_neg hj,if_neg hj];exact{_,rfl}
theorem Ft(hc:X.calm=true):fe X (.builtin "min") (λxs H Q=>∃i j,xs=[.int i,.int j]/\Q (.int<|if j<i then j else i) H):=by intro pins s σ H xs us Q I r h;obtain⟨i,j,rfl,q⟩:=h;obtain⟨u,w',rfl,⟨t,rfl⟩,⟨t',rfl⟩⟩:=vals2 r;refine min_two_ints (I.ok.hd hc) λh' tk k=>{_,H,I.kept k,?_,q};by_cases hj:j<i;rw[if_pos hj,if_pos hj];exact{_,rfl};rw[if_neg hj,if_neg hj];exact{_,rfl}
theorem uT:fe X (.type "int") (λxs H Q=>(∃i,xs=[.int i]/\Q (.int i) H)\/∃k,xs=[.bl k]/\Q (.int<|if k then 1 else 0) H):=by intro pins s σ H xs us Q I r h;rcases h with⟨i,rfl,q⟩|⟨k,rfl,q⟩;obtain⟨u,rfl,t,rfl⟩:=vals1 r;exact call_int_int {.int i,H,I,{_,rfl},q};obtain⟨u,rfl,r1⟩:=vals1 r;cases r1;exact call_int_bool {.int<|if k then 1 else 0,H,I.tok _,{_,rfl},q}
def X2(K:Frag)(x:V)(H:Hp)(n:Nat):Prop:=match x with|.str y=>y.length<=sizeLine/\n=y.length|.DR y=>y.size<=sizeLine/\n=y.size|.ref p=>(∃xs,kz K H p xs/\n=xs.length)\/∃xs,jn K H p xs/\n=xs.length|_=>False
theorem jA:fe X (.builtin "len") (λxs H Q=>∃x n,xs=[x]/\X2 X.K x H n/\Q (.int n) H):=by intro pins s σ H xs us Q I r h;obtain⟨x,n,rfl,e,q⟩:=h;obtain⟨u,rfl,rx⟩:=vals1 r;have hl:=rN;have hs:sizeLine=16777216:=ye;cases x with|str y=>(obtain⟨t,rfl⟩:=rx;obtain⟨hy,e'⟩:y.length<=sizeLine/\n=y.length:=e;subst e';exact len_str (by lia) {.int _,H,I.tok _,{_,rfl},q})|DR y=>(obtain⟨t,rfl⟩:=rx;obtain⟨hy,e'⟩:y.size<=sizeLine/\n=y.size:=e;subst e';exact PySem.W.len_bytes (by lia) {.int _,H,I.tok _,{_,rfl},q})|ref p=>(cases rx;have e':(∃xs,kz X.K H p xs/\n=xs.length)\/∃xs,jn X.K H p xs/\n=xs.length:=e;rcases e' with⟨xs,hx,e'⟩|⟨xs,hx,e'⟩;subst e';obtain⟨ay,r',pl,hz⟩:=I.list hx;have hlen:=r'.length;exact Calls.call_len_list pl.isList (by simp only[zp];lia) {.int xs.length,H,I.tok _,{_,by simp only[zp];rw[hlen]},q};subst e';obtain⟨ay,r',pl,hz⟩:=I.tuple hx;have hlen:=r'.length;exact len_tuple pl (by simp only[zp];lia) {.int xs.length,H,I.tok _,{_,by simp only[zp];rw[hlen]},q})|_=>exact(show False from e).elim
end
structure BG(h:Heap)(x dx C:Addr)(mA:Str->Option Value):Prop where
 obj:h.get? x=some (instObj C dx)
 ns:h.Ns1 dx mA
 ne:dx≠x
theorem Fu{h:Heap}{dx:Addr}{mA:Str->Option Value}(n:h.Ns1 dx mA):∃od,h.get? dx=some od/\∀name,lookIn name od=some (mA name):=by
 obtain⟨o,es,ep,ho,hd,hk,_,hm⟩:=n;refine{o,ho,λname=>?_};have e:=hm name;unfold nsFind findBy at e;rw[<-Array.find?_toList]at e;unfold lookIn;rw[hd];dsimp only;split;rename_i y q;rw[q]at e;exact congrArg some e;rename_i q;rw[q]at e;have a:es.toList.any (·.refKey)=false:=by rw[List.any_eq_false];intro y hy;obtain⟨z,t,Pg⟩:=hk y<|Array.mem_toList_iff.mp hy;simp[DictEntry.refKey,Pg]
 have a':¬es.toList.any (·.refKey)=true:=by rw[a];exact zd
 rw[if_neg a'];exact congrArg some e
theorem BG.look(I:BG h x dx C mA):∃od,PySem.W.InstAt h x (instObj C dx) C (some od)/\∀name,lookIn name od=some (mA name):=
 let ⟨od,ho,hl⟩:=Fu I.ns
 ⟨od,⟨I.obj,rfl,rfl,ho⟩,hl⟩
section
variable{prog:Program}{w:World}{A:Around}{E:Value->Shared->Prop}{s:Shared}{K:Frag}{x dx C f:Addr}{mA:Str->Option Value}{name:Str}{v:Value}
theorem get_map(X:K.In s.heap)(I:BG s.heap x dx C mA)(hg:plainGet K C name=true)(hh:hasDictIn K C=true) (ha:findIn K (.ref C) name=some none) (hv:mA name=some v) (WC:handedIn v=true) (h:Q v {s with toks:=s.toks+1}): wpAny (model prog w) A (getAttr (.ref x) name expr) Q E s:=by obtain⟨od,J,hl⟩:=I.look;exact PySem.W.get_value X J (plainGet_of hg).1 (PySem.W.findObj_own hh ha rfl<|by rw[hl,hv]) WC h
theorem Hu(X:K.In s.heap)(I:BG s.heap x dx C mA)(hg:plainGet K C name=true) (hf:findIn K (.ref C) name=some (some<|.ref f)) (ht:isFn K (.ref f)=true) (hv:mA name=none) (h:Q (.ref f,[.ref x]) s): wpAny (model prog w) A (getMethod (.ref x) name pl) Q E s:=by obtain⟨od,J,hl⟩:=I.look;exact PySem.W.method_fn X J (plainGet_of hg).1 (plainGet_of hg).2 hf (beq_iff_eq.mp ht) (by show(lookIn name od).map (·.isSome)=some false;rw[hl,hv];rfl) h
theorem K5(X:K.In s.heap)(I:BG s.heap x dx C mA) (hs:findIn K (.ref C) "__setattr__"= some (some<|.builtin "object.__setattr__")) (hp:plainOver K C=true) (ht:takerIn K C name=some none) (hh:hasDictIn K C=true) (hw:PySem.Within mA ns) (hsz:ns.length<=sizeLine) (h:∀h',BG h' x dx C (λy=>if y=name then some v else mA y)->Heap.SameBut dx s.heap h'->Q () {s with heap:=h',toks:=s.toks+2}): wpAny (model prog w) A (setAttr (.ref x) name v) Q E s:=by obtain⟨od,J,hl⟩:=I.look;refine PySem.W.set_plain X J hs<|PySem.W.osa_open (s:={s with toks:=s.toks+1}) (r:=none) X J hp ht λb=>?_;obtain⟨cd,hc,rG⟩:=PySem.W.any_some hh;have hx:s.heap.get? x=some {.ref C,some dx,.plain,#[]}:=I.obj;refine zc<|zA<|zc<|zc<|wpAny_loadPart hx<|zc<|PySem.W.Looks.here (s:={s with toks:=s.toks+1}) (PySem.W.looks_clsIn X hc) ?_;rw[rG];refine zA (a:=some dx)<|zc<|zA<|zc ?_;refine wpAny_nsSet1 (s:={s with toks:=s.toks+1}) I.ns λh' Nn x8=>?_;obtain⟨oD,esD,epD,hoD,hdD,hcD⟩:=Nn.count<|PySem.Within.cons name v hw;refine zc<|wpAny_lookBehind hoD (by rw[hdD];exact pastItsLine_dict<|zK hcD<|by rw[zQ];lia) ?_;exact zA<|h _ {(x8.2 _<|Ne.symm I.ne).trans I.obj,Nn,I.ne} x8
theorem Hv(X:K.In s.heap)(hm:makesIn K C=true) (hi:findIn K (.ref C) "__init__"= some (some<|.ref f)) (hf:PySem.W.typeIn K (.ref f)=some (.type "function")) (h:codeAny (model prog w) (A.under<|.builtin "type.__call__" {.ref C::vs,kw}) (.call (.ref f) {.ref (s.heap.objs.size+1)::vs,kw}) (PySem.W.InitBack (s.heap.objs.size+1) R) {s with heap:=(s.heap.push emptyDict).push<|instObj C s.heap.objs.size}): codeAny (model prog w) A (.call (.ref C) ⟨vs,kw⟩) R s:=by obtain⟨hh,g,d,t,os⟩:=s;exact PySem.W.make_core (PySem.W.makes_of X hm) (PySem.W.looks_findIn X hi) (λself=>PySem.W.bind_fn X self hf) (.inl rfl) h
end
noncomputable def putF(f:Str)(v:V):List (Str×V)->List (Str×V)|[]=>[(f,v)]| (g,x)::r=>if g=f then (g,v)::r else (g,x)::putF f v r
theorem pO(f g:Str)(v:V):∀fs:List (Str×V),(putF f v fs).lookup g=if g=f then some v else fs.lookup g|[]=>by show List.lookup g [(f,v)]=_;by_cases h:g=f;have hb:(g==f)=true:=beq_iff_eq.mpr h;simp only[List.lookup,hb,if_pos h];have hb:(g==f)=false:=beq_eq_false_iff_ne.mpr h;simp only[List.lookup,hb,if_neg h]| (k,x)::r=>by have ih:=pO f g v r;rw[show putF f v ((k,x)::r)=(if k=f then (k,v)::r else (k,x)::putF f v r) from rfl];by_cases hk:k=f;rw[if_pos hk];by_cases h:g=k;have hb:(g==k)=true:=beq_iff_eq.mpr h;simp only[List.lookup,hb,if_pos<|h.trans hk];have hb:(g==k)=false:=beq_eq_false_iff_ne.mpr h;simp only[List.lookup,hb,if_neg (λe:g=f=>h<|e.trans hk.symm)];rw[if_neg hk];by_cases h:g=k;have hb:(g==k)=true:=beq_iff_eq.mpr h;simp only[List.lookup,hb,if_neg (λe:g=f=>hk<|h.symm.trans e)];have hb:(g==k)=false:=beq_eq_false_iff_ne.mpr h;simp only[List.lookup,hb];exact ih
theorem oj(f:Str)(v:V):∀fs:List (Str×V),f∈(putF f v fs).map (·.1)/\∀g,g∈fs.map (·.1)->g∈(putF f v fs).map (·.1)|[]=>{by simp[putF],λg h=>by simp at h}| (k,x)::r=>by obtain⟨i1,i2⟩:=oj f v r;rw[show putF f v ((k,x)::r)=(if k=f then (k,v)::r else (k,x)::putF f v r) from rfl];by_cases hk:k=f;rw[if_pos hk];subst hk;exact{by simp,λg h=>by simpa using h};rw[if_neg hk];refine{?_,λg h=>?_};rw[zI];exact zi _ i1;rw[zI]at h⊢;rcases zh.mp h with e|e;exact zh.mpr<|.inl e;exact zi _<|i2 g e
theorem pP(f:Str)(v:V):∀fs:List (Str×V),(putF f v fs).length<=fs.length+1|[]=>by simp[putF]| (k,x)::r=>by have ih:=pP f v r;rw[show putF f v ((k,x)::r)=(if k=f then (k,v)::r else (k,x)::putF f v r) from rfl];by_cases hk:k=f;rw[if_pos hk,zQ,zQ];lia;rw[if_neg hk,zQ,zQ];lia
theorem gu.some_of(r:gu (some v) o):∃u,o=some u/\RelV v u:=by cases o with|none=>exact(show False from r).elim|some u=>exact⟨u,rfl,r⟩
theorem gu.none_of(r:gu none o):o=none:=by cases o with|none=>rfl|some u=>exact(show False from r).elim
theorem Fv(r:RelV v u):handedIn u=true:=by cases v with|av=>(cases (show u=Value.none from r);rfl)|bl b=>(cases (show u=Value.bool b from r);rfl)|int i=>(obtain⟨t,e⟩:=(show ∃t,u=Value.int i t from r);cases e;rfl)|str x=>(obtain⟨t,e⟩:=(show ∃t,u=Value.str x t from r);cases e;rfl)|DR b=>(obtain⟨t,e⟩:=(show ∃t,u=Value.bytes b t from r);cases e;rfl)|OG b=>(obtain⟨t,e⟩:=(show ∃t,u=Value.float b t from r);cases e;rfl)|ref a=>(cases (show u=Value.ref a from r);rfl)|ty n=>cases (show u=Value.type n from r);rfl
section
variable{P:Program}{w:World}{H:Hp}{h:Heap}{a C dx:Addr}{fs:List (Str×V)}
theorem qU(aL:lR P w H h)(e:H a=some (.ins C dx fs)):∃mA,BG h a dx C mA/\(∀f,gu (fs.lookup f)<|mA f)/\PySem.Within mA (fs.map (·.1))/\fs.length<=1000/\H dx=some (.own a):=by obtain⟨d,z,ne,ob,mA,n,r,q⟩:=(show br P w H h a (.ins C dx fs) from aL a _ e);exact{mA,⟨ob,n,ne⟩,r,q,z,d}
end
structure qW(K:Frag)(C:Addr):Prop where
 pg:plainGet K C Str.empty=true
 hd:hasDictIn K C=true
 po:plainOver K C=true
 sa:findIn K (.ref C) "__setattr__"= some (some<|.builtin "object.__setattr__")
theorem qW.get{K:Frag}{C:Addr}(c:qW K C)(f:Str):plainGet K C f=true:=c.pg
def jB(K:Frag)(C:Addr)(f:Str):Prop:=findIn K (.ref C) f=some none
theorem jB.Tq{K:Frag}{C:Addr}{f:Str}(n:jB K C f):takerIn K C f=some none:=by unfold takerIn;rw[show findIn K (.ref C) f=some none from n];rfl
structure Con(K:Frag)(C:Addr)(f:Str)(v:V)(u:Value):Prop where
 at_:findIn K (.ref C) f=some (some u)
 rel:RelV v u
 get:specialIn K u "__get__"= some none
 cp:PySem.W.copiedNames.contains f=false
structure Meth(K:Frag)(C:Addr)(m:Str)(f:Addr):Prop where
 at_:findIn K (.ref C) m=some (some<|.ref f)
 fn:isFn K (.ref f)=true
 kp:keepIn K (.ref f)=true
section
variable{X:Cx}{pins:List (Addr×Obj)}{σ:St}{H:Hp}{s:Shared}{a C dx:Addr}{fs:List (Str×V)}{f:Str}{v:V}{A:Around}{E:Value->Shared->Prop}
theorem BH(I:Inv X pins σ H s)(e:H a=some (.ins C dx fs))(c:qW X.K C)(n:jB X.K C f)(l:fs.lookup f=some v) (h:∀u s',Inv X pins σ H s'->RelV v u->Q u s'):wpAny (model X.prog X.w) A (getAttr (.ref a) f b) Q E s:=by obtain⟨mA,O,r,_,_,_⟩:=qU I.aL e;obtain⟨u,hu,ru⟩:=gu.some_of (v:=v) (o:=mA f) (by rw[<-l];exact r f);exact get_map I.pN O (c.get f) c.hd n hu (Fv ru)<|h u _ (I.tok _) ru
theorem rO(I:Inv X pins σ H s)(e:H a=some (.ins C dx fs))(c:qW X.K C)(k:Meth X.K C m g)(l:fs.lookup m=none) (h:Q (.ref g,[.ref a]) s):wpAny (model X.prog X.w) A (getMethod (.ref a) m pl) Q E s:=by obtain⟨mA,O,r,_,_,_⟩:=qU I.aL e;have hn:mA m=none:=gu.none_of (by rw[<-l];exact r m);exact Hu I.pN O (c.get m) k.at_ k.fn hn h
theorem BI(I:Inv X pins σ H s)(e:H a=some (.ins C dx fs))(c:qW X.K C)(n:jB X.K C f)(hl:fs.length<1000)(ry:RelV y u) (h:∀s',Inv X pins σ (upd H a<|.ins C dx<|putF f y fs) s'->Q () s'):wpAny (model X.prog X.w) A (setAttr (.ref a) f u) Q E s:=by
 obtain⟨mA,O,r,wi,_,ho⟩:=qU I.aL e;have hz:(fs.map (·.1)).length<=sizeLine:=by rw[za,ye];lia
 refine K5 I.pN O c.sa c.po n.Tq c.hd wi hz λh' O' sb=>h _ ?_;have hd:∃o,h'.get? dx=some o:=by obtain⟨o,_,_,e',_⟩:=O'.ns;exact⟨o,e'⟩
 refine I.write (x:=a) (e:=dx) (by rw[e];exact True.intro) (.inr ho) (λb q hb z=>(sb.2 b hb).trans z) hd ?_;refine{by rw[aw O.ne];exact ho,?_,O.ne,O'.obj,_,O'.ns,λg=>?_,λg hg=>?_};have:=pP f y fs;lia;show gu ((putF f y fs).lookup g) (if g=f then some u else mA g);rw[pO];by_cases q:g=f;rw[if_pos q,if_pos q];exact ry;rw[if_neg q,if_neg q];exact r g;by_cases q:g=f;rw[q];exact(oj f y fs).1;refine(oj f y fs).2 g<|wi g λz=>hg ?_;show(if g=f then some u else mA g)=none;rw[if_neg q];exact z
theorem Inv.made(I:Inv X pins σ H s):Inv X pins σ (upd (upd H s.heap.objs.size<|.own<|s.heap.objs.size+1) (s.heap.objs.size+1)<|.ins C s.heap.objs.size []) {s with heap:=(s.heap.push emptyDict).push<|instObj C s.heap.objs.size}:=by
 have e1:(s.heap.push emptyDict).get? s.heap.objs.size=some emptyDict:=zj s.heap rfl;have e2:((s.heap.push emptyDict).push<|instObj C s.heap.objs.size).get? (s.heap.objs.size+1)=some (instObj C s.heap.objs.size):=by have:=zj (s.heap.push emptyDict) (o:=instObj C s.heap.objs.size) rfl;rwa [ya]at this
 have e3:(s.heap.push emptyDict).Ns s.heap.objs.size (λ_=>none):={emptyDict,#[],_,e1,rfl,(λe he=>absurd he<|by simp),λ_=>rfl};have I1:=I.laid (a:=s.heap.objs.size) (o:=.own<|s.heap.objs.size+1) (h':=s.heap.push emptyDict) (t':=s.toks) (λb u q=>zb _ q) (zr _) {_,e1};refine I1.laid (a:=s.heap.objs.size+1) (o:=.ins C s.heap.objs.size []) (t':=s.toks) (λb u q=>zb _ q) (Nat.le_of_eq<|ya _ _) ?_;have ne:s.heap.objs.size≠s.heap.objs.size+1:=zB<|Nat.lt_succ_self _;refine{by rw[aw ne,aF],zT _,ne,e2,λ_=>none,(Heap.Ns1.of_empty e3).at λo q=>zb _ q,λ_=>True.intro,λy hy=>absurd rfl hy}
theorem K6(hb:attributeBase e f env (eval e env)=eval e env) (h:wpAny (model prog w) A (eval e env) (λo aZ=>wpAny (model prog w) A (getAttr o f true) Q E aZ) E s):wpAny (model prog w) A (eval (.Attribute e f pos) env) Q E s:=Attribute_any_ h<|by rw[arm_eval_Attribute,hb]
end
def X3(K:Frag)(ta:TE)(f:Str):TE:=λσ H Q=>ta σ H λx H1=>∃a C dx fs v,x=.ref a/\H1 a=some (.ins C dx fs)/\qW K C/\jB K C f/\fs.lookup f=some v/\Q v H1
def X4(K:Frag)(ta tv:TE)(f:Str):TS:=λD σ H=>tv σ H λy H1=>ta σ H1 λx H2=>∃a C dx fs,x=.ref a/\H2 a=some (.ins C dx fs)/\qW K C/\jB K C f/\fs.length<1000/\D.nx σ (upd H2 a<|.ins C dx<|putF f y fs)
section
variable{X:Cx}{o e value:Expr}{f:Str}{pos pos':Pos}{ta tv:TE}
theorem Ph(he:PE X e ta)(hb:attributeBase e f X.env (eval e X.env)=eval e X.env):PE X (.Attribute e f pos) (X3 X.K ta f):=by intro pins s σ H Q I h;refine K6 hb<|bt (he pins s σ H _ I h) λu s1 ⟨x,H1,I1,rx,a,C,dx,fs,v,ex,ea,c,n,l,q⟩=>?_;subst ex;obtain rfl:u=Value.ref a:=rx;exact BH I1 ea c n l λu' s2 I2 ru=>⟨v,H1,I2,ru,q⟩
theorem Pj(ha:PE X o ta)(hv:PE X value tv)(hs:swapsWith value (some<|.Attribute o f pos') pos.line X.env=pure false):PS X (.Assign [.Attribute o f pos'] value pos) (X4 X.K ta tv f):=by intro pins s σ H D I h;refine plainObj_wpAny_Assign_Attribute (bt (hv pins s σ H _ I h) λu s1 ⟨y,H1,I1,ry,q⟩=>bt (ha pins s1 σ H1 _ I1 q) λov s2 ⟨x,H2,I2,rx,a,C,dx,fs,ex,ea,c,n,l,q2⟩=>?_) hs;subst ex;obtain rfl:ov=Value.ref a:=rx;exact BI I2 ea c n l ry λs3 I3=>{σ,_,I3,q2}
end
section
variable{X:Cx}{pins:List (Addr×Obj)}{σ:St}{H:Hp}{s:Shared}{A:Around}{E Q:Value->Shared->Prop}{c:Value}{b:Bool}
inductive om (K:Frag) (H:Hp):V->Value->Prop where
 |av:om K H .av (.type "NoneType")
 |bl (x:Bool):om K H (.bl x) (.type "bool")
 |int (i:Int):om K H (.int i) (.type "int")
 |str (x:Str):om K H (.str x) (.type "str")
 |OG (x:UInt64):om K H (.OG x) (.type "float")
 |lst {a:Addr}{xs:List V} (e:H a=some (.lst xs)):om K H (.ref a) (.type "list")
 |lQ {a:Addr}{o:Obj}{xs:List V} (e:H a=some (.lQ o<|.lst xs)):om K H (.ref a) (.type "list")
 |tup {a:Addr}{xs:List V} (e:H a=some (.tup xs)):om K H (.ref a) (.type "tuple")
 |dK {a:Addr}{kvs:List<|Key×V} (e:H a=some (.dK kvs)):om K H (.ref a) (.type "dict")
 |dT {a:Addr}{kvs:List<|List Key×V} (e:H a=some (.dT kvs)):om K H (.ref a) (.type "dict")
 |ins {a C dx:Addr}{fs:List<|Str×V} (e:H a=some (.ins C dx fs)) (cl:qW K C) (ha:findIn K (.ref C) "__class__"= some (some<|.builtin "object.__class__"))
   (hn:specialIn K (.builtin "object.__class__") "__get__"= some (some<|.builtin "getset_descriptor.__get__")) (htk:PySem.W.takesIn K (.builtin "object.__class__")=some true)
   (hm:mroIn K C (.type "object")=some true):om K H (.ref a) (.ref C)
theorem Fw{u t:Value}(I:Inv X pins σ H s)(rx:RelV x u)(ty:om X.K H x t)(e:kitOne X.K t c=some b)(h:∀tk,Q (.bool b) {s with toks:=tk}): wpAny (model X.prog X.w) A (call (.builtin "isinstance") [u,c]) Q E s:=by cases ty with|av=>(cases (show u=Value.none from rx);exact kia_one PySem.W.kitx_none I.pN True.intro e (λz=>nomatch z) h)|bl y=>(cases (show u=Value.bool y from rx);exact kia_one PySem.W.kitx_bool I.pN True.intro e (λz=>nomatch z) h)|int i=>(obtain⟨t,q⟩:=(show ∃t,u=Value.int i t from rx);cases q;exact kia_one PySem.W.kitx_int I.pN True.intro e (λz=>nomatch z) h)|str y=>(obtain⟨t,q⟩:=(show ∃t,u=Value.str y t from rx);cases q;exact kia_one PySem.W.kitx_str I.pN True.intro e (λz=>nomatch z) h)|OG y=>(obtain⟨t,q⟩:=(show ∃t,u=Value.float y t from rx);cases q;exact kia_one PySem.W.kitx_float I.pN True.intro e (λz=>nomatch z) h)|@lst a xs ea=>(cases (show u=Value.ref a from rx);obtain⟨_,_,n,_,h1⟩:=(show br X.prog X.w H s.heap a (.lst xs) from I.aL a _ ea);exact kia_one kitx_list I.pN {_,h1,rfl} e (λz=>nomatch z) h)|@lQ a ob xs ea=>(cases (show u=Value.ref a from rx);obtain⟨_,_,_,n,_,h1⟩:=(show br X.prog X.w H s.heap a (.lQ ob<|.lst xs) from I.aL a _ ea);exact kia_one kitx_list I.pN {_,h1,rfl} e (λz=>nomatch z) h)|@tup a xs ea=>(cases (show u=Value.ref a from rx);obtain⟨_,_,_,p⟩:=(show br X.prog X.w H s.heap a (.tup xs) from I.aL a _ ea);obtain⟨o,h1,h2,_⟩:=p;exact kia_one PySem.W.kitx_tuple I.pN ⟨o,h1,h2⟩ e (λz=>nomatch z) h)|@dK a kvs ea=>(cases (show u=Value.ref a from rx);obtain⟨_,_,vs,_,p⟩:=(show br X.prog X.w H s.heap a (.dK kvs) from I.aL a _ ea);obtain⟨o,es,ep,h1,h2,_⟩:=p;exact kia_one PySem.W.kitx_dict I.pN ⟨o,h1,h2.1⟩ e (λz=>nomatch z) h)|@dT a kvs ea=>exact False.elim (show br X.prog X.w H s.heap a (.dT kvs) from I.aL a _ ea)|@ins a C dx fs ea cl ha hn htk hm=>cases (show u=Value.ref a from rx);obtain⟨mA,O,_⟩:=qU I.aL ea;obtain⟨od,J,_⟩:=O.look;exact kia_one (PySem.W.kitx_own (cl.get _) cl.hd ha hn htk hm) I.pN J e (λz=>nomatch z) h
end
structure bW(k:Nat)(A:Around):Prop where
 hd:A.handled=none
 dp:A.depth+3*k+5<recursionLimit
 un:A.units+16*k+200<cLine
theorem bW.mono(r:bW k A)(h:j<=k):bW j A:={r.hd,by have:=r.dp;lia,by have:=r.un;lia}
theorem bW.deeper(r:bW (k+1) A)(env:Env):bW k (A.deeper env):={r.hd,by have:=r.dp;show A.depth+1+3*k+5<_;lia,by have:=r.un;show A.units+3+16*k+200<_;lia}
theorem bW.in1(r:bW (k+1) A):bW k A.in1:={r.hd,by have:=r.dp;show A.depth+3*k+5<_;lia,by have:=r.un;show A.units+1+16*k+200<_;lia}
theorem BJ{A:Around}{C:Addr}{us:List Value}{kw:List<|Str×Value} : (A.under<|.builtin "type.__call__" {.ref C::us,kw}).depth=A.depth+1:=by first|rfl|simp[Around.under,Code.weight,Code.isCreation,Code.isGuard,Code.isCaller,Code.frames,Code.isFrame,guardIds]
theorem BK{A:Around}{C:Addr}{us:List Value}{kw:List<|Str×Value} : (A.under<|.builtin "type.__call__" {.ref C::us,kw}).units=A.units+1:=by first|rfl|simp[Around.under,Code.cUnits,Code.frames,Code.isFrame]
theorem bW.make(r:bW (k+1) A)(C:Addr)(us:List Value)(kw:List<|Str×Value):bW k (A.under<|.builtin "type.__call__" {.ref C::us,kw}):={r.hd,by have:=r.dp;rw[BJ];lia,by have:=r.un;rw[BK];lia}
theorem bW.depth(r:bW k A):A.depth<recursionLimit:=by have:=r.dp;lia
theorem bW.units(r:bW k A):A.units+64<cLine:=by have:=r.un;lia
def X6:TA:=λ_ H Q=>Q [] H
def Np(ta:TE)(tr:TA):TA:=λσ H Q=>ta σ H λx H1=>tr σ H1 λxs H2=>Q (x::xs) H2
section
variable{X:Cx}{e:Expr}{es:List Expr}{te:TE}{t:TA}{pos:Pos}
theorem BL:PA X [] X6:=λ_ _ _ _ H Q I h=>Calls.spliced_nil {[],H,I,.nil,h}
theorem K7(ha:PE X e te)(hr:PA X es t)(hs:autoParam (starEach (e::es) X.env=(false,eval e X.env)::starEach es X.env) qQJ):PA X (e::es) (Np te t):=by intro pos pins s σ H Q I h;rw[hs];show wpAny _ _ (spliced<|(false,eval e X.env)::backTo pos (starEach es X.env)) _ _ s;refine yE<|bt (ha pins s σ H _ I h) λu s1 ⟨x,H1,I1,r1,q1⟩=>?_;exact bt (hr pos pins s1 σ H1 _ I1 q1) <| by rintro us s2 ⟨xs,H2,I2,r2,q2⟩;exact{x::xs,H2,I2,.cons r1 r2,q2}
def X7(t:TA):TE:=λσ H Q=>t σ H λxs H1=>xs.length<=sizeLine/\∀p,H1 p=none->Q (.ref p) (upd H1 p<|.tup xs)
def X8(t:TA):TE:=λσ H Q=>t σ H λxs H1=>xs.length<=sizeLine/\∀p,H1 p=none->Q (.ref p) (upd H1 p<|.lst xs)
theorem Pk{x1}(h:PA X es t):PE X (.Tuple es x1 pos) (X7 t):=by intro pins s σ H Q I hq;refine wpAny_Tuple_spliced<|bt (h pos pins s σ H _ I hq) λus s1 ⟨xs,H1,I1,r,z,q⟩=>{by rw[<-r.length];exact z,?_};have hf:H1 s1.heap.objs.size=none:=I1.aL.fresh<|zr _;refine{.ref s1.heap.objs.size,upd H1 s1.heap.objs.size<|.tup xs,I1.laid (t':=s1.toks) (λb u e=>zb _ e) (zr _) ?_,rfl,q _ hf};exact{z,us,r,{_,zj _ rfl,rfl,rfl,_,rfl}}
theorem Pl(h:PA X es t):PE X (.List es pos) (X8 t):=by intro pins s σ H Q I hq;refine wpAny_List_spliced<|bt (h pos pins s σ H _ I hq) λus s1 ⟨xs,H1,I1,r,z,q⟩=>{by rw[<-r.length];exact z,?_};have hf:H1 s1.heap.objs.size=none:=I1.aL.fresh<|zr _;refine{.ref s1.heap.objs.size,upd H1 s1.heap.objs.size<|.lst xs,I1.laid (t':=s1.toks) (λb u e=>zb _ e) (zr _) ?_,rfl,q _ hf};exact{z,us,0,r,zj _ rfl}
end
abbrev Sp:=List V->Hp->VK->XK->Prop
abbrev BM:=List Env->Hp->Shared->XK->Value->Shared->Prop
structure x9(P:Program)(w:World)(K:Frag)(mg:Str->Option Value)(base:Heap)(A:Around)(outer:List Env)(s:Shared)(H:Hp):Prop where
 frames:A.frames=some outer
 mod:Mod K mg base
 bs:∀b o,base.get? b=some o->s.heap.get? b=some o/\H b=none
 KJ:base.objs.size<=s.heap.objs.size
 qy:s.heap.FunFrames base outer
 OJ:∀b∈og outer,H b=none
 aL:lR P w H s.heap
 bare:AllBare s.gens
def CE(outer:List Env)(P:Program)(w:World)(H:Hp)(s:Shared)(Q:VK)(u:Value)(s':Shared):Prop:=∃v H',s'.os=s.os/\AllBare s'.gens/\Un (og outer) [] H H' s.heap s'.heap/\lR P w H' s'.heap/\RelV v u/\Q v H'
def CR(CX:BM)(outer:List Env)(P:Program)(w:World)(H:Hp)(s:Shared)(Q:VK)(E:XK)(r:Result)(s':Shared):Prop:=match r with|.ok (.ret u)=>CE outer P w H s Q u s'|.ok _=>False|.error e=>CX outer H s E e s'
structure bI(P:Program)(w:World)(K:Frag)(mg:Str->Option Value)(base:Heap)(CX:BM)(k:Nat)(f:Addr)(fd:FuncData)(ps:List Str)(sp:Sp):Prop where
 len:∀vs H Q E,sp vs H Q E->vs.length=ps.length
 run:∀(A:Around)(outer:List Env)(s:Shared)(H:Hp)(args:Args)(us:List Value)(vs:List V)(Q:VK)(E:XK),bW k A->x9 P w K mg base A outer s H->BindsTo s fd args (ps.zip us)->Vals vs us->sp vs H Q E ->
  codeAny (model P w) A (.call (.ref f) args) (CR CX outer P w H s Q E) s
theorem bI.mono{P:Program}{w:World}{K:Frag}{mg:Str->Option Value}{base:Heap}{CX:BM}{j k:Nat}{f:Addr}{fd:FuncData}{ps:List Str}{sp:Sp}(F:bI P w K mg base CX j f fd ps sp)(h:j<=k): bI P w K mg base CX k f fd ps sp:={F.len,λA outer s H args us vs Q E hr=>F.run A outer s H args us vs Q E<|hr.mono h}
theorem bI.imp{P:Program}{w:World}{K:Frag}{mg:Str->Option Value}{base:Heap}{CX:BM}{k:Nat}{f:Addr}{fd:FuncData}{ps:List Str}{sp WD:Sp}(F:bI P w K mg base CX k f fd ps sp) (h:∀vs H Q E,WD vs H Q E->sp vs H Q E):bI P w K mg base CX k f fd ps WD:={λvs H Q E q=>F.len vs H Q E<|h _ _ _ _ q,λA outer s H args us vs Q E hr he hb hv hs=>F.run A outer s H args us vs Q E hr he hb hv<|h _ _ _ _ hs}
theorem x9.make{P:Program}{w:World}{K:Frag}{mg:Str->Option Value}{base:Heap}{A:Around}{outer:List Env}{s:Shared}{H:Hp}(e:x9 P w K mg base A outer s H)(C:Addr)(us:List Value)(kw:List<|Str×Value): x9 P w K mg base (A.under<|.builtin "type.__call__" {.ref C::us,kw}) outer s H:={by first|exact e.frames|(simpa [Around.under,Code.envs,Code.isFrame,pushEnvs]using e.frames),e.mod,e.bs,e.KJ,e.qy,e.OJ,e.aL,e.bare}
section
variable{X:Cx}{pins:List (Addr×Obj)}{σ:St}{H:Hp}{s s':Shared}
theorem Inv.Tr(I:Inv X pins σ H s):x9 X.prog X.w X.K X.mg X.base X.A X.stack s H:={I.ok.frames,I.ok.mod,I.bs,zK I.ok.KJ I.sz,I.stack,I.qP,I.aL,I.bare}
theorem Inv.after(I:Inv X pins σ H s)(h:CE X.stack X.prog X.w H s Q u s'):EP X pins σ Q u s':=by obtain⟨v,H',os,bare,un,aL,r,q⟩:=h;obtain⟨hh,g,d,t,Ts⟩:=s';obtain rfl:Ts=s.os:=os;exact{v,H',I.call (h':=hh) (g':=g) (d':=d) (t':=t) (ch:=[]) un aL bare λb z=>absurd z<|by simp,r,q}
end
def Binds(K:Frag)(fd:FuncData)(ps:List Str)(ds:List Value):Prop:=∀(s:Shared)(us:List Value),K.In s.heap->(us++ds).length=ps.length->BindsTo s fd {us,[]} (ps.zip<|us++ds)
theorem Binds.all{K:Frag}{fd:FuncData}{ps:List Str}(h:∀us:List Value,us.length=ps.length->bindArgs fd {us,[]}=pure (ps.zip us)):Binds K fd ps []:=λs us _ hl=>by rw[List.append_nil]at hl⊢;exact .of_eq<|h us hl
def Passes(CX:BM)(X:Cx)(E:XK):Prop:=∀(pins:List (Addr×Obj))(σ:St)(H:Hp)(s:Shared)(e:Value)(s':Shared),Inv X pins σ H s->CX X.stack H s E e s'->X.xe e s'
section
variable{f C:Addr}
structure Mk(K:Frag)(C f:Addr):Prop where
 makes:makesIn K C=true
 init:findIn K (.ref C) "__init__"= some (some<|.ref f)
 fn:isFn K (.ref f)=true
 kp:keepIn K (.ref C)=true
end
section
variable{fd:FuncData}{ps ks:List Str}
structure X9(K:Frag)(fd:FuncData)(ps ks:List Str)(g:List Value->List Value->List Value)(gV:List V->List V->List V):Prop where
 to:∀(s:Shared)(us ws:List Value),K.In s.heap->(g us ws).length=ps.length->BindsTo s fd {us,ks.zip ws} (ps.zip<|g us ws)
 rel:∀{vs:List V}{us:List Value}{zs:List V}{ws:List Value},Vals vs us->Vals zs ws->Vals (gV vs zs) (g us ws)
variable{g:List Value->List Value->List Value}{gV:List V->List V->List V}
end
structure gx(N P:List Str)(sc:Scope):Prop where
 kind:sc.kind=.function
 co:sc.isCoroutine=false
 gen:sc.isGenerator=false
 nd:N.Nodup
 pre:N.take P.length=P
 par:∀x∈P,sc.names.lookup x=some .local\/sc.names.lookup x=some .cell
 Pm:∀y∈sc.names,y.2≠.free
theorem uU{kindOf:Str->Option NameKind}{x:Str} : ∀{binds:List (Str×Value)}{m:Str->Option Value},(∀v,(x,v)∉binds)->bindL kindOf binds m x=m x
 |[],_,_=>rfl
 | (n,v)::r,m,h=>by
  unfold bindL;rw[uU λw hw=>h w<|zi _ hw];split;have:x≠n:=by rintro rfl;exact h v zo
  simp[this];rfl
theorem uV{kindOf:Str->Option NameKind}{x:Str} : ∀{binds:List (Str×Value)}{m:Str->Option Value},(∀v,(x,v)∉binds)->bindC kindOf binds m x=m x
 |[],_,_=>rfl
 | (n,v)::r,m,h=>by
  unfold bindC;rw[uV λw hw=>h w<|zi _ hw];split;rfl;have:x≠n:=by rintro rfl;exact h v zo
  simp[this]
theorem uW{kindOf:Str->Option NameKind}{x:Str}{v:Value} : ∀{P:List Str}{vs:List Value}{i:Nat}{m:Str->Option Value},P.Nodup->P[i]?=some x->vs[i]?=some v->kindOf x=some .local->bindL kindOf (P.zip vs) m x=some v|[],_,_,_,_,h,_,_=>by simp at h|_::_,[],_,_,_,_,h,_=>by simp at h|p::P,w::vs,0,m,nd,h1,h2,hk=>by simp at h1 h2;subst h1;subst h2;show bindL kindOf ((p,w)::P.zip vs) m p=_;unfold bindL;rw[uU λv hv=>(yo.mp nd).1 (List.of_mem_zip hv).1,if_pos hk];simp|p::P,w::vs,i+1,m,nd,h1,h2,hk=>by show bindL kindOf ((p,w)::P.zip vs) m x=_;unfold bindL;exact uW (i:=i) (yo.mp nd).2 (by simpa using h1) (by simpa using h2) hk
theorem uX{kindOf:Str->Option NameKind}{x:Str}{v:Value} : ∀{P:List Str}{vs:List Value}{i:Nat}{m:Str->Option Value},P.Nodup->P[i]?=some x->vs[i]?=some v->kindOf x≠some .local->bindC kindOf (P.zip vs) m x=some v|[],_,_,_,_,h,_,_=>by simp at h|_::_,[],_,_,_,_,h,_=>by simp at h|p::P,w::vs,0,m,nd,h1,h2,hk=>by simp at h1 h2;subst h1;subst h2;show bindC kindOf ((p,w)::P.zip vs) m p=_;unfold bindC;rw[uV λv hv=>(yo.mp nd).1 (List.of_mem_zip hv).1,if_neg hk];simp|p::P,w::vs,i+1,m,nd,h1,h2,hk=>by show bindC kindOf ((p,w)::P.zip vs) m x=_;unfold bindC;exact uX (i:=i) (yo.mp nd).2 (by simpa using h1) (by simpa using h2) hk
def start(N:List Str)(vs:List V):St:=vs.map some++List.replicate (N.length-vs.length) none
def kM(CX:BM)(P:Program)(w:World)(K:Frag)(mg:Str->Option Value)(base:Heap)(N:List Str)(qual:Str)(scope:Scope)(f:Addr)(cd:Value)(A:Around)(outer:List Env)(s:Shared)(H:Hp)(E:XK):Cx where
 prog:=P
 w:=w
 K:=K
 mg:=mg
 base:=base
 A:=A.deeper<|envOfC qual scope s.heap.objs.size f cd
 N:=N
 dF:=s
 vX:=H
 env:=envOfC qual scope s.heap.objs.size f cd
 outer:=outer
 stack:=envOfC qual scope s.heap.objs.size f cd::outer
 ex:=[]
 calm:=true
 fn:=λ_=>true
 pn:=[]
 xe:=λe s'=>wpAny (model P w) (A.deeper<|envOfC qual scope s.heap.objs.size f cd) (leaving (envOfC qual scope s.heap.objs.size f cd) e) (λ_ BN=>CX outer H s E e BN) (λe' BN=>CX outer H s E e' BN) s'
theorem x_{sc:Scope}{n:Nat}{x:Str}(h:sc.names.lookup x=some .cell):∃c,(cellsFrom n sc.names []).lookup x=some c:=by have q:=PySem.W.cellsFrom_some sc.names n []<|.inl h;exact Option.isSome_iff_exists.mp q
theorem Fx{CX:BM}{P:Program}{w:World}{K:Frag}{mg:Str->Option Value}{base:Heap}{N ps:List Str}{qual:Str}{scope:Scope}{f:Addr}{cd:Value}{A:Around}{outer:List Env}{s s1:Shared}{H:Hp}{E:XK}{us:List Value}{vs:List V} (S:gx N ps scope) (hd:A.handled=none) (e0:x9 P w K mg base A outer s H) (hl:vs.length=ps.length) (r:Vals vs us) (x:InCallC s s.heap.objs.size (bindL (envOfC qual scope s.heap.objs.size f cd).kindOf (ps.zip us) λ_=>none) (cellsFrom (s.heap.objs.size+1) scope.names []) (bindC (envOfC qual scope s.heap.objs.size f cd).kindOf (ps.zip us) λ_=>none) s1): Inv (kM CX P w K mg base N qual scope f cd A outer s H E) [] (start N vs) H s1:=by
 have dN:ps.length<=N.length:=by have:=congrArg List.length S.pre;rw[ym]at this;lia
 obtain⟨h1,tk,rfl,hk⟩:=x.done;have K8:∀b:Addr,b∉(kM CX P w K mg base N qual scope f cd A outer s H E).ex:=λb z=>absurd (show b∈([]:List Addr) from z) (by simp);refine{{e0.mod,S.kind,rfl,rfl,zr _,λy z c h1 h2=>?_,λy hy=>?_,λy c _ h=>?_,λ_=>hd,Around.frames_deeper e0.frames,.inr ⟨rfl,rfl⟩,λb z=>absurd z<|K8 b,e0.bs,e0.KJ,λb _ _=>K8 b,λb z=>absurd z<|K8 b,e0.qy,e0.OJ},rfl,e0.bare,Un.kept hk,{_,x.toInCall.ns,λi y v h1 h2 h3=>?_},λy c h=>{_,x.cell y c h},e0.aL.fresh<|zr _,λy c h=>?_,λp hp=>absurd (show p∈([]:List (Addr×Obj)) from hp)<|by simp,e0.aL.kept hk,?_};exact name_of_addr x.apart (yh h1)<|yh h2;have hy:scope.names.lookup y=some .cell\/scope.names.lookup y=some .free:=hy;rcases hy with hy|hy;exact x_ hy;exact absurd rfl<|S.Pm _<|yh hy;exact yw<|x.above y c<|yh h;have hi:i<vs.length:=by unfold start at h2;by_cases hi:i<vs.length;exact hi;rw[List.getElem?_append_right<|by simpa using hi]at h2;rw[List.getElem?_replicate]at h2;split at h2<;>cases h2
 have ha:vs[i]?=some v:=by unfold start at h2;rw[List.getElem?_append_left<|by simpa using hi,zk]at h2;cases e:vs[i]? with|none=>(rw[e]at h2;cases h2)|some a=>rw[e]at h2;cases h2;rfl
 obtain⟨u,hu,rv⟩:=r.get ha;have hp:ps[i]?=some y:=by rw[<-S.pre,List.getElem?_take_of_lt<|by lia];exact h1
 have ndP:ps.Nodup:=by rw[<-S.pre];exact S.nd.sublist<|List.take_sublist _ _
 refine{u,rv,?_};rcases S.par y (zy hp) with k|k;exact .inl {k,uW ndP hp hu k};obtain⟨c,e⟩:=x_ (n:=s.heap.objs.size+1) k;refine .inr {.inl k,c,e,?_};have q:=x.cell y c e;rw[uX ndP hp hu<|by show scope.names.lookup y≠_;rw[k];decide]at q;exact q;exact e0.aL.fresh<|yw<|x.above y c<|yh h;unfold start;show _=N.length;rw[zt,za,List.length_replicate];lia
theorem Nq{CX:BM}{P:Program}{w:World}{K:Frag}{mg:Str->Option Value}{base:Heap}{k:Nat}{f:Addr}{name qual:Str}{params:Arguments}{body:List Stmt}{scope:Scope}{dV kV doc pm g_ ct oc:Value}{an od:Option Addr} {Pn:Array<|Option Value}{N ps:List Str}{sp:Sp} (lk:K.lookup f=some {oc,od,.func<|fnOf name qual params body scope dV kV doc pm an g_ ct,Pn}) (t9:codeIn K g_ qual=true) (S:gx N ps scope) (len:∀vs H Q E,sp vs H Q E->vs.length=ps.length) (mI:∀(A:Around)(outer:List Env)(s:Shared)(H:Hp)(vs:List V)(Q:VK)(E:XK),bW k (A.deeper<|envOfC qual scope s.heap.objs.size f g_)->sp vs H Q E->∃t,DU (kM CX P w K mg base N qual scope f g_ A outer s H E) body t/\t {nx:=λ_ H'=>Q .av H',rt:=Q} (start N vs) H): bI P w K mg base CX (k+1) f (fnOf name qual params body scope dV kV doc pm an g_ ct) ps sp:=by
 refine{len,λA outer s H args us vs Q E hr e0 hb r RM=>?_};have hl:=len _ _ _ _ RM;have KX:K.In s.heap:=e0.mod.RK.keeps λb o e=>(e0.bs b o e).1;have lim:s.heap.NoLimit:=e0.mod.nolimit.keeps λb o e=>(e0.bs b o e).1;have Tu:∀y∈ps.zip us,scope.names.lookup y.1=some .local\/(scope.names.lookup y.1=some .cell/\((cellsFrom (s.heap.objs.size+1) scope.names []).lookup y.1).isSome=true):=by rintro⟨n,v⟩ hy;rcases S.par n (List.of_mem_zip hy).1 with q|q;exact .inl q;exact .inr {q,PySem.W.cellsFrom_some _ _ _<|.inl q}
 refine codeAny_call_function hr.depth (KX _ _ lk) rfl S.co S.gen rfl (PySem.W.codeRec_of KX t9)<|hb _ _ _ _ ?_;refine wpAny_newFunctionEnv_cells S.kind Tu λenv he s1 x=>?_;subst he;refine{lim.keeps x.toInCall.keep,codeAny_func ?_};obtain⟨t,ht,hq⟩:=mI A outer s H vs Q E (hr.deeper _) RM;have I:Inv (kM CX P w K mg base N qual scope f g_ A outer s H E) [] (start N vs) H s1:=Fx S hr.hd e0 hl r x;refine yF (ht [] s1 (start N vs) H _ I hq) (λfl s' hs=>?_) λe s' hs=>hs;have fin:∀{aI:St}{H':Hp}{v:V}{u:Value},Inv (kM CX P w K mg base N qual scope f g_ A outer s H E) [] aI H' s'->RelV v u->Q v H'->CE outer P w H s Q u s':=λ{aI H' v u} J rv q=>⟨v,H',J.os,J.bare,J.base,J.aL,rv,q⟩;cases fl with|ret u=>(obtain⟨v,aI,H',J,rv,q⟩:=hs;exact fin J rv q)|next=>(obtain⟨aI,H',J,q⟩:=hs;exact fin (v:=V.av) (u:=Value.none) J rfl q)|brk=>(obtain⟨_,_,_,q⟩:=hs;exact False.elim q)|cont=>obtain⟨_,_,_,q⟩:=hs;exact False.elim q
section
variable{X:Cx}{x:Str}{p pos:Pos}{e:Expr}{es:List Expr}{t:TA}{id T:String}{r:List V->Hp->VK->Prop}
def X_(r:List V->Hp->VK->Prop)(t:TA):TE:=λσ H Q=>t σ H λvs H1=>r vs H1 Q
theorem yW(hc:fe X (.builtin id) r)(hg:Gl X x)(hm:X.mg x=none)(hv:bootBuiltins x=some (.builtin id))(ha:PA X (e::es) t)(hn:autoParam (x≠"__name__") qQZ)(qB:autoParam ((x==("__debug__": Str))=false) qQZ) (he:autoParam (starEach (e::es) X.env=(false,eval e X.env)::starEach es X.env) qQJ) (dN:autoParam ((backTo pos<|starEach es X.env).any (·.1)=false) qQJ):PE X (.Call (.Name x p) (e::es) [] pos) (X_ r t):=by intro pins s σ H Q I h;refine wpAny_Call_Name_kw<|gN I hg hm hv ?_ hn qB;exact PyProof.Rows.callWith_builtin1 (bt (ha pos pins s σ H _ I h) <| by rintro us s1 ⟨vs,H1,I1,r1,q1⟩;exact hc pins s1 σ H1 vs us Q I1 r1 q1) he dN
theorem uY(hc:fe X (.type T) r)(hg:Gl X x)(hm:X.mg x=none)(hv:bootBuiltins x=some (.type T))(ha:PA X (e::es) t)(hn:autoParam (x≠"__name__") qQZ)(qB:autoParam ((x==("__debug__": Str))=false) qQZ) (he:autoParam (starEach (e::es) X.env=(false,eval e X.env)::starEach es X.env) qQJ) (dN:autoParam ((backTo pos<|starEach es X.env).any (·.1)=false) qQJ):PE X (.Call (.Name x p) (e::es) [] pos) (X_ r t):=by intro pins s σ H Q I h;refine wpAny_Call_Name_kw<|gN I hg hm hv ?_ hn qB;exact PyProof.Rows.callWith_type1 (bt (ha pos pins s σ H _ I h) <| by rintro us s1 ⟨vs,H1,I1,r1,q1⟩;exact hc pins s1 σ H1 vs us Q I1 r1 q1) he dN
end
end L2
namespace HT
open PySem PyProof.Rows
section
noncomputable def sIx(n d:Nat):Option Int->Nat|none=>d|some v=>if v<0 then (v+(n:Int)).toNat else min v.toNat n
theorem sIx_none(n d:Nat):sIx n d none=d:=rfl
theorem sIx_nat(n d k:Nat):sIx n d (some (k:Int))=min k n:=by show(if (k:Int)<0 then ((k:Int)+(n:Int)).toNat else min (k:Int).toNat n)=min k n;rw[if_neg<|by lia,Int.toNat_natCast]
end
end HT
namespace L2
open PySem PySem.Spec PyProof.Rows
abbrev TO:=St->Hp->(Option Int->Hp->Prop)->Prop
def PO(X:Cx)(e:Option Expr)(t:TO):Prop:=∀(pins:List (Addr×Obj))(s:Shared)(σ:St)(H:Hp)(Q:Option Int->Hp->Prop),Inv X pins σ H s->t σ H Q->wpAny (model X.prog X.w) X.A (evalPart e X.env) (λu s'=>∃o H',Inv X pins σ H' s'/\IsPart u o/\Q o H') X.xe s
def K9:TO:=λ_ H Q=>Q none H
def Tv(t:TE):TO:=λσ H Q=>t σ H λx H1=>∃i,x=.int i/\Q (some i) H1
section
variable{X:Cx}{e:Expr}{te:TE}{lo hi:Option Expr}{tl th:TO}{pos p2:Pos}
theorem K_:PO X none K9:=by intro pins s σ H Q I h;rw[evalPart_none];exact zA {none,H,I,.none,h}
theorem La(h:PE X e te):PO X (some e) (Tv te):=by intro pins s σ H Q I hw;rw[evalPart_some];refine bt (h pins s σ H _ I hw) λu s1 ⟨x,H1,I1,r1,q1⟩=>?_;obtain⟨i,rfl,q⟩:=q1;obtain⟨t,rfl⟩:=r1;exact{some i,H1,I1,.int i t,q}
def Ya(X:Cx)(r:V->Option Int->Option Int->Hp->VK->Prop):Prop:=∀(pins:List (Addr×Obj))(s:Shared)(σ:St)(H:Hp)(x:V)(v vl vu:Value)(lo hi:Option Int)(sl:Addr)(Q:VK),Inv X pins σ H s->RelV x v->s.heap.IsSliceOf sl vl vu .none->IsPart vl lo->IsPart vu hi->r x lo hi H Q->∃T id,typeLookup (.type T) "__getitem__"= pure (some<|.builtin id)/\s.TypeIs v T/\wpAny (model X.prog X.w) X.A (getItem v<|.ref sl) (EP X pins σ Q) X.xe s
def tSl(r:V->Option Int->Option Int->Hp->VK->Prop)(te:TE)(tl th:TO):TE:=λσ H Q=>te σ H λx H1=>tl σ H1 λl H2=>th σ H2 λu H3=>r x l u H3 Q
theorem Hw{r:V->Option Int->Option Int->Hp->VK->Prop}(hr:Ya X r)(he:PE X e te)(hl:PO X lo tl)(hu:PO X hi th):PE X (.Subscript e (.Slice lo hi none p2) pos) (tSl r te tl th):=by intro pins s σ H Q I h;refine Subscript_<|bt (he pins s σ H _ I h) λv s1 ⟨x,H1,I1,r1,q1⟩=>?_;refine wpAny_Slice<|bt (hl pins s1 σ H1 _ I1 q1) λvl s2 ⟨l,H2,I2,pl,q2⟩=>bt (hu pins s2 σ H2 _ I2 q2) λvu s3 ⟨u,H3,I3,pu,q3⟩=>?_;rw[evalPart_none];refine zA ?_;have I4:Inv X pins σ H3 {s3 with heap:=s3.heap.push {cls:=.type "slice",data:=.fields #[vl,vu,.none]}}:=I3.kept (t':=s3.toks) λb ob q=>zb _ q;obtain⟨T,id,hT,ht,hg⟩:=hr pins {s3 with heap:=s3.heap.push {cls:=.type "slice",data:=.fields #[vl,vu,.none]}} σ H3 x v vl vu l u s3.heap.objs.size Q I4 r1 (Heap.IsSliceOf.new ..) pl pu q3;show wpAny (model X.prog X.w) X.A (subscriptTail e (.Slice lo hi none p2) v<|.ref s3.heap.objs.size) (EP X pins σ Q) X.xe {s3 with heap:=s3.heap.push {cls:=.type "slice",data:=.fields #[vl,vu,.none]}};exact tail_any (ops:=[.ref s3.heap.objs.size,v]) ht hT hg<|by with_unfolding_all rfl
noncomputable def Fy(xs:List V)(lo hi:Option Int):List V:=(xs.drop<|HT.sIx xs.length 0 lo).take<|HT.sIx xs.length xs.length hi-HT.sIx xs.length 0 lo
theorem yX(xs:List V)(lo hi:Option Int):(Fy xs lo hi).length<=xs.length:=by unfold Fy;rw[ym,yJ];lia
end
noncomputable def Hx(n:Nat)(i:Int):Option Nat:=if 0<=i then (if i<n then some i.toNat else none) else if -(n:Int)<=i then some (i+n).toNat else none
noncomputable def mD{α:Type}(xs:List α)(i:Int):Option α:=(Hx xs.length i).bind λj=>xs[j]?
theorem D8(h:Hx n i=some j):seqIndex? i n=some j/\j<n/\-(n:Int)<=i/\i<n:=by unfold Hx at h;by_cases h0:0<=i;rw[if_pos h0]at h;by_cases h1:i<n;rw[if_pos h1]at h;have e:i.toNat=j:=zR h;exact{by rw[seqIndex_of h0 h1,e],by lia,by lia,h1};rw[if_neg h1]at h;cases h;rw[if_neg h0]at h;by_cases h1:-(n:Int)<=i;rw[if_pos h1]at h;have e:(i+n).toNat=j:=zR h;exact{by rw[seqIndex_neg (by lia) h1,e],by lia,h1,by lia};rw[if_neg h1]at h;cases h
theorem vZ(h:mD xs i=some v):∃j,seqIndex? i xs.length=some j/\xs[j]?=some v/\j<xs.length/\-(xs.length:Int)<=i/\i<xs.length:=by unfold mD at h;cases e:Hx xs.length i with|none=>(rw[e]at h;cases h)|some j=>rw[e]at h;obtain⟨h1,h2,h3,h4⟩:=D8 e;exact⟨j,h1,h,h2,h3,h4⟩
theorem dy{α:Type}{xs:List α}{j:Nat}{v:α}(h:xs[j]?=some v):mD xs (j:Int)=some v:=by
 have hj:j<xs.length:=(ze.mp h).1;have e:Hx xs.length (j:Int)=some j:=by unfold Hx;rw[if_pos<|by lia,if_pos<|by lia];simp
 unfold mD;rw[e];exact h
def D9(b:Expr):Prop:=∀o i,subscripted b false o i=operate [o,i] (getItem o i)
def Tw(X:Cx)(r:R2):Prop:=∀(value slice:Expr)(pins:List (Addr×Obj))(s:Shared)(σ:St)(H:Hp)(x y:V)(v u:Value)(Q:VK),Inv X pins σ H s->RelV x v->RelV y u->r x y H Q->subscripted slice false v u=operate [v,u] (getItem v u)->wpAny (model X.prog X.w) X.A (subscriptTail value slice v u) (EP X pins σ Q) X.xe s
def RN(X:Cx)(id:String)(r:V->List V->Hp->VK->Prop):Prop:=∀(pins:List (Addr×Obj))(s:Shared)(σ:St)(H:Hp)(x:V)(xs:List V)(v:Value)(us:List Value)(Q:VK),Inv X pins σ H s->RelV x v->Vals xs us->r x xs H Q->wpAny (model X.prog X.w) X.A (call (.builtin id)<|v::us) (EP X pins σ Q) X.xe s
section
variable{X:Cx}{a b:Expr}{ta tb:TE}{pos:Pos}
theorem Tx(hr:Tw X r)(ha:PE X a ta)(hb:PE X b tb)(hs:D9 b):PE X (.Subscript a b pos) (RL r ta tb):=by intro pins s σ H Q I h;exact Subscript_<|O9 ha hb I h λv u s2 x y H2 I2 rx ry q=>hr a b pins s2 σ H2 x y v u Q I2 rx ry q<|hs _ _
def Yb(K:Frag):R2:=λx y H Q=>∃p xs i v,x=.ref p/\y=.int i/\kz K H p xs/\mD xs i=some v/\Q v H
def Yc(K:Frag):R2:=λx y H Q=>∃p xs i v,x=.ref p/\y=.int i/\jn K H p xs/\mD xs i=some v/\Q v H
def Yd:R2:=λx y H Q=>∃z i c,x=.str z/\y=.int i/\z.length<=sizeLine/\mD z.cps.toList i=some c/\Q (.str ⟨#[c]⟩) H
theorem D_:Tw X (Yb X.K):=by
 intro value slice pins s σ H x y v u Q I rx ry h hs;obtain⟨p,xs,i,z,rfl,rfl,hq,he,q⟩:=h;cases rx;obtain⟨t,rfl⟩:=ry;obtain⟨ay,r,pl,hz⟩:=I.list hq;obtain⟨j,h1,h2,h3,h4,h5⟩:=vZ he;obtain⟨w,ew,rP⟩:=r.get h2;have hl:=r.length;have hn:=rN;have fin:EP X pins σ Q w s:=⟨z,H,I,rP,q⟩;by_cases h0:0<=i;have hj:i.toNat=j:=by rw[seqIndex_of h0 h5]at h1;exact zR h1
 exact item_listR pl.isList h0 (by lia) (by rw[hj];simpa using ew) fin hs;have hj:(i+(ay.toArray.size:Int)).toNat=j:=by rw[seqIndex_neg (by lia) h4]at h1;rw[zp,<-hl];exact zR h1
 exact subscriptTail_builtinR (x:=w) pl.isList.typeIs slot_list_getitem.lookup (wpAny_getItem_list_neg (Q:=λr s'=>r=w/\EP X pins σ Q r s') pl.isList (by lia) (by rw[zp]<;>lia) (by lia) (by rw[hj];simpa using ew) ⟨rfl,fin⟩) hs
theorem Hy:Tw X (Yc X.K):=by intro value slice pins s σ H x y v u Q I rx ry h hs;obtain⟨p,xs,i,z,rfl,rfl,hq,he,q⟩:=h;cases rx;obtain⟨t,rfl⟩:=ry;obtain⟨ay,r,pl,hz⟩:=I.tuple hq;obtain⟨j,h1,h2,h3,h4,h5⟩:=vZ he;obtain⟨w,ew,rP⟩:=r.get h2;have hl:=r.length;have hn:=rN;have fin:EP X pins σ Q w s:=⟨z,H,I,rP,q⟩;exact subscriptTail_builtinR (x:=w) pl.typeIs slot_tuple_getitem.lookup (getItem_tuple (j:=j) (Q:=λr s'=>r=w/\EP X pins σ Q r s') pl (by lia) (by lia) (by rw[zp,<-hl];exact h1) (by simpa using ew) ⟨rfl,fin⟩) hs
theorem Po:Tw X Yd:=by
 intro value slice pins s σ H x y v u Q I rx ry h hs;obtain⟨z,i,c,rfl,rfl,hz,he,q⟩:=h;obtain⟨t,rfl⟩:=rx;obtain⟨t',rfl⟩:=ry;obtain⟨j,h1,h2,h3,h4,h5⟩:=vZ he;have hl:z.cps.toList.length=z.length:=by simp[Str.length]
 rw[hl]at h1 h4 h5;have hn:=rN;exact tail_any (typeIs_str s z t) slot_str_getitem.lookup (getItem_str (c:=c) (by have e1:decide (i < -(2^63:Int))=false:=zq (by lia);have e2:decide (i>=2^63)=false:=zq (by lia);rw[e1,e2,Bool.or_false]) (by rw[h1];simpa using h2) {.str ⟨#[c]⟩,H,I.tok _,{_,rfl},q}) hs
theorem BO(ay:List Value)(n j:Nat)(u:Value):Obj.mapSeq (·.setIfInBounds j u) {cls:=.type "list",data:=.seq ay.toArray n}={cls:=.type "list",data:=.seq (ay.set j u).toArray n}:=by simp[Obj.mapSeq]
theorem Inv.lst(I:Inv X pins σ H s)(h:H p=some (.lst xs)): ∃(ay:List Value)(n:Nat),Vals xs ay/\s.heap.get? p=some {cls:=.type "list",data:=.seq ay.toArray n}/\xs.length<=sizeLine:=by obtain⟨z,ay,n,r,e⟩:=I.aL p _ h;exact⟨ay,n,r,e,z⟩
theorem Inv.Pp{pins:List<|Addr×Obj}{σ:St}{H:Hp}{s:Shared}{p:Addr}{xs ys:List V}{ay its':List Value}{n n':Nat}{f:Obj->Obj}(I:Inv X pins σ H s)(h:H p=some (.lst xs)) (ho:s.heap.get? p=some {cls:=.type "list",data:=.seq ay.toArray n}) (hf:f {cls:=.type "list",data:=.seq ay.toArray n}={cls:=.type "list",data:=.seq its'.toArray n'}) (r:Vals ys its') (hz:ys.length<=sizeLine) (t:Nat): Inv X pins σ (upd H p<|.lst ys) {s with heap:=s.heap.update p f,toks:=t}:=by
 have e:(s.heap.update p f).get? p=some {cls:=.type "list",data:=.seq its'.toArray n'}:=by rw[yx f ho<|by rw[hf]<;>rfl,hf]
 refine I.write (x:=p) (e:=p) (by rw[h];trivial) (.inl rfl) (λb u hb q=>(yq _ _<|Ne.symm hb).trans q) {_,e} ?_;exact⟨hz,its',n',r,e⟩
def Tz:V->V->V->Hp->(Hp->Prop)->Prop:=λo i v H Q=>∃p xs k j,o=.ref p/\i=.int k/\H p=some (.lst xs)/\Hx xs.length k=some j/\Q (upd H p<|.lst<|xs.set j v)
theorem set_list:SR X Tz:=by
 intro pins s σ H o i v ov iv u Q I ro ri rv h;obtain⟨p,xs,k,j,rfl,rfl,hp,hj,q⟩:=h;cases ro;obtain⟨t,rfl⟩:=ri;obtain⟨ay,n,r,ho,hz⟩:=I.lst hp;obtain⟨h1,h2,h3,h4⟩:=D8 hj;have hl:=r.length;have hn:=rN;have I':Inv X pins σ (upd H p<|.lst<|xs.set j v) {s with heap:=s.heap.update p (Obj.mapSeq (·.setIfInBounds j u))}:=I.Pp hp ho (BO ay n j u) (r.set rv j) (by rw[List.length_set];exact hz) s.toks;by_cases h0:0<=k;have hk:k.toNat=j:=by rw[seqIndex_of h0 h4]at h1;exact zR h1
 exact PySem.W.ki_setAt ho h0 (by lia) (by rw[zp,<-hl];exact h4) (by rw[hk];exact{_,I',q});have hk:(k+(ay.toArray.size:Int)).toNat=j:=by rw[seqIndex_neg (by lia) h3]at h1;rw[zp,<-hl];exact zR h1
 exact PySem.W.ki_setBack ho (by lia) (by rw[zp,<-hl];exact h3) (by lia)<|by rw[hk];exact{_,I',q}
theorem v5(lo hi:Option Int)(n:Nat):(sliceBounds lo hi none n).1=((HT.sIx n 0 lo:Nat):Int)/\(sliceBounds lo hi none n).2.1=((HT.sIx n n hi:Nat):Int)/\(sliceBounds lo hi none n).2.2=1:=by
 refine{?_,?_,rfl};cases lo with|none=>simp[sliceBounds,HT.sIx]|some i=>simp only[sliceBounds,HT.sIx,Option.getD_none,show(1:Int)>0 by decide,if_true];by_cases h:i<0;simp only[h,if_true]<;>lia;simp only[h,if_false]<;>lia
 cases hi with|none=>simp[sliceBounds,HT.sIx]|some i=>simp only[sliceBounds,HT.sIx,Option.getD_none,show(1:Int)>0 by decide,if_true];by_cases h:i<0;simp only[h,if_true]<;>lia;simp only[h,if_false]<;>lia
theorem uh(ay:List Value)(lo hi:Option Int):slicePick ay.toArray lo hi none=((ay.drop<|HT.sIx ay.length 0 lo).take<|HT.sIx ay.length ay.length hi-HT.sIx ay.length 0 lo).toArray:=by obtain⟨h1,h2,h3⟩:=v5 lo hi ay.toArray.size;unfold slicePick;rw[h1,h2,h3];simp only[sliceRange_one,pick_run,zp]<;>rfl
def Ye(K:Frag):V->Option Int->Option Int->Hp->VK->Prop:=λx lo hi H Q=>∃a xs,x=.ref a/\kz K H a xs/\∀p,H p=none->Q (.ref p) (upd H p<|.lst<|Fy xs lo hi)
theorem Ea:Ya X (Ye X.K):=by intro pins s σ H x v vl vu lo hi sl Q I rx hs pl pu h;obtain⟨a,xs,rfl,hx,q⟩:=h;cases rx;obtain⟨ay,r,ht,hz⟩:=I.list hx;have hlen:=r.length;refine{"list",_,slot_list_getitem.lookup,ht.isList.typeIs,?_};refine wpAny_getItem_list_slice ht.isList hs pl pu .none (by simp) ?_ (by rw[zp]<;>lia);rw[uh,<-hlen];refine{.ref s.heap.objs.size,_,I.laid (t':=s.toks) (o:=.lst<|Fy xs lo hi) (λb ob q=>zb _ q) (zr _) ?_,rfl,q _<|I.aL.fresh<|zr _};exact{zK (yX xs lo hi) hz,_,0,(r.drop<|HT.sIx xs.length 0 lo).take<|HT.sIx xs.length xs.length hi-HT.sIx xs.length 0 lo,zj _ rfl}
noncomputable def hW:V->Bool|.av=>true|.bl _=>true|.int _=>true|.str _=>true|_=>false
noncomputable def eqV:V->V->Bool|.av,.av=>true|.bl a,.bl b=>a==b|.bl a,.int b=>((if a then 1 else 0)==b)|.int a,.bl b=>(a==(if b then 1 else 0))|.int a,.int b=>a==b|.str a,.str b=>a==b|_,_=>false
theorem Pq(ry:RelV y u)(rx:RelV x v)(fy:hW y=true)(fx:hW x=true):SeqAt.EqAt A s u v (eqV y x):=by cases y with|av=>(cases ry;cases x with|av=>(cases rx;exact SeqAt.EqAt.same _)|bl b=>(cases rx;exact SeqAt.EqAt.none_bool b)|int b=>(obtain⟨t,rfl⟩:=rx;exact SeqAt.EqAt.none_int b t)|str b=>(obtain⟨t,rfl⟩:=rx;exact SeqAt.EqAt.none_str b t)|_=>exact absurd (show false=true from fx) zd)|bl a=>(cases ry;cases x with|av=>(cases rx;exact SeqAt.EqAt.bool_none a)|bl b=>(cases rx;exact SeqAt.EqAt.bool_bool a b)|int b=>(obtain⟨t,rfl⟩:=rx;exact SeqAt.EqAt.bool_int a b t)|str b=>(obtain⟨t,rfl⟩:=rx;exact SeqAt.EqAt.bool_str a b t)|_=>exact absurd (show false=true from fx) zd)|int a=>(obtain⟨t',rfl⟩:=ry;cases x with|av=>(cases rx;exact SeqAt.EqAt.int_none a t')|bl b=>(cases rx;exact SeqAt.EqAt.int_bool a t' b)|int b=>(obtain⟨t,rfl⟩:=rx;exact SeqAt.EqAt.int_int a t' b t)|str b=>(obtain⟨t,rfl⟩:=rx;exact SeqAt.EqAt.int_str a t' b t)|_=>exact absurd (show false=true from fx) zd)|str a=>(obtain⟨t',rfl⟩:=ry;cases x with|av=>(cases rx;exact SeqAt.EqAt.str_none a t')|bl b=>(cases rx;exact SeqAt.EqAt.str_bool a t' b)|int b=>(obtain⟨t,rfl⟩:=rx;exact SeqAt.EqAt.str_int a t' b t)|str b=>(obtain⟨t,rfl⟩:=rx;exact SeqAt.EqAt.str_str a t' b t)|_=>exact absurd (show false=true from fx) zd)|_=>exact absurd (show false=true from fy) zd
noncomputable def yY(x:V)(u:Value):Bool:=match u with|.none=>eqV .av x|.bool b=>eqV (.bl b) x|.int i _=>eqV (.int i) x|.str z _=>eqV (.str z) x|_=>false
theorem BP(r:RelV y u)(f:hW y=true):yY x u=eqV y x:=by cases y with|av=>(cases r;rfl)|bl b=>(cases r;rfl)|int i=>(obtain⟨t,rfl⟩:=r;rfl)|str z=>(obtain⟨t,rfl⟩:=r;rfl)|_=>exact absurd (show false=true from f) zd
theorem mJ:∀{xs:List V}{us:List Value},Vals xs us->xs.all hW=true->us.any (yY x)=xs.any λy=>eqV y x|_,_,.nil,_=>rfl|y::xs,u::us,.cons r t,f=>by rw[List.all_cons,zO]at f;rw[yQ,yQ,BP r f.1,mJ t f.2]
theorem h_(rx:RelV x v)(fx:hW x=true):∀{xs:List V}{us:List Value},Vals xs us->xs.all hW=true->∀u∈us,SeqAt.EqAt A s u v (yY x u)|_,_,.nil,_=>(λu hu=>by cases hu)|y::xs,u::us,.cons r t,f=>λu' hu=>by rw[List.all_cons,zO]at f;rcases zh.mp hu with rfl|hu;rw[BP r f.1];exact Pq r rx f.1 fx;exact h_ rx fx t f.2 u' hu
noncomputable def BQ(x:V)(xs:List V):Bool:=xs.any λy=>eqV y x
def rIn(K:Frag)(neg:Bool):R2:=λx y H Q=>∃p xs,y=.ref p/\(kz K H p xs\/jn K H p xs)/\hW x=true/\xs.all hW=true/\Q (.bl<|if neg then !BQ x xs else BQ x xs) H
theorem oo:hU X (compareOp .In) (rIn X.K false):=by intro pins s σ H x y v u Q I rx ry h;obtain⟨p,xs,rfl,hq,fx,fs,q⟩:=h;cases ry;rcases hq with hq|hq;obtain⟨ay,r,pl,hz⟩:=I.list hq;refine SeqAt.in_listAt (yY x) pl.isList (λw hw=>h_ rx fx r fs w<|by simpa using hw) {.bl _,H,I,rfl,?_};rw[show ay.toArray.any (yY x)=ay.any (yY x) by simp,mJ r fs];exact q;obtain⟨ay,r,pl,hz⟩:=I.tuple hq;refine SeqAt.in_tupleAt (yY x) pl (λw hw=>h_ rx fx r fs w<|by simpa using hw) {.bl _,H,I,rfl,?_};rw[show ay.toArray.any (yY x)=ay.any (yY x) by simp,mJ r fs];exact q
theorem iG:hU X (compareOp .NotIn) (rIn X.K true):=by intro pins s σ H x y v u Q I rx ry h;obtain⟨p,xs,rfl,hq,fx,fs,q⟩:=h;cases ry;rcases hq with hq|hq;obtain⟨ay,r,pl,hz⟩:=I.list hq;refine SeqAt.notIn_listAt (yY x) pl.isList (λw hw=>h_ rx fx r fs w<|by simpa using hw) {.bl _,H,I,rfl,?_};rw[show ay.toArray.any (yY x)=ay.any (yY x) by simp,mJ r fs];exact q;obtain⟨ay,r,pl,hz⟩:=I.tuple hq;refine SeqAt.notIn_tupleAt (yY x) pl (λw hw=>h_ rx fx r fs w<|by simpa using hw) {.bl _,H,I,rfl,?_};rw[show ay.toArray.any (yY x)=ay.any (yY x) by simp,mJ r fs];exact q
theorem k9:fe X (.type "tuple") (λxs H Q=>∃p ys,xs=[.ref p]/\((kz X.K H p ys/\∀l,H l=none->Q (.ref l) (upd H l<|.tup ys))\/(jn X.K H p ys/\Q (.ref p) H))):=by intro pins s σ H xs us Q I r h;obtain⟨p,ys,rfl,h⟩:=h;obtain⟨u,rfl,rx⟩:=vals1 r;cases rx;rcases h with⟨hq,q⟩|⟨hq,q⟩;obtain⟨ay,r',pl,hz⟩:=I.list hq;have hlen:=r'.length;refine call_tuple_list pl.isList (λh' kp=>?_) (by simp only[zp]<;>lia);have I1:Inv X pins σ H {s with heap:=h'}:=I.kept (t':=s.toks) kp;have I2:Inv X pins σ (upd H h'.objs.size<|.tup ys) {s with heap:=h'.push {cls:=.type "tuple",data:=.seq ay.toArray}}:=I1.laid (t':=s.toks) (λb o e=>zb _ e) (zr _)<|show br X.prog X.w _ _ _ (.tup ys) from{hz,ay,r',jz.new _ _};exact{.ref h'.objs.size,_,I2,rfl,q _<|I1.aL.fresh<|zr _};obtain⟨ay,r',pl,hz⟩:=I.tuple hq;exact call_tuple_same pl {.ref p,H,I,rfl,q}
def WE(K:Frag)(T:String)(x:V)(H:Hp):Prop:=match x with|.str _=>T ="str"|.int _=>T ="int"|.ref p=>(T ="list"/\∃xs,kz K H p xs)\/(T ="tuple"/\∃o,K.lookup p=some o/\o.cls=.type "tuple"/\o.dict=none)\/(T ="dict"/\((∃kvs,H p=some (.dK kvs))\/∃kvs,H p=some (.dT kvs)))\/(T ="set"/\∃S n,H p=some (.set S n))|_=>False
theorem Hz{T:String}(I:Inv X pins σ H s)(r:RelV x v)(ty:WE X.K T x H): s.TypeIs v T/\∀a,v=.ref a->∃ob,s.heap.get? a=some ob/\ob.dict=none:=by cases x with|str z=>(obtain⟨t,rfl⟩:=r;cases (show T ="str" from ty);exact{typeIs_str s z t,λ_ e=>nomatch e})|int i=>(obtain⟨t,rfl⟩:=r;cases (show T ="int" from ty);exact{typeIs_int s i t,λ_ e=>nomatch e})|ref p=>(cases r;rcases ty with⟨rfl,xs,hq⟩|⟨rfl,o,hk,hc,hd⟩|⟨rfl,hk⟩|⟨rfl,S,n,hk⟩;obtain⟨ay,_,pl,_⟩:=I.list hq;refine{pl.isList.typeIs,λa e=>?_};cases e;obtain⟨o,n,e,c,hd,_⟩:=pl;exact⟨o,e,hd⟩;refine{{o,I.pN p o hk,hc},λa e=>?_};cases e;exact{o,I.pN _ o hk,hd};have z:∃o,s.heap.get? p=some o/\o.ExactDict:=(by rcases hk with⟨kvs,hk⟩|⟨kvs,hk⟩;obtain⟨_,_,_,_,o,_,_,e,ex,_⟩:=I.aL p _ hk;exact⟨o,e,ex⟩;exact False.elim<|I.aL p _ hk);obtain⟨o,e,ex⟩:=z;refine{⟨o,e,ex.1⟩,λa e2=>?_};cases e2;exact⟨o,e,ex.2.1⟩;obtain⟨o,_,_,_,e,ex,_⟩:=I.aL p _ hk;refine{⟨o,e,ex.1⟩,λa e2=>?_};cases e2;exact⟨o,e,ex.2.1⟩)|_=>exact False.elim ty
def Yf(K:Frag)(T:String)(r:V->List V->Hp->VK->Prop)(to:TE):TE:=λσ H Q=>to σ H λx H1=>WE K T x H1/\r x [] H1 Q
def tBM(K:Frag)(T:String)(r:V->List V->Hp->VK->Prop)(to:TE)(t:TA):TE:=λσ H Q=>to σ H λx H1=>WE K T x H1/\t σ H1 λxs H2=>r x xs H2 Q
variable{o e:Expr}{es:List Expr}{to:TE}{t:TA}{name:Str}{apos aO:Pos}{T id:String}{r:V->List V->Hp->VK->Prop}
theorem Pr(pa:PlainAttrs T)(slot:Slot T name id)(Pt:typeOf (.builtin id)=pure (.type "method_descriptor"))(hm:RN X id r)(ho:PE X o to) (mK:autoParam (attributeBase o name X.env (eval o X.env)=eval o X.env) qQJ) (rQ:autoParam ((apos.endLine==aO.line)=true) qQJ):PE X (.Call (.Attribute o name apos) [] [] aO) (Yf X.K T r to):=by intro pins s σ H Q I h;refine wpAny_Call_method0_late mK rQ<|bt (ho pins s σ H _ I h) λv s1 ⟨x,H1,I1,r1,ty,q1⟩=>?_;obtain⟨h1,h2⟩:=Hz I1 r1 ty;exact{T,id,pa,slot,Pt,h1,h2,Calls.callWith_builtin rfl<|PySem.evalArgs_none<|hm pins s1 σ H1 x [] v [] Q I1 r1 .nil q1}
theorem TB(pa:PlainAttrs T)(slot:Slot T name id)(Pt:typeOf (.builtin id)=pure (.type "method_descriptor"))(hm:RN X id r)(ho:PE X o to)(ha:PA X (e::es) t) (mK:autoParam (attributeBase o name X.env (eval o X.env)=eval o X.env) qQJ) (Pu:autoParam (((backTo aO<|starEach (e::es) X.env).all (λx=>!x.1)&&(backToKw aO<|keywordEach [] X.env).all (λx=>x.1.isSome)&&decide ((e::es).length+([]:List Keyword).length+(if ([]:List Keyword).isEmpty then 0 else 1)<30))=true) qQJ) (rQ:autoParam ((apos.endLine==aO.line)=true) qQJ) (hs:autoParam (starEach (e::es) X.env=(false,eval e X.env)::starEach es X.env) qQJ) (BR:autoParam ((backTo aO<|starEach es X.env).any (·.1)=false) qQJ): PE X (.Call (.Attribute o name apos) (e::es) [] aO) (tBM X.K T r to t):=by intro pins s σ H Q I h;refine wpAny_Call_method_late mK Pu rQ rfl<|bt (ho pins s σ H _ I h) λv s1 ⟨x,H1,I1,r1,ty,q1⟩=>?_;obtain⟨h1,h2⟩:=Hz I1 r1 ty;refine{T,id,pa,slot,Pt,h1,h2,?_};have hA:=ha aO pins s1 σ H1 _ I1 q1;rw[hs]at hA⊢;refine Calls.callWith_builtin (by show(false||(backTo aO<|starEach es X.env).any (·.1))=false;rw[BR]<;>rfl)<|Calls.evalArgs_plain ?_;exact bt hA <| by rintro us s2 ⟨vs,H2,I2,r2,q2⟩;exact hm pins s2 σ H2 x vs v us Q I2 r1 r2 q2
end
def WG(X:Cx)(id:String)(r:V->List V->Hp->VK->Prop):Prop:=∀(pins:List (Addr×Obj))(s:Shared)(σ:St)(H:Hp)(x:V)(xs:List V)(v:Value)(us:List Value)(Q:VK),Inv X pins σ H s->RelV x v->Vals xs us->r x xs H Q->wpAny (model X.prog X.w) X.A (call (.builtin id)<|v::us) (EP X pins σ Q) X.xe s
theorem Vals.one:∀{x:V}{us:List Value},Vals [x] us->∃u,us=[u]/\RelV x u:=by intro x us h;cases h with|cons r t=>cases t;exact{_,rfl,r}
theorem Vals.two:∀{x y:V}{us:List Value},Vals [x,y] us->∃u v,us=[u,v]/\RelV x u/\RelV y v:=by intro x y us h;cases h with|cons r t=>obtain⟨_,rfl,q⟩:=Vals.one t;exact{_,_,rfl,r,q}
theorem Vals.zero:∀{us:List Value},Vals [] us->us=[]|_,.nil=>rfl
theorem Vals.dropLast{xs:List V}{us:List Value}(h:Vals xs us):Vals xs.dropLast us.dropLast:=by induction h with|nil=>exact .nil|cons r t ih=>cases t with|nil=>exact .nil|cons q t'=>exact .cons r ih
theorem Vals.eraseIdx:∀{xs:List V}{us:List Value}(i:Nat),Vals xs us->Vals (xs.eraseIdx i) (us.eraseIdx i)|_,_,_,.nil=>.nil|_,_,0,.cons _ t=>t|_,_,i+1,.cons r t=>.cons r<|Vals.eraseIdx i t
theorem BS{α:Type}(l:List α):l.eraseIdx (l.length-1)=l.dropLast:=by induction l with|nil=>rfl|cons a r ih=>cases r with|nil=>rfl|cons b r=>have e:(a::b::r).length-1=((b::r).length-1)+1:=(by have h1:(a::b::r).length=r.length+2:=rfl;have h2:(b::r).length=r.length+1:=rfl;lia);rw[e,List.eraseIdx_cons_succ,ih];all_goals rfl
theorem uZ{α:Type} : ∀(l:List α)(i:Nat),(l.eraseIdx i).length<=l.length|[],_=>zr _|_::_,0=>yS _|_::r,i+1=>Nat.succ_le_succ<|uZ r i
section
variable{X:Cx}{pins:List (Addr×Obj)}{σ:St}{H:Hp}{s:Shared}{l:Addr}{xs ys:List V}
theorem Inv.Lb{ay its':List Value}{n:Nat}{f:Array Value->Array Value}{t':Nat}(I:Inv X pins σ H s)(hH:H l=some (.lst xs)) (e:s.heap.get? l=some {cls:=.type "list",data:=.seq ay.toArray n}) (hf:f ay.toArray=its'.toArray) (hv:Vals ys its') (hz:ys.length<=sizeLine): Inv X pins σ (upd H l<|.lst ys) {s with heap:=s.heap.update l<|Obj.mapSeq f,toks:=t'}:=by have q:=PySem.IsL.update e f;rw[hf]at q;refine I.write (x:=l) (e:=l) (by rw[hH];exact trivial) (.inl rfl) (λb' u hb hu=>(yq s.heap (Obj.mapSeq f)<|Ne.symm hb).trans hu) {_,q} ?_;exact{hz,its',_,hv,q}
theorem Inv.Yg(I:Inv X pins σ H s)(hv:Vals ys ay)(hz:ys.length<=sizeLine): Inv X pins σ (upd H s.heap.objs.size<|.lst ys) {s with heap:=s.heap.push {cls:=.type "list",data:=.seq ay.toArray},toks:=t'}:=I.laid (λ_ _ q=>zb _ q) (zr _) {hz,ay,0,hv,zj _ rfl}
theorem Inv.fresh(I:Inv X pins σ H s):H s.heap.objs.size=none:=I.aL.fresh<|zr _
theorem Inv.Fz(I:Inv X pins σ H s)(hH:H l=some (.lst xs)):xs.length<=sizeLine/\∃(ay:List Value)(n:Nat),Vals xs ay/\xs.length=ay.length/\s.heap.get? l=some {cls:=.type "list",data:=.seq ay.toArray n}:=by obtain⟨z,ay,n,r,e⟩:=I.aL l _ hH;exact⟨z,ay,n,r,r.length,e⟩
theorem HA{n:Nat}(h:n<=sizeLine):Builtin.List.listTooLong n=false:=by unfold Builtin.List.listTooLong;exact zq<|by lia
end
section
variable{X:Cx}
def Ld:V->List V->Hp->VK->Prop:=λx vs H Q=>∃l xs y,x=.ref l/\vs=[y]/\H l=some (.lst xs)/\xs.length<sizeLine/\Q .av (upd H l<|.lst<|xs++[y])
theorem FA:WG X "list.append" Ld:=by intro pins s σ H x vs v us Q I rx rv h;obtain⟨l,xs,y,rfl,rfl,hH,hz,q⟩:=h;cases rx;obtain⟨u,rfl,ru⟩:=rv.one;obtain⟨z,ay,n,r,hl,e⟩:=I.Fz hH;refine call_meets F.slot_list_append {_,e,rfl} F.entry_list_append (F.args_list_append_2 _ _) (PySem.list_append l ay.toArray n u<|by rw[zp];lia) {e,?_};refine{.av,_,I.Lb (its':=ay++[u]) hH e (by simp) (r.append<|.cons ru .nil) ?_,rfl,q};rw[zt,List.length_singleton];lia
def Yh:V->List V->Hp->VK->Prop:=λx vs H Q=>∃l xs y,x=.ref l/\vs=[]/\H l=some (.lst xs)/\xs[xs.length-1]?=some y/\Q y (upd H l<|.lst xs.dropLast)
theorem Pw:WG X "list.pop" Yh:=by
 intro pins s σ H x vs v us Q I rx rv h;obtain⟨l,xs,y,rfl,rfl,hH,hy,q⟩:=h;cases rx;have hus:=rv.zero;subst hus;obtain⟨z,ay,n,r,hl,e⟩:=I.Fz hH;obtain⟨u,hu,ru⟩:=r.get hy;have TC:ay.toArray[ay.toArray.size-1]?=some u:=by show ay.toArray[ay.length-1]?=some u;rw[<-Array.getElem?_toList,<-hl];exact hu
 refine call_meets F.slot_list_pop {_,e,rfl} F.entry_list_pop (F.args_list_pop_1 _) (MeetsSeq.list_pop_last l ay.toArray n u TC<|by rw[zp];lia) {e,?_};refine{y,_,I.Lb (its':=ay.dropLast) hH e ?_ r.dropLast ?_,ru,q};show ay.toArray.eraseIdxIfInBounds (ay.toArray.size-1)=ay.dropLast.toArray;rw[zp,List.eraseIdxIfInBounds_toArray,BS];rw[List.length_dropLast];lia
def Px:V->List V->Hp->VK->Prop:=λx vs H Q=>∃l xs i k y,x=.ref l/\vs=[.int i]/\H l=some (.lst xs)/\-(2^63)<=i/\i<2^63/\seqIndex? i xs.length=some k/\xs[k]?=some y/\Q y (upd H l<|.lst<|xs.eraseIdx k)
theorem HB:WG X "list.pop" Px:=by intro pins s σ H x vs v us Q I rx rv h;obtain⟨l,xs,i,k,y,rfl,rfl,hH,h1,h2,hk,hy,q⟩:=h;cases rx;obtain⟨u,rfl,ru⟩:=rv.one;obtain⟨t,rfl⟩:=ru;obtain⟨z,ay,n,r,hl,e⟩:=I.Fz hH;obtain⟨w,hw,rP⟩:=r.get hy;refine call_meets F.slot_list_pop {_,e,rfl} F.entry_list_pop (F.args_list_pop_2 _ _) (MeetsSeq.list_pop_at l ay.toArray n i t k w (fitsIndex_both h1 h2) (by rw[zp,<-hl];exact hk) (by rw[<-Array.getElem?_toList];exact hw)<|by rw[zp];lia) {e,?_};refine{y,_,I.Lb (its':=ay.eraseIdx k) hH e ?_ (r.eraseIdx k) ?_,rP,q};show ay.toArray.eraseIdxIfInBounds k=(ay.eraseIdx k).toArray;rw[List.eraseIdxIfInBounds_toArray];have:=uZ xs k;lia
def Yi:R2:=λx y H Q=>∃l b xs zs,x=.ref l/\y=.ref b/\H l=some (.lst xs)/\H b=some (.lst zs)/\xs.length+zs.length<=sizeLine/\∀p,H p=none->Q (.ref p) (upd H p<|.lst<|xs++zs)
theorem Py:hU X (binaryOp .Add) Yi:=by
 intro pins s σ H x y v u Q I rx ry h;obtain⟨l,b,xs,zs,rfl,rfl,hH,hB,hz,q⟩:=h;cases rx;cases ry;obtain⟨z,ay,n,r,hl,e⟩:=I.Fz hH;obtain⟨z2,v7,n2,r2,Pz,e2⟩:=I.Fz hB;refine PySem.P.add_list e e2 ?_ (by rw[zp,zp];lia);have ea:ay.toArray++v7.toArray=(ay++v7).toArray:=by simp
 rw[ea];exact{.ref _,_,I.Yg (t':=s.toks) (r.append r2)<|by rw[zt];lia,rfl,q _ I.fresh}
end
section
variable{κ:Type}[DecidableEq κ]
noncomputable def gv(kvs:List<|κ×V)(k:κ):Option V:=(kvs.find? λkv=>decide<|kv.1=k).map (·.2)
noncomputable def putK(kvs:List<|κ×V)(k:κ)(v:V):List (κ×V):=if (kvs.any λkv=>decide<|kv.1=k)=true then kvs.map (λkv=>if kv.1=k then (kv.1,v) else kv) else kvs++[(k,v)]
noncomputable def pQ(kvs:List<|κ×V)(k:κ):List (κ×V):=kvs.filter λkv=>decide<|kv.1≠k
theorem rR{p:κ×V}{r:List<|κ×V}{k:κ}(e:p.1=k):gv (p::r) k=some p.2:=by simp[gv,z0,e]
theorem rS{p:κ×V}{r:List<|κ×V}{k:κ}(e:¬p.1=k):gv (p::r) k=gv r k:=by simp[gv,z0,e]
theorem pR(kvs:List<|κ×V)(k:κ)(v:V):(putK kvs k v).length<=kvs.length+1:=by unfold putK;split;rw[za];lia;rw[zt,zQ,List.length_nil];lia
theorem gu.ia(r:gu o u):o.isSome=u.isSome:=by cases o with|none=>(cases u with|none=>rfl|some _=>exact(show False from r).elim)|some _=>cases u with|none=>exact(show False from r).elim|some _=>rfl
theorem gu.getD{o:Option V}{u:Option Value}{d:V}{d':Value}(r:gu o u)(rd:RelV d d'):RelV (o.getD d) (u.getD d'):=by cases o with|none=>(cases u with|none=>exact rd|some _=>exact(show False from r).elim)|some _=>cases u with|none=>exact(show False from r).elim|some _=>exact r
theorem KV.val{kvs:List<|κ×V}{vs:List<|κ×Value}(r:KV kvs vs)(k:κ):gu (gv kvs k) (valueAt vs k):=by unfold KV at r;induction r with|nil=>exact True.intro|@cons p q ps qs h t ih=>obtain⟨h1,h2⟩:=h;by_cases e:p.1=k;have e':q.1=k:=h1.symm.trans e;have b:valueAt (q::qs) k=some q.2:=(by simp[valueAt,z0,e']);rw[rR e,b];exact h2;have e':¬q.1=k:=λz=>e<|h1.trans z;have b:valueAt (q::qs) k=valueAt qs k:=(by simp[valueAt,z0,e']);rw[rS e,b];exact ih
theorem KV.any{kvs:List<|κ×V}{vs:List<|κ×Value}(r:KV kvs vs)(k:κ):(kvs.any λkv=>decide<|kv.1=k)=vs.any λkv=>decide (kv.1=k):=by unfold KV at r;induction r with|nil=>rfl|cons h t ih=>rw[yQ,yQ,ih,h.1]
theorem KV.PB(r:KV kvs vs)(k:κ)(ry:RelV y u): KV (kvs.map λkv=>if kv.1=k then (kv.1,y) else kv) (vs.map λkv=>if kv.1=k then (kv.1,u) else kv):=by unfold KV at r⊢;induction r with|nil=>exact .nil|@cons p q ps qs h t ih=>rw[zI,zI];refine .cons ?_ ih;obtain⟨h1,h2⟩:=h;by_cases e:p.1=k;rw[if_pos e,if_pos<|h1.symm.trans e];exact⟨h1,ry⟩;rw[if_neg e,if_neg λz=>e<|h1.trans z];exact⟨h1,h2⟩
theorem KV.put(r:KV kvs vs)(k:κ)(ry:RelV y u):KV (putK kvs k y) (stored vs k u):=by unfold putK stored;rw[r.any k];by_cases e:(vs.any λkv=>decide<|kv.1=k)=true;rw[if_pos e,if_pos e];exact r.PB k ry;rw[if_neg e,if_neg e];exact Paired.snoc r ⟨rfl,ry⟩
theorem KV.drop(r:KV kvs vs)(k:κ):KV (pQ kvs k) (without vs k):=by unfold KV at r⊢;unfold pQ without;induction r with|nil=>exact .nil|@cons p q ps qs h t ih=>obtain⟨h1,h2⟩:=h;rw[List.filter_cons,List.filter_cons];by_cases e:p.1=k;have a:¬decide (p.1≠k)=true:=(by simp[e]);have b:¬decide (q.1≠k)=true:=(by simp[h1.symm.trans e]);rw[if_neg a,if_neg b];exact ih;have e':¬q.1=k:=λz=>e<|h1.trans z;have a:decide (p.1≠k)=true:=(by simp[e]);have b:decide (q.1≠k)=true:=(by simp[e']);rw[if_pos a,if_pos b];exact .cons ⟨h1,h2⟩ ih
theorem KV.length{kvs:List<|κ×V}{vs:List<|κ×Value}(r:KV kvs vs):kvs.length=vs.length:=yH r
theorem HC(kvs:List<|κ×V)(k:κ):(pQ kvs k).length<=kvs.length:=yg _ _
end
theorem jC(r:RelV (kV k) u):(aH P w).is k u=true:=by cases k with|inl i=>(obtain⟨t,e⟩:=(show ∃t,u=Value.int i t from r);subst e;exact xY P w i t)|inr x=>obtain⟨t,e⟩:=(show ∃t,u=Value.str x t from r);subst e;exact jy P w x t
theorem u0:∀{ks:List Key}{us:List Value},Vals (ks.map kV) us->ItemsAre (aH P w) ks us|[],_,r=>(by rw[List.map_nil]at r;cases r;exact .nil)|k::ks,_,r=>by rw[zI]at r;cases r with|cons h t=>exact .cons (jC h)<|u0 t
abbrev KT(H:Hp):List (List Key×V)->List (List Key×Addr×Value)->Prop:=Paired λp q=>p.1=q.1/\H q.2.1=some (.tup<|p.1.map kV)/\RelV p.2 q.2.2
theorem KT.val{H:Hp}{kvs:List<|List Key×V}{xs:List<|List Key×Addr×Value}(r:KT H kvs xs)(k:List Key):gu (gv kvs k) ((atKey xs k).map (·.2)):=by induction r with|nil=>exact True.intro|@cons p q ps qs h t ih=>obtain⟨h1,_,h2⟩:=h;by_cases e:p.1=k;have e':q.1=k:=h1.symm.trans e;have b:atKey (q::qs) k=some q.2:=(by simp[atKey,z0,e']);rw[rR e,b];exact h2;have e':¬q.1=k:=λz=>e<|h1.trans z;have b:atKey (q::qs) k=atKey qs k:=(by simp[atKey,z0,e']);rw[rS e,b];exact ih
section
variable{P:Program}{w:World}{H:Hp}{h:Heap}{a:Addr}
theorem Nr(ok:lR P w H h)(e:Rd H a u):br P w H h a u:=e.ok ok
theorem mL(ok:lR P w H h)(e:Rd H a<|.dK kvs):kvs.length<=sizeLine/\(a==sysModules)=false/\∃vs,KV kvs vs/\h.DictOf (aH P w) a vs:=show br P w H h a (.dK kvs) from Nr ok e
theorem Eb(ok:lR P w H h)(e:H a=some (.dK kvs)):kvs.length<=sizeLine/\(a==sysModules)=false/\∃vs,KV kvs vs/\h.DictOf (aH P w) a vs:=mL ok<|.inl e
theorem rT(ok:lR P w H h)(e:H a=some (.tup<|ks.map kV)):(tupleKind<|aH P w).is h ks a:=by obtain⟨_,ay,r,o,h1,h2,_,n,h3⟩:=(show br P w H h a (.tup<|ks.map kV) from ok a _ e);exact{o,ay.toArray,n,h1,h2,h3,by simpa using u0 r}
theorem rV(ok:lR P w H h)(e:Rd H a<|.dT kvs):kvs.length<=sizeLine/\(a==sysModules)=false/\∃xs,KT H kvs xs/\h.DictOfH (tupleKind<|aH P w) a xs:=by exact False.elim<|show br P w H h a (.dT kvs) from Nr ok e
end
def oq(H:Hp)(a:Addr)(y:V)(r:Option V):Prop:=(∃kvs k,Rd H a (.dK kvs)/\y=kV k/\r=gv kvs k)\/∃kvs k b,Rd H a (.dT kvs)/\y=.ref b/\H b=some (.tup<|k.map kV)/\r=gv kvs k
def HD(H:Hp)(a:Addr)(y v:V)(H':Hp):Prop:=(∃kvs k,H a=some (.dK kvs)/\y=kV k/\kvs.length<sizeLine/\H'=upd H a (.dK<|putK kvs k v))\/∃kvs k b,H a=some (.dT kvs)/\y=.ref b/\H b=some (.tup<|k.map kV)/\kvs.length<sizeLine/\H'=upd H a (.dT<|putK kvs k v)
theorem oq.k{H:Hp}{a:Addr}{kvs:List<|Key×V}{k:Key}(e:H a=some (.dK kvs)):oq H a (kV k) (gv kvs k):=.inl {kvs,k,.inl e,rfl,rfl}
theorem HD.k{H:Hp}{a:Addr}{kvs:List<|Key×V}{k:Key}{v:V}(e:H a=some (.dK kvs))(hl:kvs.length<sizeLine):HD H a (kV k) v (upd H a<|.dK<|putK kvs k v):=.inl ⟨kvs,k,e,rfl,hl,rfl⟩
section
variable{X:Cx}{pins:List (Addr×Obj)}{σ:St}{H:Hp}{s:Shared}{a:Addr}{y v:V}{u r:Value}{o:Option V}{A:Around}{E:Value->Shared->Prop}
theorem Inv.big(I:Inv X pins σ H s):sysModules<s.heap.objs.size:=by have h:mainGlobals<s.heap.objs.size:=(I.mod.glob.keeps I.bk).lt;exact Nat.lt_trans (by decide) h
theorem FC(hu:A.units+1<cLine)(I:Inv X pins σ H s)(g:oq H a y<|some v)(ry:RelV y u)(h:∀w' s',Inv X pins σ H s'->RelV v w'->Q w' s'): wpAny (model X.prog X.w) A (getItem (.ref a) u) Q E s:=by rcases g with⟨kvs,k,e,ey,l⟩|⟨kvs,k,b,e,ey,eb,l⟩;subst ey;obtain⟨z,hd,vs,rel,dd⟩:=mL I.aL e;obtain⟨w',hw,rP⟩:=gu.some_of (v:=v) (o:=valueAt vs k) (by rw[l];exact rel.val k);exact wpAny_getItem_of (jC ry) dd.mapOf hw<|h w' _ (I.tok _) rP;subst ey;cases (show u=Value.ref b from ry);obtain⟨z,hd,xs,rel,dd⟩:=rV I.aL e;obtain⟨w',hw,rP⟩:=gu.some_of (v:=v) (o:=(atKey xs k).map (·.2)) (by rw[l];exact rel.val k);obtain⟨p,hp,hG⟩:=Option.map_eq_some_iff.mp hw;refine wpAny_getItem_heap (tupleKind_room_in1 hu) (rT I.aL eb) dd hp ?_;rw[hG];exact h w' _ (I.tok _) rP
theorem Yj(hu:A.units+1<cLine)(I:Inv X pins σ H s)(g:oq H a y o)(ry:RelV y u)(h:∀s',Inv X pins σ H s'->Q (.bool o.isSome) s'): wpAny (model X.prog X.w) A (compareOp .In u<|.ref a) Q E s:=by rcases g with⟨kvs,k,e,ey,l⟩|⟨kvs,k,b,e,ey,eb,l⟩;subst ey;obtain⟨z,hd,vs,rel,dd⟩:=mL I.aL e;refine wpAny_in_of (jC ry) hd dd.mapOf ?_;rw[<-(rel.val k).ia,<-l];exact h _<|I.tok _;subst ey;cases (show u=Value.ref b from ry);obtain⟨z,hd,xs,rel,dd⟩:=rV I.aL e;refine wpAny_in_heap (tupleKind_room_in1 hu) (rT I.aL eb) hd dd ?_;have q:=(rel.val k).ia;rw[Option.isSome_map]at q;rw[<-q,<-l];exact h _<|I.tok _
theorem Le(hu:A.units+1<cLine)(I:Inv X pins σ H s)(g:oq H a y o)(ry:RelV y u)(h:∀s',Inv X pins σ H s'->Q (.bool<|!o.isSome) s'): wpAny (model X.prog X.w) A (compareOp .NotIn u<|.ref a) Q E s:=by rcases g with⟨kvs,k,e,ey,l⟩|⟨kvs,k,b,e,ey,eb,l⟩;subst ey;obtain⟨z,hd,vs,rel,dd⟩:=mL I.aL e;refine wpAny_notIn_of (jC ry) hd dd.mapOf ?_;rw[<-(rel.val k).ia,<-l];exact h _<|I.tok _;subst ey;cases (show u=Value.ref b from ry);obtain⟨z,hd,xs,rel,dd⟩:=rV I.aL e;refine wpAny_notIn_heap (tupleKind_room_in1 hu) (rT I.aL eb) hd dd ?_;have q:=(rel.val k).ia;rw[Option.isSome_map]at q;rw[<-q,<-l];exact h _<|I.tok _
theorem v8(I:Inv X pins σ H s)(mu:Sw<|H a)(hs:Heap.SameBut a s.heap h')(he:∃q,h'.get? a=some q)(new:br X.prog X.w (upd H a ob) h' a ob): Inv X pins σ (upd H a ob) {s with heap:=h',toks:=t'}:=I.write (x:=a) (e:=a) mu (.inl rfl) (λb q hb z=>(hs.2 b hb).trans z) he new
theorem BU(z:kvs.length<=sizeLine)(hd:(a==sysModules)=false)(rel:KV kvs vs)(dd:h'.DictOf (aH P w) a vs): br P w H' h' a (.dK kvs):=⟨z,hd,vs,rel,dd⟩
theorem FD(hu:A.units+1<cLine)(I:Inv X pins σ H s)(g:HD H a y v H')(ry:RelV y u)(rv:RelV v r)(h:∀s',Inv X pins σ H' s'->Q () s'): wpAny (model X.prog X.w) A (setItem (.ref a) u r) Q E s:=by
 rcases g with⟨kvs,k,e,ey,l,eH⟩|⟨kvs,k,b,e,ey,eb,l,eH⟩;subst ey eH;obtain⟨z,hd,vs,rel,dd⟩:=Eb I.aL e;have hz:vs.length<=sizeLine:=by rw[<-rel.length];exact z
 have hl:(putK kvs k v).length<=sizeLine:=by have:=pR kvs k v;lia
 refine wpAny_setItem_pairs (hsz:=hz) (jC ry) dd λh' Nt hs=>h _ ?_;have he:∃q,h'.get? a=some q:=by obtain⟨q,_,_,hq,_⟩:=Nt;exact⟨q,hq⟩
 exact v8 I (by rw[e];exact True.intro) hs he<|BU hl hd (rel.put k rv) Nt;exact False.elim<|I.aL _ _ e
end
section
variable{X:Cx}{pins:List (Addr×Obj)}{σ:St}{H:Hp}{s:Shared}{a:Addr}{kvs:List (Key×V)}{k:Key}{u:Value}{A:Around}{E:Value->Shared->Prop}
theorem TF(I:Inv X pins σ H s)(e:H a=some (.dK kvs))(ry:RelV (kV k) u)(l:gv kvs k=some v)(hm:more=[]\/∃x,more=[x]) (h:∀w' s',Inv X pins σ (upd H a<|.dK<|pQ kvs k) s'->RelV v w'->Q w' s'):wpAny (model X.prog X.w) A (call (.builtin "dict.pop")<|.ref a::u::more) Q E s:=by
 obtain⟨z,hd,vs,rel,dd⟩:=Eb I.aL e;obtain⟨w',hw,rP⟩:=gu.some_of (v:=v) (o:=valueAt vs k) (by rw[<-l];exact rel.val k);have hp:(keyPart u).isSome=true:=by cases k with|inl i=>(obtain⟨t,q⟩:=(show ∃t,u=Value.int i t from ry);subst q;rfl)|inr x=>obtain⟨t,q⟩:=(show ∃t,u=Value.str x t from ry);subst q;rfl
 have ha:argsOk "dict.pop" {.ref a::u::more,[]}:=by rcases hm with q|⟨x,q⟩;subst q;exact PySem.F.args_dict_pop_2 _ _;subst q;exact PySem.F.args_dict_pop_3 _ _ _
 refine call_meetsIn PySem.F.slot_dict_pop dd.typeIs PySem.F.entry_dict_pop ha (meets_dict_pop_there (aH X.prog X.w) a (jC ry) more hm hp) {vs,w',dd,by rw[<-rel.length];exact z,hw,λh' Nt hs=>h w' _ ?_ rP};have he:∃q,h'.get? a=some q:=by obtain⟨q,_,_,hq,_⟩:=Nt;exact⟨q,hq⟩
 exact v8 I (by rw[e];exact True.intro) hs he<|BU (zK (HC kvs k) z) hd (rel.drop k) Nt
theorem TH(I:Inv X pins σ H s)(e:Rd H a<|.dK kvs)(h:∀t s',Inv X pins σ H s'->Q (.int kvs.length t) s'):wpAny (model X.prog X.w) A (call (.builtin "len") [.ref a]) Q E s:=by obtain⟨z,hd,vs,rel,dd⟩:=mL I.aL e;refine call_len_dict hd dd (by rw[<-rel.length];rw[ye]at z;lia) ?_;rw[<-rel.length];exact h _ _<|I.tok _
end
theorem yZ(I:Inv X pins σ H s)(g:oq H a y o):s.TypeIs (.ref a) "dict":=by rcases g with⟨kvs,k,e,_,_⟩|⟨kvs,k,b,e,_,_,_⟩;obtain⟨_,_,vs,_,dd⟩:=mL I.aL e;exact dd.typeIs;obtain⟨_,_,xs,_,dd⟩:=rV I.aL e;exact dd.typeIs
def TJ(td ty tv:TE):TS:=λD σ H=>tv σ H λv H1=>td σ H1 λx H2=>ty σ H2 λy H3=>∃a H4,x=.ref a/\HD H3 a y v H4/\D.nx σ H4
section
variable{X:Cx}{o i value:Expr}{pos pos':Pos}{td ty tv:TE}
theorem Lg(hu:X.A.units+1<cLine)(ho:PE X o td)(hi:PE X i ty)(hv:PE X value tv)(hs:swapsWith value (some<|.Subscript o i pos') pos.line X.env=pure false): PS X (.Assign [.Subscript o i pos'] value pos) (TJ td ty tv):=by intro pins s σ H D I h;refine wpAny_Assign_Subscript (bt (hv pins s σ H _ I h) λr s1 ⟨v,H1,I1,rv,q1⟩=>bt (ho pins s1 σ H1 _ I1 q1) λu s2 ⟨x,H2,I2,rx,q2⟩=>bt (hi pins s2 σ H2 _ I2 q2) λiv s3 ⟨y,H3,I3,ry,a,H4,ex,g,q3⟩=>?_) hs;subst ex;obtain rfl:u=Value.ref a:=rx;exact FD hu I3 g ry rv λs4 I4=>⟨σ,H4,I4,q3⟩
end
theorem HE(h:Heap)(hb:sysModules<h.objs.size):br P w H (h.push {cls:=.type "dict",data:=.dict #[]}) h.objs.size (.dK []):={zT _,beq_eq_false_iff_ne.mpr<|Ne.symm<|zB hb,[],.nil,Heap.DictOf.new h}
def PC:TE:=λ_ H Q=>∀p,H p=none->Q (.ref p) (upd H p<|.dK [])
section
variable{X:Cx}{pos:Pos}
theorem HF:PE X (.Dict [] [] pos) PC:=λpins s σ H Q I h=>wpAny_Dict_empty {.ref s.heap.objs.size,_,I.laid (a:=s.heap.objs.size) (o:=.dK []) (t':=s.toks) (λ_ _ q=>zb _ q) (zr _)<|HE s.heap I.big,rfl,h _<|I.aL.fresh<|zr _}
end
structure M1(X:Cx)(o:Expr)(m:Str)(apos:Pos)(e:Expr)(aO:Pos):Prop where
 base:attributeBase o m X.env (eval o X.env)=eval o X.env
 G7:((backTo aO<|starEach [e] X.env).all (λx=>!x.1)&&(backToKw aO<|keywordEach [] X.env).all (λx=>x.1.isSome)
  && decide (([e]:List Expr).length+([]:List Keyword).length+(if ([]:List Keyword).isEmpty then 0 else 1)<30))=true
 line:(apos.endLine==aO.line)=true
 trees:backTo aO (starEach [e] X.env)=[(false,eval e X.env)]
structure M2(X:Cx)(o:Expr)(m:Str)(apos:Pos)(e f:Expr)(aO:Pos):Prop where
 base:attributeBase o m X.env (eval o X.env)=eval o X.env
 G7:((backTo aO<|starEach [e,f] X.env).all (λx=>!x.1)&&(backToKw aO<|keywordEach [] X.env).all (λx=>x.1.isSome)
  && decide (([e,f]:List Expr).length+([]:List Keyword).length+(if ([]:List Keyword).isEmpty then 0 else 1)<30))=true
 line:(apos.endLine==aO.line)=true
 trees:backTo aO (starEach [e,f] X.env)=[(false,eval e X.env),(false,eval f X.env)]
def RO(H:Hp)(a:Addr):Prop:=(∃kvs,Rd H a<|.dK kvs)\/∃kvs,Rd H a<|.dT kvs
theorem v9(I:Inv X pins σ H s)(d:RO H a): s.TypeIs (.ref a) "dict"/\(∀b,Value.ref a=.ref b->∃ob,s.heap.get? b=some ob/\ob.dict=none)/\(a==sysModules)=false:=by rcases d with⟨kvs,e⟩|⟨kvs,e⟩;obtain⟨_,hd,vs,_,dd⟩:=mL I.aL e;refine{dd.typeIs,λb q=>?_,hd};cases q;obtain⟨ob,_,_,h1,h2,_⟩:=dd;exact⟨ob,h1,h2.2.1⟩;obtain⟨_,hd,xs,_,dd⟩:=rV I.aL e;refine{dd.typeIs,λb q=>?_,hd};cases q;obtain⟨ob,_,_,h1,h2,_⟩:=dd;exact⟨ob,h1,h2.2.1⟩
section
variable{X:Cx}{pins:List (Addr×Obj)}{σ:St}{H:Hp}{s:Shared}{a:Addr}{y d:V}{u r:Value}{o:Option V}{A:Around}{E:Value->Shared->Prop}
theorem PD(hu:A.units+1<cLine)(I:Inv X pins σ H s)(g:oq H a y o)(ry:RelV y u)(h:∀w' s',Inv X pins σ H s'->RelV (o.getD .av) w'->Q w' s'): wpAny (model X.prog X.w) A (call (.builtin "dict.get") [.ref a,u]) Q E s:=by rcases g with⟨kvs,k,e,ey,l⟩|⟨kvs,k,b,e,ey,eb,l⟩;subst ey;obtain⟨z,hd,vs,rel,dd⟩:=mL I.aL e;refine call_meetsIn yy dd.typeIs PySem.F.entry_dict_get (PySem.F.args_dict_get_2 _ _) (meets_dict_get (aH X.prog X.w) a (jC ry) hd) {_,dd.mapOf,h _ _ (I.tok _) ?_};rw[l];exact(rel.val k).getD rfl;subst ey;cases (show u=Value.ref b from ry);obtain⟨z,hd,xs,rel,dd⟩:=rV I.aL e;refine call_meetsIn yy dd.typeIs PySem.F.entry_dict_get (PySem.F.args_dict_get_2 _ _) (meetsH_dict_get (tupleKind<|aH X.prog X.w) a b hd) {tupleKind_room_in1 hu,k,xs,rT I.aL eb,dd,h _ _ (I.tok _) ?_};rw[l];exact(rel.val k).getD rfl
theorem PF(hu:A.units+1<cLine)(I:Inv X pins σ H s)(g:oq H a y o)(ry:RelV y u)(rd:RelV d r)(h:∀w' s',Inv X pins σ H s'->RelV (o.getD d) w'->Q w' s'): wpAny (model X.prog X.w) A (call (.builtin "dict.get") [.ref a,u,r]) Q E s:=by rcases g with⟨kvs,k,e,ey,l⟩|⟨kvs,k,b,e,ey,eb,l⟩;subst ey;obtain⟨z,hd,vs,rel,dd⟩:=mL I.aL e;refine call_meetsIn yy dd.typeIs PySem.F.entry_dict_get (PySem.F.args_dict_get_3 _ _ _) (meets_dict_get_default (aH X.prog X.w) a (jC ry) hd r) {_,dd.mapOf,h _ _ (I.tok _) ?_};rw[l];exact(rel.val k).getD rd;subst ey;cases (show u=Value.ref b from ry);obtain⟨z,hd,xs,rel,dd⟩:=rV I.aL e;refine call_meetsIn yy dd.typeIs PySem.F.entry_dict_get (PySem.F.args_dict_get_3 _ _ _) (meetsH_dict_get_default (tupleKind<|aH X.prog X.w) a b hd r) {tupleKind_room_in1 hu,k,xs,rT I.aL eb,dd,h _ _ (I.tok _) ?_};rw[l];exact(rel.val k).getD rd
end
def PH(td ty:TE):TE:=λσ H Q=>td σ H λx H1=>∃a,x=.ref a/\RO H1 a/\ty σ H1 λy H2=>∃o,oq H2 a y o/\Q (o.getD .av) H2
def PJ(td ty tx:TE):TE:=λσ H Q=>td σ H λx H1=>∃a,x=.ref a/\RO H1 a/\ty σ H1 λy H2=>tx σ H2 λz H3=>∃o,oq H3 a y o/\Q (o.getD z) H3
def PK(td ty:TE):TE:=λσ H Q=>td σ H λx H1=>∃a,x=.ref a/\RO H1 a/\ty σ H1 λy H2=>∃kvs k v,H2 a=some (.dK kvs)/\y=kV k/\gv kvs k=some v/\Q v (upd H2 a<|.dK<|pQ kvs k)
section
variable{X:Cx}{o e f:Expr}{apos aO:Pos}{td ty tx:TE}
theorem HG(hu:X.A.units+1<cLine)(ho:PE X o td)(he:PE X e ty)(m:M1 X o "get" apos e aO):PE X (.Call (.Attribute o "get" apos) [e] [] aO) (PH td ty):=by intro pins s σ H Q I h;refine wpAny_Call_method m.base m.G7 m.line PySem.F.plainAttrs_dict yy PySem.F.type_dict_get<|bt (ho pins s σ H _ I h) λu s1 ⟨x,H1,I1,rx,a,ex,d,q1⟩=>?_;subst ex;obtain rfl:u=Value.ref a:=rx;obtain⟨t1,t2,_⟩:=v9 I1 d;refine{t1,t2,?_};rw[m.trees];refine Calls.callWith_builtin rfl<|Calls.evalArgs_plain<|yE<|bt (he pins s1 σ H1 _ I1 q1) λiv s2 ⟨y,H2,I2,ry,ov,g,q2⟩=>Calls.spliced_nil ?_;exact PD hu I2 g ry λw' s3 I3 rP=>{_,H2,I3,rP,q2}
theorem HH(hu:X.A.units+1<cLine)(ho:PE X o td)(he:PE X e ty)(hf:PE X f tx)(m:M2 X o "get" apos e f aO):PE X (.Call (.Attribute o "get" apos) [e,f] [] aO) (PJ td ty tx):=by intro pins s σ H Q I h;refine wpAny_Call_method m.base m.G7 m.line PySem.F.plainAttrs_dict yy PySem.F.type_dict_get<|bt (ho pins s σ H _ I h) λu s1 ⟨x,H1,I1,rx,a,ex,d,q1⟩=>?_;subst ex;obtain rfl:u=Value.ref a:=rx;obtain⟨t1,t2,_⟩:=v9 I1 d;refine{t1,t2,?_};rw[m.trees];refine Calls.callWith_builtin rfl<|Calls.evalArgs_plain<|yE<|bt (he pins s1 σ H1 _ I1 q1) λiv s2 ⟨y,H2,I2,ry,q2⟩=>yE<|bt (hf pins s2 σ H2 _ I2 q2) λfv s3 ⟨z,H3,I3,rz,ov,g,q3⟩=>Calls.spliced_nil ?_;exact PF hu I3 g ry rz λw' s4 I4 rP=>{_,H3,I4,rP,q3}
theorem HJ(ho:PE X o td)(he:PE X e ty)(m:M1 X o "pop" apos e aO):PE X (.Call (.Attribute o "pop" apos) [e] [] aO) (PK td ty):=by intro pins s σ H Q I h;refine wpAny_Call_method m.base m.G7 m.line PySem.F.plainAttrs_dict PySem.F.slot_dict_pop PySem.F.type_dict_pop<|bt (ho pins s σ H _ I h) λu s1 ⟨x,H1,I1,rx,a,ex,d,q1⟩=>?_;subst ex;obtain rfl:u=Value.ref a:=rx;obtain⟨t1,t2,_⟩:=v9 I1 d;refine{t1,t2,?_};rw[m.trees];refine Calls.callWith_builtin rfl<|Calls.evalArgs_plain<|yE<|bt (he pins s1 σ H1 _ I1 q1) λiv s2 ⟨y,H2,I2,ry,kvs,k,v,ea,ey,l,q2⟩=>Calls.spliced_nil ?_;subst ey;exact TF I2 ea ry l (.inl rfl) λw' s3 I3 rP=>{v,_,I3,rP,q2}
end
end L2
namespace Att
open PySem PySem.W PySem.Calls PyProof.Rows
theorem qC{P:Params} : ∀(ns:List Int)(vs:List Value),WellAll P h vs (ns.map WData.int)->IntsAre vs ns:=by intro ns;induction ns with|nil=>(intro vs w;rw[List.map_nil]at w;cases w;exact .nil)|cons n ns ih=>intro vs w;rw[zI]at w;cases w with|cons a b=>cases a;exact .cons _ _<|ih _ b
theorem FE{l:OpenLaw}{n:Nat}(hn:l.most=some n){P:Params}{h:Heap}{args:List WData}{vals:List Value} (Lh:l.row.toRowW.claim.pre args=true) (Yk:WellAll P h vals args): ∃a vs ns,vals=[Value.ref a]/\args=[WData.list<|ns.map WData.int]/\h.get? a=some {cls:=.type "list",data:=.seq vs.toArray}/\IntsAre vs ns/\ns.length<=n:=by
 have hsh:WShape.hasAll [] args [.list .int]=true:=(pre_splitW Lh).1;have hc:l.pre.holds [] {args:=args}=true:=(pre_splitW Lh).2;obtain⟨d,r,rfl,h1,h2⟩:=hasAllW_cons hsh;obtain rfl:=hasAllW_nil h2;obtain⟨xs,rfl,h3⟩:=hasW_list h1;obtain⟨ns,rfl⟩:=items_int h3;have hlen:ns.length<=n:=by unfold OpenLaw.pre at hc;have h4:(WTm.not<|.lt (.lit<|.int (n:Int))<|.len<|.arg 0).holds [] {args:=[.list<|ns.map .int]}=true:=(by have h4:=(holds_andW hc).1;rw[hn]at h4;exact h4);have h5:=condW_of h4<|w_not<|w_lt w_lit<|w_len_list<|w_arg rfl;rw[za]at h5;refine Nat.le_of_not_lt λq=>?_;have q':(n:Int)<((ns.length:Nat):Int):=(by lia);first| (rw[zu q']at h5;exact absurd h5<|by decide)| (simp at h5;lia)
 cases Yk with|cons w1 w2=>cases w2;cases w1 with|list ho Yl=>exact{_,_,ns,rfl,rfl,ho,qC ns _ Yl,hlen}
theorem FF(l:OpenLaw)(args:List WData):l.row.toRowW.claim.post args (.bool true) args=true:=postW_of (r:=l.row.toRowW) (X:=(true==true)) (show WShape.has [] (.bool true) .bool=true by first|rfl|decide|simp[WShape.has,WShape.arms,WShape.armsAll]) (show(WTm.eq .res<|.lit<|.bool true).value [] {args:=args,res:=some<|.bool true,after:=args}=some (.bool<|true==true) from w_eq_bool (w_res rfl) w_lit) rfl
theorem y0{l:OpenLaw}{n:Nat}{q:Program}{loose:List Str}{XP:(Str->Option Value)->Heap->Prop}{YP:World->Heap->Prop}{d:DefRec} (hn:l.most=some n) (Ym:d.params.defaults=[]) (call:∀(w:World)(dF aZ:Shared)(mg mb:Str->Option Value)(fa:Addr)(o:Obj)(pm cd doc:Value)(a:Addr)(vs:List Value)(ns:List Int),Ground q loose [] XP w dF mg mb aZ.heap->YP w aZ.heap->aZ.heap.get? fa=some o->o.data=.func (docDef d.name d.params d.body d.scope pm cd doc)->aZ.heap.CodeRec cd d.name->mg d.name=some (.ref fa)->aZ.heap.get? a=some {cls:=.type "list",data:=.seq vs.toArray}->IntsAre vs ns->ns.length<=n->aZ.gens=#[]->codeAny (model l.prog w) callerA (.call (.ref fa) {[.ref a],[]}) (λr s'=>r=.ok (.ret<|.bool true)/\OldK aZ.heap s'.heap/\s'.os=aZ.os/\AllBare s'.gens) aZ): WalkO q loose XP YP l.row.toRowW d [] (λf vs=>PySem.call f vs):=by intro w dF aZ mg mb G Y fa o pm cd doc dV kV ho hd t9 hD PL hg args vals as Lh acJ hrd Yk hlo;obtain rfl:dV=.none:=Dflts.none hD Ym;obtain rfl:kV=.none:=Dflts.noKw hD;obtain⟨a,vs,ns,rfl,rfl,PM,hints,hlen⟩:=FE hn Lh Yk;refine enter_call<|yT (call w dF aZ mg mb fa o pm cd doc a vs ns G Y ho (fd_plain hd) t9 PL PM hints hlen hg) λr s' hq=>?_;obtain⟨rfl,h2,h3,h4⟩:=hq;exact{.inl {.bool true,.bool true,[],rfl,λ_=>rfl,.bool true,FF l _,λ_=>{List.Pairwise.nil,λ_ hm=>(nomatch hm)}},h2,h3,h4}
end Att
namespace L2
open PySem PySem.Spec PyProof.Rows
theorem u1:∀{vs:List Value}{ns:List Int},IntsAre vs ns->Vals (ns.map V.int) vs|_,_,.nil=>.nil|_,_,.cons n t h=>.cons ⟨t,rfl⟩<|u1 h
def inClass(s:Stmt)(j:Nat):Stmt:=match s with|.ClassDef _ _ _ body _ _ _ _ _ _ _=>body.getD j (.Pass {0,0,0,0})|_=>.Pass {0,0,0,0}
def bp(s:Stmt):Arguments:=match s with|.FunctionDef _ a _ _ _ _ _ _ _ _=>a|_=>{posonlyargs:=[],args:=[],vararg:=none,kwonlyargs:=[],kw_defaults:=[],kwarg:=none,defaults:=[]}
def bh(s:Stmt):List Stmt:=match s with|.FunctionDef _ _ b _ _ _ _ _ _ _=>b|_=>[]
def ae(s:Stmt):Scope:=match s with|.FunctionDef _ _ _ _ _ _ sc _ _ _=>sc|_=>{kind:=.function,names:=[],isGenerator:=false,isCoroutine:=false}
abbrev WH:BM:=λ_ _ _ _ _ _=>False
abbrev E0:XK:=λ_ _ _=>False
structure Fun(K:Frag)(x qual:Str)(st:Stmt)(f:Addr)(fd:FuncData):Prop where
 ex:∃(oc:Value)(od:Option Addr)(kV doc pm:Value)(an:Option Addr)(g_ ct:Value)(Pn:Array (Option Value)),
  fd=fnOf x qual (bp st) (bh st) (ae st) .none kV doc pm an g_ ct/\K.lookup f=some {oc,od,.func fd,Pn}/\codeIn K g_ qual=true
 kp:keepIn K (.ref f)=true
theorem kB(h:n<=1000):n<sizeLine:=Nat.lt_of_le_of_lt h<|by decide
section
variable{X:Cx}
theorem FG:fe X (.builtin "len") (λxs H Q=>∃a kvs,xs=[V.ref a]/\H a=some (.dK kvs)/\Q (.int kvs.length) H):=by intro pins s σ H xs us Q I r h;obtain⟨a,kvs,rfl,ha,q⟩:=h;obtain⟨u,rfl,ru⟩:=vals1 r;cases ru;exact TH I (.inl ha) λt s' I'=>{.int kvs.length,H,I',⟨t,rfl⟩,q}
end
theorem a_{A B:Prop}(h:B):if false=true then A else B:=by rw[if_neg zd];exact h
theorem dG{A B:Prop}(h:A):if true=true then A else B:=by rw[if_pos rfl];exact h
section
variable{κ:Type}[DecidableEq κ]
theorem mM:∀{l:List κ}{k:κ},l.Nodup->¬k∈l->(l++[k]).Nodup|[],k,_,_=>by simp|a::r,k,h,hk=>by obtain⟨h1,h2⟩:=yo.mp h;show(a::(r++[k])).Nodup;refine yo.mpr {λm=>?_,mM h2 λm=>hk<|zh.mpr<|Or.inr m};rcases zP.mp m with q|q;exact h1 q;exact hk<|zh.mpr<|Or.inl (zE.mp q).symm
end
end L2
set_option maxHeartbeats 4000000
namespace L2
open PySem PySem.Spec PyProof.Rows
section
variable{X:Cx}
noncomputable def G8(i j:Str):Bool:=!decide (j.cps.toList<i.cps.toList)
noncomputable def u3(i j:Str):Bool:=decide<|i.cps.toList<j.cps.toList
def Yn(g:Str->Str->Bool):R2:=λx y H Q=>∃i j,x=.str i/\y=.str j/\Q (.bl<|g i j) H
theorem FH:hU X (compareOp .LtE) (Yn G8):=by intro pins s σ H x y v u Q I rx ry h;obtain⟨i,j,rfl,rfl,q⟩:=h;obtain⟨t,rfl⟩:=rx;obtain⟨t',rfl⟩:=ry;exact P.le_str<|aJ I q rfl
theorem FI:hU X (compareOp .GtE) (Yn λi j=>G8 j i):=by intro pins s σ H x y v u Q I rx ry h;obtain⟨i,j,rfl,rfl,q⟩:=h;obtain⟨t,rfl⟩:=rx;obtain⟨t',rfl⟩:=ry;exact P.ge_str<|aJ I q rfl
theorem FJ:hU X (compareOp .Gt) (Yn λi j=>u3 j i):=by intro pins s σ H x y v u Q I rx ry h;obtain⟨i,j,rfl,rfl,q⟩:=h;obtain⟨t,rfl⟩:=rx;obtain⟨t',rfl⟩:=ry;exact P.gt_str<|aJ I q rfl
def Nu(_ j:Int):Prop:=0<j/\j.natAbs.log2<9000
theorem HK:hU X (binaryOp .FloorDiv) (rI Nu λi j=>.int<|i/j):=WB λi j _ _ _ _ _ hc q=>by
 have hj:j≠0:=by have:=hc.1;omega
 exact floordiv_int hj (by rw[Int.fdiv_eq_ediv_of_nonneg _<|by have:=hc.1;omega];exact q)<|.inl<|PyProof.noPylong_of_log2 hc.2
end
noncomputable def Yo(x:Str):It:={λi _=>i<x.cps.size,λi H v H'=>H'=H/\∃c,x.cps[i]?=some c/\v=.str ⟨#[c]⟩,λi _=>x.cps.size<=i}
theorem y1{P:Program}{w:World}{K:Frag}{tg:Expr}{T:String}(hT:["enumerate","zip","dict_itemiterator","dict_reverseitemiterator","odict_iterator","itertools.zip_longest","itertools.pairwise"].contains T=false)(it:Addr)(x:Str)(t:Tok)
  (W:∀A':Around,A'.handled=none->Walks P w A' it [it] [it] x.cps.size (SignAt x) (λi h=>h.IsStrIter it T x t i))
  (Yp:∀(A:Around)(s:Shared)(E:Value->Shared->Prop)(i:Nat)(Q:Option Value->Shared->Prop),A.handled=none->s.heap.IsStrIter it T x t i->x.cps[i]?=none->(∀h',Heap.ExtBut it s.heap h'->Q none {s with heap:=h'})->wpAny (model P w) A (pyNext<|.ref it) Q E s)
  (TK:∀(A:Around)(s:Shared)(E:Value->Shared->Prop)(i:Nat)(Q:Value->Shared->Prop),s.heap.IsStrIter it T x t i->Q (.ref it) s->wpAny (model P w) A (pyIter<|.ref it) Q E s):
  Turn P w K tg (Yo x) [it] it (λi h=>h.IsStrIter it T x t i) where
 mem:=by simp
 obj:=λi h st b hb=>by
  have e:b=it:=by simpa using hb
  subst e
  obtain⟨o,e,c,d⟩:=st
  exact{o,e,λv z=>by rw[d]at z;cases z}
 keep:=λi h h' st k=>by
  obtain⟨o,e,c,d⟩:=st
  exact{o,k it (by simp) o e,c,d}
 item:=by
  intro X hP hw hK hc i pins s σ H E I hf st hg
  subst hP hw hK
  obtain⟨f0,f1,f2,f3,f4,f5⟩:=hf it<|by simp
  refine(W X.A<|I.ok.hd hc).item i s _ _ hg st λv h' tk hv dP kk=>?_
  obtain⟨c,u,Li,rfl⟩:=hv
  have I1:Inv X pins σ H {s with heap:=h',toks:=tk}:=I.turned (λb o hb e=>kk b o (by simpa using hb) e) f0 f1 f3 f4 f5
  obtain⟨o,e,c',d⟩:=id dP
  exact{_,rfl,uS (s:={s with heap:=h',toks:=tk}) e c' d hT {.str ⟨#[c]⟩,H,I1,⟨u,rfl⟩,⟨rfl,c,Li,rfl⟩,dP,λb hb=>(hf b hb).1}}
 done:=by
  intro X hP hw hK hc i pins s σ H E I hf st hg
  subst hP hw hK
  obtain⟨f0,f1,f2,f3,f4,f5⟩:=hf it<|by simp
  have hg:x.cps.size<=i:=hg
  exact Yp X.A s E i _ (I.ok.hd hc) st (by simp;exact hg) λh' eb=>{rfl,I.turned (t':=s.toks) (λb o hb e=>eb b o hb e) f0 f1 f3 f4 f5}
 self:=λA' i s Q E st h=>TK A' s E i Q st h
section
variable{X:Cx}{tg:Expr}
def Yq(tl:TE):TI:=λσ H R=>tl σ H λx H1=>∃z,x=.str z/\R (Yo z) H1
theorem PN(hl:PE X l tl):PI X tg l (Yq tl):=by
 intro pins s σ H R I h;refine bt (hl pins s σ H _ I h) λv s1 ⟨x,H1,I1,r1,q1⟩=>?_;obtain⟨z,e,q⟩:=q1;subst e;obtain⟨t,rfl⟩:=r1;have fin:∀(T:String)(_:Turn X.prog X.w X.K tg (Yo z) [s1.heap.objs.size] s1.heap.objs.size (λi h=>h.IsStrIter s1.heap.objs.size T z t i)),XW X pins σ tg R (.ref s1.heap.objs.size) {s1 with heap:=s1.heap.push {cls:=.type T,data:=.fields #[.str z t,.int 0 0]}}:=λT tn=>by refine{s1.heap.objs.size,[s1.heap.objs.size],_,_,H1,rfl,I1.kept (t':=s1.toks) λb o e=>zb _ e,tn,{_,zj _ rfl,rfl,rfl},λb hb=>?_,q};have e:b=s1.heap.objs.size:=(by simpa using hb);subst e;exact I1.qz (zr _)<|I1.aL.fresh<|zr _
 cases ha:z.cps.all (·<128);exact wpAny_pyIter_wide ha<|fin _<|y1 (by decide) _ z t (λA' hA=>Walks.strWide hA _ z t) (λA s E i Q hh st hx hQ=>wpAny_pyNext_wide_end hh st hx hQ) λA s E i Q st hq=>wpAny_pyIter_striter_wide st hq;exact wpAny_pyIter_ascii ha<|fin _<|y1 (by decide) _ z t (λA' hA=>Walks.strAscii hA _ z t) (λA s E i Q hh st hx hQ=>wpAny_pyNext_ascii_end hh st hx hQ) λA s E i Q st hq=>wpAny_pyIter_striter_ascii st hq
end
noncomputable def clOf(cells:List<|Str×Addr)(names:List<|Str×NameKind):List (Str×Addr):=names.foldl (λcs p=>if p.2==.free then match cells.lookup p.1 with|some a=>(p.1,a)::cs|none=>cs else cs) []
theorem rW(cells:List<|Str×Addr):∀(names:List (Str×NameKind))(cs:List (Str×Addr)),(∀x c,cs.lookup x=some c->cells.lookup x=some c)->∀x c,(names.foldl (λcs p=>if p.2==.free then match cells.lookup p.1 with|some a=>(p.1,a)::cs|none=>cs else cs) cs).lookup x=some c->cells.lookup x=some c|[],cs,h=>h| (n,k)::r,cs,h=>by rw[yO];refine rW cells r _ λx c e=>?_;dsimp only at e;split at e;split at e;rename_i a ha;rw[yc]at e;split at e;rename_i hx;have:=LawfulBEq.eq_of_beq hx;cases e;rw[this];exact ha;exact h x c e;exact h x c e;exact h x c e
theorem u4(cells:List<|Str×Addr):∀(names:List (Str×NameKind))(cs:List (Str×Addr))(x:Str)(c:Addr),(∀y c,cs.lookup y=some c->cells.lookup y=some c)->cs.lookup x=some c->(names.foldl (λcs p=>if p.2==.free then match cells.lookup p.1 with|some a=>(p.1,a)::cs|none=>cs else cs) cs).lookup x=some c
 |[],cs,x,c,_,h=>h
 | (n,k)::r,cs,x,c,hs,h=>by
  rw[yO];have WI:∀y c,(if (k==NameKind.free)=true then match cells.lookup n with|some a=>(n,a)::cs|none=>cs else cs).lookup y=some c->cells.lookup y=some c:=by intro y c e;split at e;split at e;rename_i a ha;rw[yc]at e;split at e;rename_i hx;have:=LawfulBEq.eq_of_beq hx;cases e;rw[this];exact ha;exact hs y c e;exact hs y c e;exact hs y c e
  refine u4 cells r _ x c WI ?_;dsimp only;split;split;rename_i a ha;rw[yc];split;rename_i hx;have:=LawfulBEq.eq_of_beq hx;rw[this]at h;have:=hs _ _ h;rw[ha]at this;exact this;exact h;exact h;exact h
theorem jD(cells:List<|Str×Addr):∀(names:List (Str×NameKind))(cs:List (Str×Addr))(x:Str)(c:Addr),(∀y c,cs.lookup y=some c->cells.lookup y=some c)->(x,NameKind.free)∈names->cells.lookup x=some c->(names.foldl (λcs p=>if p.2==.free then match cells.lookup p.1 with|some a=>(p.1,a)::cs|none=>cs else cs) cs).lookup x=some c
 |[],cs,x,c,_,h,_=>nomatch h
 | (n,k)::r,cs,x,c,hs,h,hc=>by
  rw[yO];have WI:∀y c,(if (k==NameKind.free)=true then match cells.lookup n with|some a=>(n,a)::cs|none=>cs else cs).lookup y=some c->cells.lookup y=some c:=by intro y c e;split at e;split at e;rename_i a ha;rw[yc]at e;split at e;rename_i hx;have:=LawfulBEq.eq_of_beq hx;cases e;rw[this];exact ha;exact hs y c e;exact hs y c e;exact hs y c e
  rcases zh.mp h with e|h;cases e;refine u4 cells r _ _ c WI ?_;dsimp only;rw[if_pos<|show(NameKind.free==NameKind.free)=true by decide,hc];simp[yc];exact jD cells r _ x c WI h hc
theorem gO{scope:Scope}{env:Env}(h:∀x∈scope.names,x.2=.free->∃c,env.cells.lookup x.1=some c):closureFor scope env=pure (clOf env.cells scope.names):=by
 have go:∀(names:List (Str×NameKind))(cs:List (Str×Addr)),(∀x∈names,x.2=.free->∃c,env.cells.lookup x.1=some c)->(forIn names cs λx r=>match x with|(name,kind)=>if (kind==NameKind.free)=true then do let a <-cellOf env name;pure (ForInStep.yield<|(name,a)::r) else pure (ForInStep.yield r):Sem (List<|Str×Addr))=pure (names.foldl (λcs p=>if p.2==.free then match env.cells.lookup p.1 with|some a=>(p.1,a)::cs|none=>cs else cs) cs):=by intro names;induction names with|nil=>intro cs _;rfl|cons p r ih=>intro cs hp;obtain⟨n,k⟩:=p;rw[List.forIn_cons,yO];by_cases hk:k=.free;subst hk;obtain⟨c,hc⟩:=hp _ zo rfl;have hc:env.cells.lookup n=some c:=hc;have e1:cellOf env n=pure c:=(by unfold cellOf;rw[hc]);have ef:(NameKind.free==NameKind.free)=true:=(by decide);dsimp only;rw[if_pos ef,if_pos ef,e1,hc];exact ih _ λx hx=>hp x<|zi _ hx;have HL:(k==NameKind.free)=false:=(by simpa using hk);dsimp only;rw[HL,if_neg zd,if_neg zd];exact ih _ λx hx=>hp x<|zi _ hx
 have e:=go scope.names [] h;have e2:closureFor scope env=(forIn scope.names [] (λx r=>match x with|(name,kind)=>if (kind==NameKind.free)=true then do let a <-cellOf env name;pure (ForInStep.yield<|(name,a)::r) else pure (ForInStep.yield r)):Sem (List<|Str×Addr)) >>=λcs=>pure cs:=rfl;rw[e2,e];rfl
theorem jE{env:Env}{names:List<|Str×NameKind}{x:Str} : (names.map λ(n,k)=>if (k==NameKind.free&&env.scope.kind==.function&&env.kindOf n==some .cell) then (n,NameKind.cell) else (n,k)).lookup x=(names.lookup x).map λk=>if (k==NameKind.free&&env.scope.kind==.function&&env.kindOf x==some .cell) then NameKind.cell else k:=by induction names with|nil=>rfl|cons p r ih=>obtain⟨n,k⟩:=p;rw[zI,yc];by_cases hc:(k==NameKind.free&&env.scope.kind==.function&&env.kindOf n==some .cell)=true;dsimp only;rw[if_pos hc,yc];(cases hx:x==n with|true=>have:=LawfulBEq.eq_of_beq hx;subst this;dsimp only[Option.map];rw[if_pos hc]|false=>exact ih);dsimp only;rw[if_neg hc,yc];cases hx:x==n with|true=>have:=LawfulBEq.eq_of_beq hx;subst this;dsimp only[Option.map];rw[if_neg hc]|false=>exact ih
noncomputable def i_(X:Cx)(N:List Str)(scope:Scope)(C:Addr)(s:Shared)(H:Hp)(ex:List Addr)(pn:List<|Addr×Obj):Cx:={X with N:=N,dF:=s,vX:=H,env:=compEnvC scope (clOf X.env.cells scope.names) C X.env,outer:=X.stack,ex:=ex,fn:=λ_=>false,pn:=pn,xe:=λ_ _=>False}
noncomputable def pick(σ:St)(src:List<|Option Nat):St:=src.map λo=>match o with|some j=>(σ[j]?).join|none=>none
structure bM(X:Cx)(N:List Str)(src:List (Option Nat))(scope:Scope):Prop where
 kind:scope.kind=.function
 gQ:∀y∈scope.names,y.2≠.cell
 loc:∀y∈scope.names,y.2=.local->scope.names.lookup y.1=some .local
 Br:∀y∈scope.names,y.2=.free->X.env.kindOf y.1=some .cell\/X.env.kindOf y.1=some .free
 len:src.length=N.length
 src:∀(i j:Nat)(x:Str),src[i]?=some (some j)->N[i]?=some x->X.N[j]?=some x/\scope.names.lookup x=some .free/\OH X.env.scope x
def Ext(σ aI:St):Prop:=aI.length=σ.length/\∀(j:Nat) v,σ[j]?=some (some v)->aI[j]?=some (some v)
def BV(g:TG)(src:List<|Option Nat):Prop:=∀x σ H Q,g x (pick σ src) H Q->g x (pick σ src) H λaI H'=>Ext (pick σ src) aI/\Q aI H'
def HM(wi:TI)(src:List<|Option Nat)(g:TG)(tc:TT)(te:TE):TE:=λσ H Q=>wi σ H λJ H1=>∃W:Nat->Nat->List V->Hp->Prop,(∃m,W 0 m [] H1)/\∀i m out H',W i m out H'->(J.stop i H'/\∀D,H' D=none->Q (.ref D) (upd H' D<|.lst out))\/(J.go i H'/\out.length<sizeLine/\∀x H2,J.SS i H' x H2->g x (pick σ src) H2 λfw H3=>tc fw H3 λb H4=>if b=true then te fw H4 λv H5=>∃m',m'<m/\W (i+1) m' (out++[v]) H5 else ∃m',m'<m/\W (i+1) m' out H4)
section
variable{X:Cx}{N:List Str}{src:List (Option Nat)}{scope:Scope}{tg iter elt:Expr}{ifs:List Expr}{pos:Pos}{wi:TI}{g:TG}{tc:TT}{te:TE}
def RP(X:Cx)(ifs:List Expr)(t:TT):Prop:=∀(pins:List (Addr×Obj))(s:Shared)(σ:St)(H:Hp)(Q:Bool->Hp->Prop),Inv X pins σ H s->t σ H Q->wpAny (model X.prog X.w) X.A (forIn ifs true λc r=>if r=true then do let ok <-isTrue c X.env (eval c X.env);pure (ForInStep.yield ok) else pure (ForInStep.yield r)) (TP X pins σ Q) X.xe s
def TL:TT:=λ_ H Q=>Q true H
theorem Lj:RP X [] TL:=λpins s σ H Q I h=>wpAny_tests_nil ⟨H,I,h⟩
theorem Lk{t:TT}(h:PT X c t):RP X [c] t:=λpins s σ H Q I hw=>wpAny_tests_one<|h pins s σ H Q I hw
theorem kN(RQ:∀x s',EE x s'->notedBy (model prog w) A env (λe s'=>R (.error e) s') x s')(I:Nat->Shared->Prop)
  (turn:∀n s,I n s->wpAny (model prog w) A (pyNext it) (λr aZ=>match r with
   |none=>R (.ok .next) aZ
   |some v=>wpAny (model prog w) A (letOwnedTupleGo target it v) (λ_ Nv=>wpAny (model prog w) A (assign target env v) (λ_ bV =>
     wpAny (model prog w) A (forIn ifs true λc r=>if r=true then do let ok <-isTrue c env (eval c env);pure (ForInStep.yield ok) else pure (ForInStep.yield r)) (λok BB =>
      if ok=true then wpAny (model prog w) A (eval elt env) (λx y3 =>
       wpAny (model prog w) A (call (.builtin "list.append") [acc,x]) (λ_ TM=>∃m,m<n/\I m TM) EE y3) EE BB
      else ∃m,m<n/\I m BB) EE bV) EE Nv) EE aZ) EE s)
  (n:Nat) (h:I n s):
  codeAny (model prog w) A (.compLoop (.ListComp elt [{target,iter,ifs,0}] scope pos) 0 it acc env) R s:=by
 refine codeAny_loop rfl I (λn s hI=>?_) n h
 show wpAny _ A ((compTurn (.ListComp elt [{target,iter,ifs,0}] scope pos) 0 it acc env).onRaise λx=>do noteFrame x env;theTreesLotGoes x) _ _ s
 refine wpAny_noted ?_
 rw[compTurn_list]
 refine zc<|wpAny_standAt<|zc<|yF (turn n s hI) (λr aZ h₁=>?_) RQ
 cases r with
 |none=>exact zA h₁
 |some v =>
  refine zc<|yF h₁ (λ_ Nv TN=>?_) RQ
  refine zc<|yF TN (λ_ bV Yr=>zc<|yF Yr (λok BB TQ=>?_) RQ) RQ
  cases ok with
  |false=>exact zA ⟨rfl,TQ⟩
  |true =>
   exact zc<|zc<|yF TQ (λx y3 Ys=>zc<|yF Ys (λ_ TM Yt=>zA<|zA ⟨rfl,Yt⟩) RQ) RQ
def CompEnd(X:Cx)(pins:List<|Addr×Obj)(σ:St)(Q:VK)(D C:Addr)(s':Shared):Prop:=∃H' m,Inv X pins σ H' s'/\Q (.ref D) H'/\s'.heap.Ns C m/\H' C=none/\C≠X.env.locals/\X.dF.heap.objs.size<=C/\(∀x c,X.env.cells.lookup x=some c->c≠C)/\(∀p∈X.pn++pins,p.1≠C)
theorem u5{pins:List<|Addr×Obj}{bV:Shared}{σ:St}{jo:Hp}{Q:VK}{it:Addr}{fp:List Addr}{tn:Nat->Heap->Prop}{J:It}{E:Value->Shared->Prop}(S:bM X N src scope)(hc:X.calm=true) (hg:∀C s H ex pn,PG (i_ X N scope C s H ex pn) tg g) (hx:BV g src) (hi:∀C s H ex pn,RP (i_ X N scope C s H ex pn) ifs tc) (he:∀C s H ex pn,PE (i_ X N scope C s H ex pn) elt te) (I:Inv X pins σ jo bV) (T:Turn X.prog X.w X.K tg J fp it tn) (st:tn 0 bV.heap) (ff:∀b∈fp,ug X pins jo b) (W:Nat->Nat->List V->Hp->Prop) (w0:∃m,W 0 m [] jo) (turn:∀i m out H',W i m out H'->(J.stop i H'/\∀D,H' D=none->Q (.ref D) (upd H' D<|.lst out))\/(J.go i H'/\out.length<sizeLine/\∀x H2,J.SS i H' x H2->g x (pick σ src) H2 λfw H3=>tc fw H3 λb H4=>if b=true then te fw H4 λv H5=>∃m',m'<m/\W (i+1) m' (out++[v]) H5 else ∃m',m'<m/\W (i+1) m' out H4)) {RR:Value->Addr->Result->Shared->Prop} (hRR:∀D C s',CompEnd X pins σ Q D C s'->RR (.ref D) C (.ok .next) s'): wpAny (model X.prog X.w) X.A (newList []) (λacc BB=>wpAny (model X.prog X.w) X.A (newFunctionEnv scope X.env.globals (clOf X.env.cells scope.names) [] X.env.qual none .none<|some X.env) (λTR y3=>codeAny (model X.prog X.w) X.A (.compStart (.ListComp elt [{tg,iter,ifs,0}] scope pos) 0 (.ref it) acc {TR with scope:=relabel scope X.env}) (RR acc TR.locals) y3) E BB) E bV:=by
 refine yG<|wpAny_newFunctionEnv S.gQ (by intro y hy;simp at hy) (λh₁ v_ rX=>?_) S.kind;dsimp only at v_ rX⊢;generalize Yu:bV.heap.push {cls:=.type "list",dict:=none,data:=.seq ([]:List Value).toArray}=G2 at v_ rX⊢;have hC:G2.objs.size=bV.heap.objs.size+1:=by rw[<-Yu,ya]
 have RS:bV.heap.objs.size≠G2.objs.size:=by rw[hC];exact zB<|Nat.lt_succ_self _
 have Ll:bV.heap.objs.size<=G2.objs.size:=by rw[hC];exact yS _
 have old:∀b o,bV.heap.get? b=some o->h₁.get? b=some o:=λb o e=>rX.extBut b o (zB<|zm (zw e) Ll)<|zb _<|Yu ▸ zb _ e;have rY:h₁.get? bV.heap.objs.size=some {cls:=.type "list",dict:=none,data:=.seq ([]:List Value).toArray}:=rX.extBut _ _ RS<|zb _<|Yu ▸ zj _ rfl;generalize hCC:G2.objs.size=C at hC RS Ll v_ rX⊢;have mO:bV.heap.objs.size<=C:=Ll;generalize hD:bV.heap.objs.size=D at hC RS Ll rY⊢;have ja:∀x c,(clOf X.env.cells scope.names).lookup x=some c->X.env.cells.lookup x=some c:=rW X.env.cells scope.names [] (by intro x c h;simp at h);have HN:∀x c,X.env.cells.lookup x=some c->c<bV.heap.objs.size:=λx c e=>by obtain⟨v,q⟩:=I.cell x c e;exact q.lt
 have PQ:∀b∈fp,b<bV.heap.objs.size:=λb hb=>by obtain⟨o,e,_⟩:=T.obj _ _ st b hb;exact zw e
 have ok:(i_ X N scope C bV jo fp<|X.pn++pins).Ok:=by refine{I.ok.mod,S.kind,I.ok.glob,I.ok.blt,mO,λx y c h1 h2=>I.ok.inj x y c (ja _ _ h1)<|ja _ _ h2,λx hk=>?_,λx c h=>(nomatch h),I.ok.hd,I.ok.frames,.inl rfl,λb hb=>{?_,λx c h=>?_},I.bs,zK I.ok.KJ I.sz,λb o e hb=>?_,λb hb hf=>?_,I.stack,I.qP};have hk:(relabel scope X.env).names.lookup x=some .cell\/(relabel scope X.env).names.lookup x=some .free:=hk;unfold relabel at hk;dsimp only at hk;rw[jE]at hk;(cases hl:scope.names.lookup x with|none=>(rw[hl]at hk;rcases hk with z|z<;>cases z)|some k=>rw[hl]at hk;have hm:=yh hl;have TU:k=.free:=(by by_cases TU:k=.free;exact TU;exfalso;have e1:(k==NameKind.free)=false:=(by simpa using TU);simp only[Option.map,e1,zX,Bool.false_eq_true,if_false]at hk;rcases hk with z|z;exact S.gQ _ hm<|zR z;exact TU<|zR z);subst TU;obtain⟨c,Li⟩:=I.ok.has x<|S.Br _ hm rfl;exact{c,jD X.env.cells scope.names [] x c (by intro x c h;simp at h) hm Li});exact zB<|zm (PQ b hb) mO;exact(ff b hb).2.2.2.2.1 x c<|ja _ _ h;have q:b∈X.ex\/X.dF.heap.objs.size<=b:=(ff b hb).2.2.2.1;rcases q with q|q;exact I.ok.OI b o e q;exact absurd (zm (zw e)<|zK I.ok.KJ q)<|yA _;rcases zh.mp (I.oh b hf) with z|z;exact(ff b hb).2.1 z;exact(ff b hb).2.2.1 z
 have TV:∀p∈X.pn++pins,p.1∉og X.stack:=λp hp z=>by obtain⟨_,_,ne,nf,_⟩:=I.pin p hp;rcases zh.mp (I.oh _ z) with q|q;exact ne q;exact nf q
 have HP:∀p∈X.pn++pins,p.1<bV.heap.objs.size:=λp hp=>zw (I.pin p hp).1;have TY:∀b∈og X.stack,b<bV.heap.objs.size:=λb hb=>by rcases zh.mp (I.oh b hb) with z|z;rw[z];exact I.lt;obtain⟨_,o,ho,_⟩:=I.ok.qy.mem z;exact zm (zw ho) I.sz
 have Yv:∀(i:Nat)(x:Str)(v:V),N[i]?=some x->(pick σ src)[i]?=some (some v)->∃u c,RelV v u/\(clOf X.env.cells scope.names).lookup x=some c/\bV.heap.IsCell c (some u)/\scope.names.lookup x=some .free:=λi x v e1 e2=>by unfold pick at e2;rw[zk]at e2;cases es:src[i]? with|none=>(rw[es]at e2;cases e2)|some o=>rw[es]at e2;cases o with|none=>(cases e2)|some j=>have e3:(σ[j]?).join=some v:=zR e2;have e4:σ[j]?=some (some v):=(by cases q:σ[j]? with|none=>(rw[q]at e3;cases e3)|some z=>rw[q]at e3;exact congrArg some e3);obtain⟨a1,a2,a3⟩:=S.src i j x es e1;obtain⟨m0,_,hl⟩:=I.loc;obtain⟨u,r,l⟩:=hl j x v a1 e4 a3;have hm:=yh a2;have hk:=S.Br _ hm rfl;rcases l with⟨k,_⟩|⟨_,c,Li,z⟩;rcases hk with hk|hk<;>(rw[k]at hk;cases hk);exact{u,c,r,jD X.env.cells scope.names [] x c (by intro x c h;simp at h) hm Li,z,a2}
 have kinds:∀x,scope.names.lookup x=some .free->(compEnvC scope (clOf X.env.cells scope.names) C X.env).kindOf x=some .cell\/(compEnvC scope (clOf X.env.cells scope.names) C X.env).kindOf x=some .free:=λx hx=>by show(relabel scope X.env).names.lookup x=some .cell\/(relabel scope X.env).names.lookup x=some .free;unfold relabel;dsimp only;rw[jE,hx];dsimp only[Option.map];split;exact .inl rfl;exact .inr rfl
 have Ic:Inv (i_ X N scope C bV jo fp<|X.pn++pins) [] (pick σ src) jo {bV with heap:=h₁,toks:=bV.toks+([]:List (Str×Value)).length}:=by refine{ok,rfl,I.bare,Un.kept old,{_,v_,λi x v e1 e2 e3=>?_},λx c e=>?_,I.aL.fresh mO,λx c e=>I.gw x c<|ja x c e,λp hp=>?_,I.aL.kept old,?_};obtain⟨u,c,r,e5,⟨o,ho,hd⟩,hf⟩:=Yv i x v e1 e2;exact{u,r,.inr {kinds x hf,c,e5,{o,old _ _ ho,hd}}};obtain⟨v,o,ho,hd⟩:=I.cell x c<|ja x c e;exact{v,o,old _ _ ho,hd};have hp:p∈X.pn++pins:=(by simpa [i_]using hp);obtain⟨e,n,_,_,d⟩:=I.pin p hp;exact{old _ _ e,n,zB<|zm (HP p hp) mO,TV p hp,d};show(pick σ src).length=N.length;unfold pick;rw[za,S.len]
 have y4:bV.heap.objs.size<=D:=Nat.le_of_eq hD;have PR:D∉og X.stack:=λz=>absurd (zm (TY D z) y4)<|yA _;have Nx:D∉fp:=λz=>absurd (zm (PQ D z) y4)<|yA _;have qz:∀{pl:List (Addr×Obj)}{H':Hp},(∀b∈fp,H' b=none)->(∀p∈pl,p.1∉fp)->∀b∈fp,ug (i_ X N scope C bV jo fp<|X.pn++pins) pl H' b:=λ{pl H'} hn dN b hb=>by obtain⟨f0,f1,f2,f3,f4,f5⟩:=ff b hb;refine{hn b hb,zB<|zm (PQ b hb) mO,λz=>?_,.inl hb,λx c e=>f4 x c<|ja x c e,λp hp=>?_};rcases zh.mp (I.oh b z) with q|q;exact f1 q;exact f2 q;have hp:p∈(X.pn++pins)++pl:=hp;rcases zP.mp hp with hp|hp;exact f5 p hp;exact λz=>dN p hp<|z ▸ hb
 have back:∀{s':Shared}{H':Hp}{out:List V}{ay:List Value}{nn:Nat}{aI:St},Inv (i_ X N scope C bV jo fp<|X.pn++pins) [] aI H' s'->H' D=none->out.length<=sizeLine->Vals out ay->s'.heap.get? D=some {cls:=.type "list",data:=.seq ay.toArray nn}->(∀D,H' D=none->Q (.ref D) (upd H' D<|.lst out))->CompEnd X pins σ Q D C s':=λ{s' H' out ay nn aI} I' hn hl hv ho q=>by obtain⟨m,hm,_⟩:=I'.loc;have un:Un (og X.stack) fp jo H' bV.heap s'.heap:=I'.base;have neD:∀b o,bV.heap.get? b=some o->b≠D:=λb o e=>zB<|zm (zw e) y4;have fD:jo D=none:=I.aL.fresh y4;refine{upd H' D<|.lst out,m,?_,q D hn,hm,by rw[aw<|Ne.symm RS];exact I'.free,yn<|zm I.lt mO,zK I.sz mO,λx c e=>zB<|zm (HN x c e) mO,λp hp=>zB<|zm (HP p hp) mO};refine I.SI (ch:=fp) I'.os {un.keep,un.slot,λb o e n hb=>?_,un.there,λb xs e=>?_,λb o u e=>?_,λb ps e=>?_} (λb o e=>?_) I'.bare λb hb=>?_;rw[aw<|neD b o e];exact un.free b o e n hb;rw[aw<|aC e fD];exact un.mG b xs e;rw[aw<|aC e fD];exact un.lS b o u e;rw[aw<|aC e fD];exact un.lT b ps e;by_cases hb:b=D;subst hb;rw[aF]at e;cases e;exact⟨hl,ay,nn,hv,ho⟩;rw[aw hb]at e;refine(I'.aL b o e).qx (λc v _ q=>q) (λc q=>?_) λc xs q=>?_;rw[aw<|aC q hn];exact q;rw[aw<|aC q hn];exact q;obtain⟨f0,f1,f2,f3,f4,f5⟩:=ff b hb;exact⟨f3,f1,f4,f5⟩
 obtain⟨m0,w0⟩:=w0;have loop:∀y3:Shared,y3={bV with heap:=h₁,toks:=bV.toks+([]:List (Str×Value)).length}->codeAny (model X.prog X.w) X.A (.compLoop (.ListComp elt [{tg,iter,ifs,0}] scope pos) 0 (.ref it) (.ref D)<|compEnvC scope (clOf X.env.cells scope.names) C X.env) (RR (.ref D) C) y3:=by rintro y3 rfl;refine kN (EE:=λ_ _=>False) (λ_ _ f=>f.elim) (λn s'=>∃i out ay nn H',Inv (i_ X N scope C bV jo fp<|X.pn++pins) [] (pick σ src) H' s'/\H' D=none/\out.length<=sizeLine/\Vals out ay/\s'.heap.get? D=some {cls:=.type "list",data:=.seq ay.toArray nn}/\tn i s'.heap/\(∀b∈fp,H' b=none)/\W i n out H') ?_ m0 {0,[],[],0,jo,Ic,I.aL.fresh y4,zT _,.nil,rY,T.keep _ _ _ st λb hb o e=>old b o e,λb hb=>(ff b hb).1,w0};rintro n s3 ⟨i,out,ay,nn,H3,I3,hD3,Yw,WJ,WK,Bq,SW,w3⟩;have PU:∀(ay:List Value) (nn:Nat) (v:Option Value),({cls:=.type "list",data:=.seq ay.toArray nn} : Obj).data≠.cell v:=λ_ _ _ z=>nomatch z;have I3p:Inv (i_ X N scope C bV jo fp<|X.pn++pins) [(D,{cls:=.type "list",data:=.seq ay.toArray nn})] (pick σ src) H3 s3:=I3.mH λp hp=>(by have e:p=(D,{cls:=.type "list",data:=.seq ay.toArray nn}):=(by simpa using hp);subst e;exact{WK,hD3,RS,PR,PU ay nn});have Yx:∀p∈[((D,{cls:=.type "list",data:=.seq ay.toArray nn}):Addr×Obj)],p.1∉fp:=λp hp=>(by have e:p=(D,{cls:=.type "list",data:=.seq ay.toArray nn}):=(by simpa using hp);subst e;exact Nx);rcases turn i n out H3 w3 with⟨stop,qn⟩|⟨go,eO,step⟩;refine bt (T.done (i_ X N scope C bV jo fp<|X.pn++pins) rfl rfl rfl hc i _ s3 _ H3 _ I3p (qz SW Yx) Bq stop) λr s4 ⟨hr,I4⟩=>?_;subst hr;have p4:=(I4.pin (D,{cls:=.type "list",data:=.seq ay.toArray nn})<|zD _<|by simp).1;exact hRR D C s4<|back (I4.mH (pins':=[]) λp hp=>nomatch hp) hD3 Yw WJ p4 qn;refine bt (T.item (i_ X N scope C bV jo fp<|X.pn++pins) rfl rfl rfl hc i _ s3 _ H3 _ I3p (qz SW Yx) Bq go) λr s4 ⟨u,hr,h4⟩=>?_;subst hr;refine bt h4 λ_ s5 ⟨x,H5,I5,r5,y5,Kj,fr5⟩=>?_;have XZ:=I5.pinned (qz fr5 Yx)<|T.obj _ _ Kj;refine bt (hg _ _ _ _ _ _ s5 _ H5 x u _ XZ r5<|hx x σ H5 _<|step x H5 y5) λ_ s6 ⟨SX,H6,I6,e6,q6⟩=>?_;have fin:∀{s7:Shared}{H7:Hp},Inv (i_ X N scope C bV jo fp<|X.pn++pins) ([(D,{cls:=.type "list",data:=.seq ay.toArray nn})]++rL fp s5.heap) SX H7 s7->Inv (i_ X N scope C bV jo fp<|X.pn++pins) [] (pick σ src) H7 s7/\H7 D=none/\s7.heap.get? D=some {cls:=.type "list",data:=.seq ay.toArray nn}/\tn (i+1) s7.heap/\∀b∈fp,H7 b=none:=λ{s7 H7} I7=>(by have pD:=I7.pin (D,{cls:=.type "list",data:=.seq ay.toArray nn})<|zD _ (by simp);refine{(I7.mH (pins':=[]) λp hp=>nomatch hp).weak e6.1.symm e6.2,pD.2.1,pD.1,T.keep _ _ _ Kj λb hb o e=>(I7.pin (b,o)<|zD _<|zD _<|iF hb e).1,λb hb=>?_};obtain⟨o,e,d⟩:=T.obj _ _ Kj b hb;exact(I7.pin (b,o)<|zD _<|zD _<|iF hb e).2.1);refine bt (hi _ _ _ _ _ _ s6 SX H6 _ I6 q6) λb s7 ⟨H7,I7,q7⟩=>?_;cases b with|false=>(rw[if_neg zd]at q7⊢;obtain⟨m',hm,w7⟩:=q7;obtain⟨J7,d7,o7,t7,f7⟩:=fin I7;exact{m',hm,i+1,out,ay,nn,H7,J7,d7,Yw,WJ,o7,t7,f7,w7})|true=>rw[if_pos rfl]at q7⊢;refine bt (he _ _ _ _ _ _ s7 SX H7 _ I7 q7) λv s8 ⟨y,H8,I8,r8,m',hm,w8⟩=>?_;obtain⟨J8,d8,o8,t8,f8⟩:=fin I8;have hsz:ay.toArray.size<=sizeLine:=(by rw[zp,<-WJ.length];exact Yw);refine wpAny_list_append_plain (items:=ay.toArray) (hsz:=hsz) ⟨nn,o8⟩ λh9 ⟨n9,e9⟩ sb=>?_;have J9:Inv (i_ X N scope C bV jo fp<|X.pn++pins) [] (pick σ src) H8 {s8 with heap:=h9}:=J8.turned (t':=s8.toks) (it:=D) (λb o hb e=>(sb.2 b hb).trans e) d8 RS (.inr y4) (λx c e=>zB<|zm (HN x c<|ja x c e) y4) λp hp=>(by have hp:p∈X.pn++pins:=(by simpa [i_]using hp);exact zB<|zm (HP p hp) y4);refine{m',hm,i+1,out++[y],ay++[v],n9,H8,J9,d8,?_,WJ.append<|.cons r8 .nil,?_,T.keep _ _ _ t8 λb hb o e=>(sb.2 b λz=>Nx<|z ▸ hb).trans e,f8,w8};rw[zt];exact eO;rw[e9];simp
 exact codeAny_compStart_list (loop _ rfl)<|T.self _ _ _ _ _ (T.keep _ _ _ st λb hb o e=>old b o e)<|loop _ rfl
theorem Ln(S:bM X N src scope)(hc:X.calm=true)(hit:PI X tg iter wi) (hg:∀C s H ex pn,PG (i_ X N scope C s H ex pn) tg g) (hx:BV g src) (hi:∀C s H ex pn,RP (i_ X N scope C s H ex pn) ifs tc) (he:∀C s H ex pn,PE (i_ X N scope C s H ex pn) elt te) (hs:autoParam (∀x,foldedSetIterable iter X.env x=pure x) qQ0):PE X (.ListComp elt [{tg,iter,ifs,0}] scope pos) (HM wi src g tc te):=by intro pins s σ H Q I h;rw[eval_ListComp];have Bs:closureFor scope X.env=pure (clOf X.env.cells scope.names):=gO λy hy hf=>I.ok.has y.1<|S.Br y hy hf;refine wpAny_comprehension_free (use:=none) rfl hs Bs S.kind S.loc<|bt (hit pins s σ H _ I h) λv s1 h1=>bt h1 λWz s2 h2=>?_;obtain⟨it,fp,tn,J,H2,e,I2,T,Bp,f2,W,w0,turn⟩:=h2;subst e;refine u5 (RR:=λacc C=>compPost (model X.prog X.w) X.A X.xe none (EP X pins σ Q) acc C) S hc hg hx hi he I2 T Bp f2 W w0 turn λD C s' ⟨H',m,I',q,hm,hn,h1,h2,h3,h4⟩=>?_;exact{m,hm,λh' sb=>{.ref D,H',I'.turned (t':=s'.toks) (it:=C) (λb o hb e=>(sb.2 b hb).trans e) hn h1 (.inr h2) h3 h4,rfl,q}}
theorem BW{i:Nat}{x:Str}{pos' Lo:Pos}(hN:X.N.Nodup)(Yy:X.N[i]?=some x)(y6:X.env.scope.names.lookup x=some .local) (S:bM X N src scope) (hc:X.calm=true) (hit:PI X tg iter wi) (hg:∀C s H ex pn,PG (i_ X N scope C s H ex pn) tg g) (hx:BV g src) (hi:∀C s H ex pn,RP (i_ X N scope C s H ex pn) ifs tc) (he:∀C s H ex pn,PE (i_ X N scope C s H ex pn) elt te) (Yz:autoParam (swapsWith (.ListComp elt [{tg,iter,ifs,0}] scope pos) (some<|.Name x pos') Lo.line X.env=pure true) qQJ) (hs:autoParam (∀x,foldedSetIterable iter X.env x=pure x) qQ0):PS X (.Assign [.Name x pos'] (.ListComp elt [{tg,iter,ifs,0}] scope pos) Lo) (OZ (HM wi src g tc te)<|i9 i):=by
 intro pins s σ H D I h;rw[exec_Assign_Name_used _ _ _ _ Yz];refine zc<|wpAny_standAt<|zc ?_;have Bs:closureFor scope X.env=pure (clOf X.env.cells scope.names):=gO λy hy hf=>I.ok.has y.1<|S.Br y hy hf;show wpAny _ X.A (do let _ <-comprehension (.ListComp elt [⟨tg,iter,ifs,0⟩] scope pos) scope X.env _ (newList []) false (eval iter X.env) (some (assign (.Name x pos') X.env))) _ _ s;refine zc<|yF (wpAny_comprehension_free (use:=some<|assign (.Name x pos') X.env) (Q:=λ_ s'=>∃aI H',Inv X pins aI H' s'/\D.nx aI H') rfl hs Bs S.kind S.loc<|bt (hit pins s σ H _ I h) λv s1 h1=>bt h1 λWz s2 h2=>?_) (λ_ s' hq=>zA<|zA hq) λ_ _ e=>e;obtain⟨it,fp,tn,J,H2,e,I2,T,Bp,f2,W,w0,turn⟩:=h2;subst e;refine u5 (Q:=λv H1=>D.nx (σ.set i<|some v) H1) (RR:=λacc C=>compPost (model X.prog X.w) X.A X.xe (some<|assign (.Name x pos') X.env) (λ_ s'=>∃aI H',Inv X pins aI H' s'/\D.nx aI H') acc C) S hc hg hx hi he I2 T Bp f2 W w0 turn λD' C s' ⟨H',m,I',q,hm,hn,h1,h2,h3,h4⟩=>?_;show wpAny _ X.A (assign (.Name x pos') X.env<|.ref D') _ _ _;refine wpAny_assign_Name<|uR I' hN Yy (.inl y6) (v:=.ref D') rfl (λBN I'' ⟨a,sb,ha⟩=>?_)<|.inr y6;have hCa:C≠a:=by rcases ha with ha|ha;rw[ha];exact h1;exact Ne.symm<|h3 _ _ ha
 refine{m,hm.sameBut sb hCa,λh'' Kk=>{_,H',I''.turned (t':=BN.toks) (it:=C) (λb o hb e=>(Kk.2 b hb).trans e) hn h1 (.inr h2) h3 h4,q}}
end
theorem ot{σ:St}{src:List<|Option Nat}{i:Nat}(h:src[i]?=some none):(pick σ src)[i]?=some none:=by unfold pick;rw[zk,h];rfl
theorem Ext.set(h:σ0[i]?=some none)(e:Ext σ0 σ):Ext σ0 (σ.set i<|some v):=by
 refine{by rw[List.length_set];exact e.1,λj w hj=>?_};have:i≠j:=by rintro rfl;rw[h]at hj;cases hj
 rw[List.getElem?_set_ne this];exact e.2 j w hj
theorem Ext.refl(σ:St):Ext σ σ:={rfl,λ_ _ h=>h}
theorem aU{src:List<|Option Nat}{i:Nat}(h:src[i]?=some none):BV (i9 i) src:=λx σ H Q q=>{(Ext.refl _).set<|ot h,q}
theorem qX{K:Frag}{n:Nat}{src:List<|Option Nat}{i j:Nat}(h:src[i]?=some none)(h':src[j]?=some none):BV (KY K n<|rJ (i9 i)<|rJ (i9 j) KR) src:=λx σ H Q q=>by obtain⟨a,xs,e1,hs,hl,v,r,e2,v2,r2,e3,e4,q⟩:=q;exact{a,xs,e1,hs,hl,v,r,e2,v2,r2,e3,e4,((Ext.refl _).set<|ot h).set<|ot h',q}
theorem all_bools{xs:List V}{ay:List Value}{bs:List Bool}(hv:Vals xs ay)(hb:xs=bs.map V.bl):∀(i:Nat)(v:Value),ay.toArray[i]?=some v->v=Value.bool ((bs[i]?).getD false):=by
 subst hb;intro i v h;have h':ay[i]?=some v:=by simpa using h
 have hl:=hv.length;rw[za]at hl;have hi:i<ay.length:=(ze.mp h').1;have hb:bs[i]?=some (bs[i]'(by lia)):=by simp
 obtain⟨u,hu,r⟩:=hv.get (i:=i) (x:=V.bl<|bs[i]'(by lia)) (by rw[zk,hb];rfl);rw[h']at hu;cases hu;rw[hb];exact r
theorem range_all{bs:List Bool} : (List.range bs.length).all (λi=>(bs[i]?).getD false)=bs.all id:=by rw[yD,zZ,zZ];constructor;intro h b hb;obtain⟨i,hi,rfl⟩:=List.mem_iff_getElem.mp hb;have:=h i<|zS.mpr hi;simpa [hi]using this;intro h i hi;have hi:=zS.mp hi;simpa [hi]using h _ (List.getElem_mem hi)
theorem range_any{bs:List Bool} : (List.range bs.length).any (λi=>(bs[i]?).getD false)=bs.any id:=by rw[yD,List.any_eq_true,List.any_eq_true];constructor;rintro⟨i,hi,h⟩;have hi:=zS.mp hi;exact{bs[i],List.getElem_mem hi,by simpa [hi]using h};rintro⟨b,hb,h⟩;obtain⟨i,hi,rfl⟩:=List.mem_iff_getElem.mp hb;exact{i,zS.mpr hi,by simpa [hi]using h}
section
variable{X:Cx}
theorem ui(hc:X.calm=true):fe X (.builtin "all") (λxs H Q=>∃(a:Addr)(bs:List Bool),xs=[.ref a]/\kz X.K H a (bs.map V.bl)/\Q (.bl<|bs.all id) H):=by
 intro pins s σ H xs us Q I r h;obtain⟨a,bs,rfl,hq,q⟩:=h;obtain⟨u,rfl,ru⟩:=vals1 r;cases ru;obtain⟨ay,rv,p,hz⟩:=I.list hq;have hl:=rv.length;rw[za]at hl;refine call_all_walk<|wpAny_pyIter_list p.isList ?_;refine{s.heap.objs.size,_,_,_,_,_,λi=>(bs[i]?).getD false,rfl,Walks.list (A:=X.A.in1) (I.ok.hd hc) s.heap.objs.size a (zB p.lt) ay.toArray,{{_,zj _ rfl,rfl,rfl},p.isList.at λo e=>zb _ e},?_,λh' tk hk=>?_};intro i v s' Q' E' hv hQ;rw[all_bools rv rfl i v hv];exact yu hQ;have e:ay.toArray.size=bs.length:=by rw[zp,<-hl]
 rw[e,range_all];exact{.bl<|bs.all id,H,I.kept (h':=h') (t':=tk) λb o e=>hk b o (by simpa using zB (zw e))<|zb _ e,rfl,q}
theorem uj(hc:X.calm=true):fe X (.builtin "any") (λxs H Q=>∃(a:Addr)(bs:List Bool),xs=[.ref a]/\kz X.K H a (bs.map V.bl)/\Q (.bl<|bs.any id) H):=by
 intro pins s σ H xs us Q I r h;obtain⟨a,bs,rfl,hq,q⟩:=h;obtain⟨u,rfl,ru⟩:=vals1 r;cases ru;obtain⟨ay,rv,p,hz⟩:=I.list hq;have hl:=rv.length;rw[za]at hl;refine call_any_walk<|wpAny_pyIter_list p.isList ?_;refine{s.heap.objs.size,_,_,_,_,_,λi=>(bs[i]?).getD false,rfl,Walks.list (A:=X.A.in1) (I.ok.hd hc) s.heap.objs.size a (zB p.lt) ay.toArray,{{_,zj _ rfl,rfl,rfl},p.isList.at λo e=>zb _ e},?_,λh' tk hk=>?_};intro i v s' Q' E' hv hQ;rw[all_bools rv rfl i v hv];exact yu hQ;have e:ay.toArray.size=bs.length:=by rw[zp,<-hl]
 rw[e,range_any];exact{.bl<|bs.any id,H,I.kept (h':=h') (t':=tk) λb o e=>hk b o (by simpa using zB (zw e))<|zb _ e,rfl,q}
end
noncomputable def ownOf:HO->Option Addr|.ins _ dx _=>some dx|.lQ _ u=>ownOf u|_=>none
structure Fg(H H' G:Hp):Prop where
 sub:∀b o,G b=some o->H' b=some o
 dom:∀b o,H b=some o->∃o',G b=some o'
 own:∀a o dx,G a=some o->ownOf o=some dx->(∃o',H a=some o'/\ownOf o'=some dx)\/∃o',G dx=some o'
theorem aE:bootBuiltins "len"= some (.builtin "len"):=PySem.boot_len
theorem gR:bootBuiltins "all"= some (.builtin "all"):=boot_all
theorem PX:bootBuiltins "any"= some (.builtin "any"):=boot_any
theorem aq:bootBuiltins "isinstance"= some (.builtin "isinstance"):=boot_isinstance
theorem BX:bootBuiltins "int"= some (.type "int"):=PyProof.Rows.boot_int
theorem Lp:bootBuiltins "bool"= some (.type "bool"):=PyProof.Rows.boot_bool
theorem jF:bootBuiltins "str"= some (.type "str"):=PyProof.Rows.boot_str
theorem aW:bootBuiltins "tuple"= some (.type "tuple"):=PyProof.Rows.boot_tuple
theorem Ec:bootBuiltins "dict"= some (.type "dict"):=PyProof.Rows.boot_dict
theorem PY:bootBuiltins "set"= some (.type "set"):=PyProof.Rows.boot_set
set_option genInjectivity true in
set_option genSizeOfSpec true in
inductive Kd where
 |av|bl|int|str|lst|tup|cO
 deriving DecidableEq
noncomputable def Kd.name:Kd->String|.av=>"NoneType" |.bl=>"bool" |.int=>"int" |.str=>"str" |.lst=>"list" |.tup=>"tuple" |.cO=>"dict"
inductive rZ (H:Hp):V->Kd->Prop where
 |av:rZ H .av .av
 |bl (b:Bool):rZ H (.bl b) .bl
 |int (i:Int):rZ H (.int i) .int
 |str (x:Str):rZ H (.str x) .str
 |lst {a:Addr}{xs:List V} (e:H a=some (.lst xs)):rZ H (.ref a) .lst
 |tup {a:Addr}{xs:List V} (e:H a=some (.tup xs)):rZ H (.ref a) .tup
 |cO {a:Addr}{kvs:List<|Key×V} (e:H a=some (.dK kvs)):rZ H (.ref a) .cO
theorem rZ.ty{K:Frag}{H:Hp}{x:V}{k:Kd}(h:rZ H x k):om K H x (.type k.name):=by cases h with|av=>exact .av|bl b=>exact .bl b|int i=>exact .int i|str x=>exact .str x|lst e=>exact .lst e|tup e=>exact .tup e|cO e=>exact .dK e
noncomputable def y7(T:String):Option (Kd->Bool):=if T ="int" then some λk=>match k with|.int=>true|.bl=>true|_=>false else if T ="bool" then some λk=>match k with|.bl=>true|_=>false else if T ="str" then some λk=>match k with|.str=>true|_=>false else if T ="tuple" then some λk=>match k with|.tup=>true|_=>false else if T ="list" then some λk=>match k with|.lst=>true|_=>false else if T ="dict" then some λk=>match k with|.cO=>true|_=>false else none
theorem HQ{K:Frag}{T:String}{g:Kd->Bool}(h:y7 T=some g)(k:Kd):kitOne K (.type k.name) (.type T)=some (g k):=by unfold y7 at h;split at h;rename_i e;subst e;cases h;cases k<;>rfl;split at h;rename_i e;subst e;cases h;cases k<;>rfl;split at h;rename_i e;subst e;cases h;cases k<;>rfl;split at h;rename_i e;subst e;cases h;cases k<;>rfl;split at h;rename_i e;subst e;cases h;cases k<;>rfl;split at h;rename_i e;subst e;cases h;cases k<;>rfl;cases h
section
variable{X:Cx}
theorem HR:fe X (.builtin "isinstance") (λxs H Q=>∃x T k g,xs=[x,.ty T]/\y7 T=some g/\rZ H x k/\Q (.bl<|g k) H):=by intro pins s σ H xs us Q I r h;obtain⟨x,T,k,g,rfl,hg,hk,q⟩:=h;obtain⟨v,w',rfl,rv,rP⟩:=vals2 r;cases rP;exact Fw I rv hk.ty (HQ hg k) λtk=>{.bl<|g k,H,I.tok tk,rfl,q}
end
mutual
def Dt(K:Frag)(H:Hp):PyData->V->Prop|.none,v=>v=.av|.bool b,v=>v=.bl b|.int i,v=>v=.int i|.str z,v=>v=.str z|.list ds,v=>∃a xs,v=.ref a/\kz K H a xs/\DtAll K H ds xs|.tuple ds,v=>∃a xs,v=.ref a/\jn K H a xs/\DtAll K H ds xs|.dict _,_=>False
def DtAll(K:Frag)(H:Hp):List PyData->List V->Prop|[],xs=>xs=[]|d::ds,xs=>∃y ys,xs=y::ys/\Dt K H d y/\DtAll K H ds ys
end
section
variable{X:Cx}{pins:List (Addr×Obj)}{σ:St}{H:Hp}{s:Shared}
mutual
theorem Inv.reads(I:Inv X pins σ H s):∀(d:PyData){x:V}{u:Value},Dt X.K H d x->RelV x u->∃as,Reads s.heap u d as
 |.none,x,u,h,r=>by
  have h:x=.av:=by simpa only[Dt]using h
  subst h;cases r;exact{_,.none}
 |.bool b,x,u,h,r=>by
  have h:x=.bl b:=by simpa only[Dt]using h
  subst h;cases r;exact{_,.bool b}
 |.int i,x,u,h,r=>by
  have h:x=.int i:=by simpa only[Dt]using h
  subst h;obtain⟨t,rfl⟩:=r;exact{_,.int i t}
 |.str z,x,u,h,r=>by
  have h:x=.str z:=by simpa only[Dt]using h
  subst h;obtain⟨t,rfl⟩:=r;exact{_,.str z t}
 |.list ds,x,u,h,r=>by
  have h:∃a xs,x=.ref a/\kz X.K H a xs/\DtAll X.K H ds xs:=by simpa only[Dt]using h
  obtain⟨a,xs,rfl,hq,hd⟩:=h;cases r;obtain⟨ay,rv,p,_⟩:=I.list hq;obtain⟨as,ra⟩:=Inv.readsAll I ds hd rv;obtain⟨o,e,c,n,d⟩:=p.isList;exact{_,.list e c d<|by simpa using ra}
 |.tuple ds,x,u,h,r=>by
  have h:∃a xs,x=.ref a/\jn X.K H a xs/\DtAll X.K H ds xs:=by simpa only[Dt]using h
  obtain⟨a,xs,rfl,hq,hd⟩:=h;cases r;obtain⟨ay,rv,p,_⟩:=I.tuple hq;obtain⟨as,ra⟩:=Inv.readsAll I ds hd rv;obtain⟨o,e,c,n,d⟩:=p;exact{_,.tuple e c d<|by simpa using ra}
 |.dict _,x,u,h,r=>by
  have h:False:=by simpa only[Dt]using h
  exact h.elim
theorem Inv.readsAll(I:Inv X pins σ H s):∀(ds:List PyData){xs:List V}{us:List Value},DtAll X.K H ds xs->Vals xs us->∃as,ReadsAll s.heap us ds as
 |[],xs,us,h,r=>by
  have h:xs=[]:=by simpa only[DtAll]using h
  subst h;cases r;exact{_,.nil}
 |d::ds,xs,us,h,r=>by
  have h:∃y ys,xs=y::ys/\Dt X.K H d y/\DtAll X.K H ds ys:=by simpa only[DtAll]using h
  obtain⟨y,ys,rfl,h1,h2⟩:=h;cases r with|cons r1 r2=>obtain⟨as,ra⟩:=Inv.reads I d h1 r1;obtain⟨bs,rb⟩:=Inv.readsAll I ds h2 r2;exact{_,.cons ra rb}
end
end
def TZ(K:Frag)(neg:Bool):R2:=λx y H Q=>∃d e,Dt K H d x/\Dt K H e y/\d.canLay0=true/\e.canLay0=true/\(d.depth<=64\/e.depth<=64)/\Q (.bl<|if neg then !PyData.eqv d e else PyData.eqv d e) H
section
variable{X:Cx}
theorem PZ(hu:X.A.units+64<cLine):hU X (compareOp .Eq) (TZ X.K false):=by intro pins s σ H x y v u Q I rx ry h;obtain⟨d,e,hd,he,cd,ce,dp,q⟩:=h;obtain⟨as,ra⟩:=I.reads d hd rx;obtain⟨bs,rb⟩:=I.reads e he ry;exact SeqAt.compareEq_reads ra rb cd ce (by rcases dp with dp|dp<;>lia)<|aJ I q rfl
theorem P0(hu:X.A.units+64<cLine):hU X (compareOp .NotEq) (TZ X.K true):=by intro pins s σ H x y v u Q I rx ry h;obtain⟨d,e,hd,he,cd,ce,dp,q⟩:=h;obtain⟨as,ra⟩:=I.reads d hd rx;obtain⟨bs,rb⟩:=I.reads e he ry;exact SeqAt.compareNe_reads ra rb cd ce (by rcases dp with dp|dp<;>lia)<|aJ I q rfl
end
theorem kC(a b:Nat):G8 ⟨#[a]⟩ ⟨#[b]⟩=decide (a<=b):=by
 unfold G8;have e:([b]<[a])↔b<a:=by rw[List.cons_lt_cons_iff];constructor;rintro (h|⟨_,h⟩);exact h;exact absurd h<|List.not_lt_nil _;exact .inl
 rw[yD];show(!decide ([b]<[a]))=true↔_;rw[Bool.not_eq_true',yi,e,decide_eq_true_iff];lia
def chkC(sc:Scope)(N0 N:List Str)(src:List<|Option Nat)(scope:Scope):Bool :=
 decide (scope.kind=.function)&&(scope.names.all (λy=>decide (y.2≠.cell)&&(decide (y.2≠.local)||decide (scope.names.lookup y.1=some .local))&&(decide (y.2≠.free)||(decide (sc.names.lookup y.1=some .cell)||decide (sc.names.lookup y.1=some .free)))) &&
  (decide (src.length=N.length)&&(List.range src.length).all λi=>match src[i]?,N[i]? with
   |some (some j),some x=>decide (N0[j]?=some x)&&(decide (scope.names.lookup x=some .free)&&(decide (sc.names.lookup x=some .cell)||decide (sc.names.lookup x=some .free)))
   |_,_=>true))
theorem kD(sc:Scope)(N0:List Str)(hs:X.env.scope=sc)(hN:X.N=N0)(h:chkC sc N0 N src scope=true):bM X N src scope:=by unfold chkC at h;simp only[zO,zY,zZ,Bool.or_eq_true]at h;obtain⟨h1,h2,h3,h4⟩:=h;refine{h1,λy hy=>(h2 y hy).1.1,λy hy e=>?_,λy hy e=>?_,h3,λi j x e1 e2=>?_};rcases (h2 y hy).1.2 with z|z;exact absurd e z;exact z;rcases (h2 y hy).2 with z|z;exact absurd e z;show X.env.scope.names.lookup y.1=some .cell\/X.env.scope.names.lookup y.1=some .free;rw[hs];exact z;have hi:i<src.length:=(ze.mp e1).1;have q:=h4 i<|zS.mpr hi;rw[e1,e2]at q;simp only[zO,zY,Bool.or_eq_true]at q;refine{by rw[hN];exact q.1,q.2.1,?_};unfold OH;rw[hs];exact .inr q.2.2
theorem mP(h0:0<=i)(h1:i<l.length):∃v,mD l i=some v/\l[i.toNat]?=some v:=by
 obtain⟨j,rfl⟩:=Int.eq_ofNat_of_zero_le h0;have hj:j<l.length:=by lia
 exact{l[j],dy<|by simp[hj],by simp[hj]}
theorem bX{c:Bool}{A B:Prop}(h:c=true->A)(h':c=false->B):if c=true then A else B:=by cases c with|true=>exact h rfl|false=>exact h' rfl
theorem nt(h:(!b)=true):b=false:=by cases b<;>simp_all
theorem nf(h:(!b)=false):b=true:=by cases b<;>simp_all
noncomputable def BY:Kd->Bool|.int=>true|.bl=>true|_=>false
noncomputable def wa:Kd->Bool|.bl=>true|_=>false
noncomputable def BZ:Kd->Bool|.str=>true|_=>false
noncomputable def r9:Kd->Bool|.tup=>true|_=>false
theorem Lq:y7 "int"= some BY:=if_pos rfl
theorem HS:y7 "bool"= some wa:=(if_neg<|by decide).trans<|if_pos rfl
theorem cZ:y7 "str"= some BZ:=(if_neg<|by decide).trans<|(if_neg<|by decide).trans<|if_pos rfl
theorem aX:y7 "tuple"= some r9:=(if_neg<|by decide).trans<|(if_neg<|by decide).trans<|(if_neg<|by decide).trans<|if_pos rfl
theorem len_pos{z:Str}(h:1<=z.cps.size):∃c r,z.cps.toList=c::r:=by cases e:z.cps.toList with|nil=>have:z.cps.toList.length=0:=(by rw[e];rfl);rw[yr]at this;lia|cons c r=>exact⟨c,r,rfl⟩
theorem at0(e:l=c::r):mD l 0=some c:=by
 have:l[0]?=some c:=by rw[e];rfl
 exact dy (j:=0) this
def isPlain:Expr->Bool|.Starred _ _=>false|_=>true
theorem B4(h:isPlain e=true):starEach (e::es) env=(false,eval e env)::starEach es env:=by cases e<;>first|rfl|exact absurd h zd
theorem YA{t:TA}(ha:PE X e te)(hr:PA X es t)(hp:autoParam (isPlain e=true) qQJ):PA X (e::es) (Np te t):=K7 ha hr<|B4 hp
end L2
namespace HT
open PySem PyProof.Rows
open PySem.SeqAt
open PySem.AutoSeq1 (wpAny_loadPart')
open PySem.MeetsSeq PySem.MeetsSeq2 PySem.MeetsSeq3
end HT
namespace L2
open PySem PySem.Spec PyProof.Rows
def HU(c:Value)(e:Addr)(h:Heap):Prop:=∃o vs,h.get? e=some o/\o.data=.fields vs/\vs[2]?=some c
section
variable{M:Model}{A:Around}{E:Value->Shared->Prop}{s:Shared}{base:Heap}{env:Env}{outer:List Env}{L e:Addr}{a0 c fl:Value}
theorem T4(xT:A.frames=some (env::outer))(hl:s.heap.FunFrames base<|env::outer)(hf:env.frame=some L) (he:s.heap.get? e=some oe) (G9:base.StaysIn s.heap) (y8:base.get? e=none) (hd:oe.data=.fields vs) (h0:vs[0]?=some a0) (h2:vs[2]?=some c) (h:∀h',Heap.NotedW base (env::outer) e oe.cls a0 (rawInt L) s.heap h'->HU c e h'->Q () {s with heap:=h'}): wpAny M A (do let x <-frameOf env;let y <-entryPlaceOf L nx;let z <-EntryCells.newEntry head x .none (rawInt L) .none y;setField (.ref e) 1 z) Q E s:=by
 have hsz:1<vs.size:=by have:=(Array.getElem?_eq_some_iff.mp h2).1;lia
 have nfr:e∉(env::outer).filterMap (·.frame):=λm=>by obtain⟨_,o,q,n⟩:=hl.mem m;rw[he]at q;cases q;exact n vs hd
 refine zc<|wpAny_frameOf_fun xT hl hf λg sg=>?_;refine zc<|wpAny_entryPlaceOf λpl dN=>?_;unfold EntryCells.newEntry newFields;refine zc<|yG ?_<|dN.sizeOk5 _ _ _ _ _;have g1:g.get? e=some oe:=(sg.2.1 e nfr).trans he;have kg:base.StaysIn g:=λb o q=>(sg.2.1 b λm=>by rw[(hl.mem m).1]at q;cases q).trans<|G9 b o q;have t3:((([head,.ref L,.none,rawInt L,.none]++(if pl.isEmpty then List.replicate 6 Value.none else pl)).toArray:Array Value))[3]?=some (rawInt L):=by rcases dN with rfl|⟨_,_,_,_,_,_,_,rfl⟩<;>simp
 generalize htb:(([head,.ref L,.none,rawInt L,.none]++(if pl.isEmpty then List.replicate 6 Value.none else pl)).toArray:Array Value)=ts at t3;have g2:=zb (h:=g) {cls:=.type "traceback",dict:=none,data:=.fields ts} g1;refine yR g2 hd hsz<|h _ ?_ ?_;have ne:g.objs.size≠e:=yn<|zw g1;have d3:=yz hd (·.setIfInBounds 1 (Value.ref g.objs.size));have e3:=yx (Obj.mapFields (·.setIfInBounds 1 (Value.ref g.objs.size))) g2<|Obj.isFreed_of_fields d3;have T3:=(yq (g.push {cls:=.type "traceback",dict:=none,data:=.fields ts}) (Obj.mapFields (·.setIfInBounds 1 (Value.ref g.objs.size)))<|Ne.symm ne).trans<|zj g rfl;have keep:∀b o,b≠e->g.get? b=some o->((g.push {cls:=.type "traceback",dict:=none,data:=.fields ts}).update e (Obj.mapFields (·.setIfInBounds 1 (Value.ref g.objs.size)))).get? b=some o:=λb o n q=>by rw[yq _ _<|Ne.symm n];exact zb _ q
 have y9:∀b o,s.heap.get? b=some o->(∀vs,o.data≠.fields vs)->b≠e:=λb o q n z=>by rw[z,he]at q;cases q;exact n vs hd
 refine{λb o q=>keep b o (λz=>by rw[z,y8]at q;cases q)<|kg b o q,hl.of_keeps λb o q n=>?_,?_,λb o q n=>?_};obtain⟨sl,z⟩:=sg.2.2 b o q;exact{_,keep b _ (y9 b o q n) z,rfl};exact{_,_,g.objs.size,_,_,e3,{Obj.cls_mapFields _ _,by rw[Array.getElem?_setIfInBounds_ne<|by decide];exact h0},d3,by simp[hsz],kg.fresh,ne,T3,rfl,t3};obtain⟨sl,z⟩:=sg.2.2 b o q;exact{sl,keep b _ (y9 b o q n) z};have d3:=yz hd (·.setIfInBounds 1 (Value.ref g.objs.size));exact{_,_,yx (Obj.mapFields (·.setIfInBounds 1 (Value.ref g.objs.size))) g2<|Obj.isFreed_of_fields d3,d3,by rw[Array.getElem?_setIfInBounds_ne<|by decide];exact h2}
theorem setC(G9:base.StaysIn s.heap)(y8:base.get? e=none)(hl:s.heap.FunFrames base l)(ht:s.heap.TracedAtW base e cls a0 fl)(hc:HU c e s.heap) (h:∀h',Heap.FlyingW base l e cls a0 h'->s.heap.UpToSlots h'->HU c e h'->Q () {s with heap:=h'}):wpAny M A (setFlight (.ref e) none) Q E s:=by
 obtain⟨o,vs,T,oT,ts,q,hk,hd,q1,nT,ne,qT,dT,q3⟩:=ht;obtain⟨o',YB,q',rG,q2⟩:=hc;rw[q]at q';cases q';rw[hd]at rG;cases rG;have T5:3<ts.size:=(Array.getElem?_eq_some_iff.mp q3).1;have Ls:∀b,b≠T->(s.heap.update T (Obj.mapFields (·.setIfInBounds 3 ((none:Option Addr).elim Value.none λf=>rawInt f)))).get? b=s.heap.get? b:=λb n=>yq _ _<|Ne.symm n;have y9:∀b o,s.heap.get? b=some o->(∀vs,o.data≠.fields vs)->b≠T:=λb o z n w=>by rw[w,qT]at z;cases z;exact n ts dT
 have qe:=(Ls e<|Ne.symm ne).trans q;unfold setFlight;refine zc<|yf q hd q1 ?_;rw[if_pos<|show(Value.ref T != Value.none)=true by simp];refine yR qT dT T5<|h _ {λb o z=>(Ls b λw=>by rw[w,nT]at z;cases z).trans<|G9 b o z,y8,hl.of_keeps λb o z n=>{o,(Ls b<|y9 b o z n).trans z,rfl},?_} (λb o z n=>{o.slots,(Ls b<|y9 b o z n).trans z}) ⟨o,vs,qe,hd,q2⟩;exact{o,vs,T,_,_,qe,hk,hd,q1,nT,ne,yx _ qT<|Obj.isFreed_of_fields<|yz dT _,yz dT _,by simp[T5]}
theorem T6(xT:A.frames=some (env::outer))(hf:env.frame=some L)(G9:base.StaysIn s.heap)(y8:base.get? e=none)(hl:s.heap.FunFrames base<|env::outer)(ht:s.heap.TracedAtW base e cls a0 fl)(hc:HU c e s.heap) (h:∀h',Heap.HeldW base (env::outer) e cls a0 L h'->s.heap.UpToSlots h'->HU c e h'->Q () {s with heap:=h'}):wpAny M A (noteFrame (.ref e) env) Q E s:=by
 by_cases T7:fl=rawInt L;subst T7;exact wpAny_noteFrame_againW hf ht<|h s.heap ⟨G9,y8,hl,ht⟩ (.refl _) hc;obtain⟨o,vs,T,oT,ts,q,⟨hk,h0⟩,hd,q1,nT,ne,qT,dT,q3⟩:=ht;obtain⟨o',YB,q',rG,q2⟩:=hc;rw[q]at q';cases q';rw[hd]at rG;cases rG;subst hk;have Ls:∀b,b≠T->(s.heap.update T (Obj.mapFields (·.setIfInBounds 3 Value.none))).get? b=s.heap.get? b:=λb n=>yq _ _<|Ne.symm n;have y9:∀b o,s.heap.get? b=some o->(∀vs,o.data≠.fields vs)->b≠T:=λb o z n w=>by rw[w,qT]at z;cases z;exact n ts dT
 unfold noteFrame;simp only[hf];refine zc<|yf q hd q1 ?_;rw[if_pos<|show(Value.ref T != Value.none)=true by simp];refine zc<|yf qT dT q3 ?_;rw[if_neg<|show ¬((fl==rawInt L)=true) by simpa using T7];refine zc<|yR qT dT (Array.getElem?_eq_some_iff.mp q3).1 ?_;refine T4 xT (hl.of_keeps λb o z n=>{o,(Ls b<|y9 b o z n).trans z,rfl}) hf ((Ls e<|Ne.symm ne).trans q) (λb o z=>(Ls b λw=>by rw[w,nT]at z;cases z).trans<|G9 b o z) y8 hd h0 q2 λh' x y=>?_;obtain⟨x1,x2,x3,x4⟩:=x;exact h h' ⟨x1,y8,x2,x3⟩ (λb o z n=>x4 b o ((Ls b<|y9 b o z n).trans z) n) y
theorem P1(xT:A.frames=some (env::outer))(hf:env.frame=some L)(G9:base.StaysIn s.heap)(y8:base.get? e=none)(hl:s.heap.FunFrames base<|env::outer) (he:s.heap.get? e=some oe) (hd:oe.data=.fields vs) (h0:vs[0]?=some a0) (h1:vs[1]?=some .none) (h2:vs[2]?=some c) (h:∀h',Heap.HeldW base (env::outer) e oe.cls a0 L h'->s.heap.UpToSlots h'->HU c e h'->Q () {s with heap:=h'}):wpAny M A (noteFrame (.ref e) env) Q E s:=by unfold noteFrame;simp only[hf];refine zc<|yf he hd h1 ?_;rw[if_neg<|by decide];refine T4 xT hl hf he G9 y8 hd h0 h2 λh' x y=>?_;obtain⟨x1,x2,x3,x4⟩:=x;exact h h' ⟨x1,y8,x2,x3⟩ x4 y
theorem P2(xT:A.frames=some (env::outer))(hf:env.frame=some L)(G9:base.StaysIn s.heap)(y8:base.get? e=none)(hl:s.heap.FunFrames base<|env::outer)(ht:s.heap.TracedAtW base e cls a0 fl)(hc:HU c e s.heap) (h:∀h',Heap.FlyingW base outer e cls a0 h'->s.heap.UpToSlots h'->HU c e h'->Q () {s with heap:=h'}):wpAny M A (leaving env<|.ref e) Q E s:=by unfold leaving;refine zc<|T6 xT hf G9 y8 hl ht hc λh' x u y=>?_;obtain⟨x1,x2,x3,x4⟩:=x;refine setC x1 x2 x3 x4 y λh2 z u2 y2=>?_;obtain⟨z1,z2,⟨_,_,z3⟩,z4⟩:=z;exact h h2 ⟨z1,z2,z3,z4⟩ (u.trans u2) y2
theorem Lu(xT:A.frames=some (env::outer))(hf:env.frame=some L)(G9:base.StaysIn s.heap)(y8:base.get? e=none)(hl:s.heap.FunFrames base<|env::outer) (he:s.heap.get? e=some oe) (hd:oe.data=.fields vs) (h0:vs[0]?=some a0) (h1:vs[1]?=some .none) (h2:vs[2]?=some c) (h:∀h',Heap.FlyingW base outer e oe.cls a0 h'->s.heap.UpToSlots h'->HU c e h'->Q () {s with heap:=h'}):wpAny M A (leaving env<|.ref e) Q E s:=by unfold leaving;refine zc<|P1 xT hf G9 y8 hl he hd h0 h1 h2 λh' x u y=>?_;obtain⟨x1,x2,x3,x4⟩:=x;refine setC x1 x2 x3 x4 y λh2 z u2 y2=>?_;obtain⟨z1,z2,⟨_,_,z3⟩,z4⟩:=z;exact h h2 ⟨z1,z2,z3,z4⟩ (u.trans u2) y2
end
theorem br.get(x:br P w H h a o):∃u,h.get? a=some u:=by cases o with|lst xs=>(obtain⟨_,_,_,_,e⟩:=x;exact{_,e})|tup xs=>(obtain⟨_,_,_,ob,e,_⟩:=x;exact{_,e})|dK kvs=>(obtain⟨_,_,_,_,o,_,_,e,_⟩:=x;exact{_,e})|dT kvs=>exact False.elim x|set S n=>(obtain⟨o,_,_,_,e,_⟩:=x;exact{_,e})|ins C dx fs=>(obtain⟨_,_,_,e,_⟩:=x;exact{_,e})|own y=>(obtain⟨_,e⟩:=x;exact{_,e})|xd fs=>(obtain⟨_,⟨_,_,_,e,_⟩,_⟩:=x;exact{_,e})|Wt lo hi=>(obtain⟨_,_,_,e⟩:=x;exact{_,e})|lQ ob u=>(obtain⟨e,_⟩:=x;exact{_,e})|qO ps=>exact{_,show h.get? a=some _ from x}|met f y=>exact{_,show h.get? a=some _ from x}|ext φ=>obtain⟨_,e,_⟩:=x;exact e
structure YC(P:Program)(w:World)(mg:Str->Option Value)(outer:List Env)(H H':Hp)(h0:Heap)(a:Addr)(cls a0:Value)(B h:Heap):Prop where
 fl:Heap.FlyingW B outer a cls a0 h
 aL:lR P w H' B
 keep:∀b o,h0.get? b=some o->H b=none->b∉og outer->B.get? b=some o
 there:∀b o,h0.get? b=some o->b∉og outer->∃o',B.get? b=some o'
 slot:∀b o,h0.get? b=some o->b∈og outer->∃sl,h.get? b=some {o with slots:=sl}
 free:∀b o,h0.get? b=some o->H b=none->H' b=none
 mG:∀b xs,H b=some (.tup xs)->H' b=some (.tup xs)
 lS:∀b o u,H b=some (.lQ o u)->H' b=some (.lQ o u)
 lT:∀b ps,H b=some (.qO ps)->∃more,H' b=some (.qO<|ps++more)
 cx:HU .none a h\/mg "NoMark"= some cls
def fE(P:Program)(w:World)(mg:Str->Option Value):BM:=λouter H s E e s'=>∃a cls a0 B H',e=.ref a/\s'.os=s.os/\AllBare s'.gens/\YC P w mg outer H H' s.heap a cls a0 B s'.heap/\E cls none H'
structure dq(X:Cx)(E:XK):Prop where
 ex:X.ex=[]
 st:X.stack=X.env::X.outer
 fr:X.env.frame=some X.env.locals
 xe:∀e s',wpAny (model X.prog X.w) X.A (leaving X.env e) (λ_ BN=>fE X.prog X.w X.mg X.outer X.vX X.dF E e BN) (λe' BN=>fE X.prog X.w X.mg X.outer X.vX X.dF E e' BN) s'->X.xe e s'
theorem u6{P:Program}{w:World}{K:Frag}{mg:Str->Option Value}{base:Heap}{N:List Str}{qual:Str}{scope:Scope}{f:Addr}{cd:Value}{A:Around}{outer:List Env}{s:Shared}{H:Hp}{E:XK} : dq (kM (fE P w mg) P w K mg base N qual scope f cd A outer s H E) E:={rfl,rfl,rfl,λ_ _ h=>h}
section
variable{X:Cx}{pins:List (Addr×Obj)}{σ:St}{H H':Hp}{s:Shared}{E E':XK}
theorem dq.mem(L:dq X E):b∈og X.stack↔b=X.env.locals\/b∈X.fs:=by unfold Cx.fs og;rw[L.st,List.filterMap_cons,L.fr];exact zh
theorem dq.Fh(L:dq X E)(I:Inv X pins σ H s)(e:X.dF.heap.get? b=some o)(h:b∉X.fs):b∉og X.stack:=λz=>by rcases L.mem.mp z with z|z;have:=zw e;have h2:=I.ok.above;rw[z]at this;exact absurd (zm this h2)<|yA _;exact h z
theorem dq.fly(L:dq X E)(I:Inv X pins σ H s)(F:YC X.prog X.w X.mg X.stack H H' s.heap a cls a0 B h)(f2:Heap.FlyingW B X.outer a cls a0 h2)(u2:h.UpToSlots h2)(c2:HU .none a h2\/X.mg "NoMark"= some cls):
  YC X.prog X.w X.mg X.outer X.vX H' X.dF.heap a cls a0 B h2 where
 cx:=c2
 fl:=f2
 aL:=F.aL
 keep:=λb o e n hf=>F.keep b o (I.base.keep b o e n hf<|by rw[L.ex];simp) (I.base.free b o e n<|by rw[L.ex];simp)<|L.Fh I e hf
 there:=λb o e hf=>by
  obtain⟨o',q⟩:=I.base.there b o e<|by rw[L.ex];simp
  exact F.there b o' q<|L.Fh I e hf
 slot:=λb o e hf=>by
  obtain⟨sl,q⟩:=I.base.slot b o e (I.ok.OJ b hf) hf<|by rw[L.ex];simp
  obtain⟨sl1,q1⟩:=F.slot b _ q<|L.mem.mpr<|.inr hf
  obtain⟨_,o2,q2,hd⟩:=F.fl.2.2.1.mem<|L.mem.mpr<|.inr hf
  obtain⟨T8,q3⟩:=u2 b o2 q2 hd
  rw[q1]at q2;cases q2
  exact⟨T8,q3⟩
 free:=λb o e n=>by
  obtain⟨o',q⟩:=I.base.there b o e<|by rw[L.ex];simp
  exact F.free b o' q<|I.base.free b o e n<|by rw[L.ex];simp
 mG:=λb xs e=>F.mG b xs<|I.base.mG b xs e
 lS:=λb o u e=>F.lS b o u<|I.base.lS b o u e
 lT:=λb ps e=>by
  obtain⟨m1,q1⟩:=I.base.lT b ps e
  obtain⟨m2,q2⟩:=F.lT b _ q1
  exact{m1++m2,by rw[q2,Array.append_assoc]}
theorem T9(L:dq X E)(hE:∀c d H',E' c d H'->E c d H'):Passes (fE X.prog X.w X.mg) X E':=λpins σ H s e s' I h=>by
 obtain⟨a,cls,a0,B,H',rfl,os,bare,F,q⟩:=h;refine L.xe _ _ ?_;have xT:X.A.frames=some (X.env::X.outer):=by rw[I.ok.frames,L.st]
 have fl:Heap.FlyingW B (X.env::X.outer) a cls a0 s'.heap:=by rw[<-L.st];exact F.fl
 rcases F.cx with hc|hc;obtain⟨f1,f2,f3,f4⟩:=fl;exact P2 xT L.fr f1 f2 f3 f4.at hc λh2 f2 u2 c2=>{a,cls,a0,B,H',rfl,os.trans I.os,bare,L.fly I F f2 u2<|.inl c2,hE _ _ _ q};exact wpAny_leaves_onW xT L.fr fl λh2 f2 u2=>{a,cls,a0,B,H',rfl,os.trans I.os,bare,L.fly I F f2 u2<|.inr hc,hE _ _ _ q}
theorem P4(I:Inv X pins σ H s):lR X.prog X.w H (hideAll s.heap<|og X.stack):=λa o e=>(I.aL a o e).qx (λb u hb q=>hideAll_get _ q λz=>by have n:=I.qP b z;rcases hb with rfl|hb;rw[e]at n;cases n;rw[hb]at n;cases n) (λ_ q=>q) λ_ _ q=>q
theorem B6(L:dq X E)(I:Inv X pins σ H s)(hk:∀b o,s.heap.get? b=some o->h'.get? b=some o)(hn:s.heap.get? a=none)(he:h'.get? a=some oe)(hd:oe.data=.fields vs) (h0:vs[0]?=some a0) (h1:vs[1]?=some .none) (h2:vs[2]?=some c) (hc:c=.none\/X.mg "NoMark"= some oe.cls) (hE:E oe.cls none H):X.xe (.ref a) {s with heap:=h'}:=by
 refine L.xe _ _ ?_;have xT:X.A.frames=some (X.env::X.outer):=by rw[I.ok.frames,L.st]
 have RT:∀env∈X.stack,∀b,env.frame=some b->b∈og X.stack:=λenv he b hb=>List.mem_filterMap.mpr ⟨env,he,hb⟩;have ff:s.heap.FunFrames (hideAll s.heap<|og X.stack) (X.env::X.outer):=by rw[<-L.st];exact PySem.W.funFrames_hide I.stack RT
 have hb:(hideAll s.heap<|og X.stack).get? a=none:=by cases z:(hideAll s.heap<|og X.stack).get? a with|none=>rfl|some o=>have:=of_hideAll _ z;rw[hn]at this;cases this
 refine Lu (base:=hideAll s.heap<|og X.stack) xT L.fr (λb o q=>hk b o<|of_hideAll _ q) hb (ff.of_keeps λb o q _=>{o,hk b o q,rfl}) he hd h0 h1 h2 λh2 x1 x4 c2=>?_;refine{a,oe.cls,a0,_,H,rfl,I.os,I.bare,{x1,P4 I,λb o e n hf=>?_,λb o e hf=>?_,λb o e hf=>?_,λb o e n=>I.base.free b o e n<|by rw[L.ex];simp,I.base.mG,I.base.lS,I.base.lT,?_},hE};exact hideAll_get _ (I.base.keep b o e n hf<|by rw[L.ex];simp)<|L.Fh I e hf;obtain⟨o',q⟩:=I.base.there b o e (by rw[L.ex];simp);exact{o',hideAll_get _ q<|L.Fh I e hf};obtain⟨sl,q⟩:=I.base.slot b o e (I.ok.OJ b hf) hf (by rw[L.ex];simp);obtain⟨_,o2,q2,hd⟩:=I.qy.mem hf;obtain⟨T8,q3⟩:=x4 b o2 (hk _ _ q2) hd;rw[q]at q2;cases q2;exact⟨T8,q3⟩;rcases hc with rfl|hc;exact .inl c2;exact .inr hc
theorem pS(L:dq X E)(I:Inv X pins σ H s)(hx:Heap.MadeExcOf s.heap h' a cls args)(hE:E cls none H):X.xe (.ref a) {s with heap:=h'}:=by obtain⟨t,he,_,_⟩:=hx.there;exact B6 L I (λb o q=>hx.keeps b o q) hx.new he rfl rfl rfl rfl (.inl rfl) hE
end
abbrev ou:List Value:=[.type "ValueError",.type "Exception",.type "BaseException",.type "object"]
structure XC(K:Frag)(C:Addr):Prop where
 q:excIn K C ou "ValueError.__new__"= true
def YD(h:Heap)(C:Addr)(bm:List Value):Prop:=∃N nm q bs hdct sn sub ab col dd k0 k1 k2 k3 k5 mN,h.get? C=some (excClassObj nm q C N bs bm hdct sn sub ab col dd k0 k1 k2 k3 k5 "ValueError.__new__")/\h.Ns N mN/\mN "__init__"= none/\OwnTail h ou bm
theorem XC.at{K:Frag}{C:Addr}{h:Heap}(x:XC K C)(X:K.In h):∃bm,YD h C bm:=by have q:=x.q;unfold excIn at q;split at q;rename_i dd cd sl ho;split at q;rename_i C' bm' k0 k1 k2 k3 n k5 hm hs;simp only[zO,beq_iff_eq,Bool.not_eq_true']at q;obtain⟨⟨⟨⟨⟨q1,q2⟩,T_⟩,ht⟩,aL⟩,WL⟩:=q;subst q1;subst q2;obtain⟨nm,bs,mro,ns,qn,hd,sn,sub,ab,col,del⟩:=cd;dsimp only at hm T_ aL WL;subst hm;subst T_;obtain⟨sl⟩:=sl;dsimp only at hs;subst hs;exact{bm',ns,nm,qn,bs,hd,sn,sub,ab,col,dd,k0,k1,k2,k3,k5,_,X _ _ ho,.of_isNs<|PySem.W.isNs_of_in X aL,PySem.W.nsMap_none_of_in X aL WL,PySem.W.tail_of_in X ht};cases q;cases q
def YE(a:Addr)(cls:Value):HO:=.ext λh=>∃o vs,h.get? a=some o/\o.cls=cls/\o.data=.fields vs
abbrev TX:=(St->XK)->TS
noncomputable def Ends.less(D:Ends)(i:Nat):Ends:={nx:=λσ H=>D.nx (σ.set i none) H,rt:=D.rt,bk:=λσ H=>D.bk (σ.set i none) H,ct:=λσ H=>D.ct (σ.set i none) H}
structure XA(K:Frag)(C:Addr):Prop where
 ga:findIn K (.ref C) "__getattribute__"= some (some<|.builtin "BaseException.__getattribute__")
 gh:findIn K (.ref C) "__getattr__"= some none
 cl:findIn K (.ref C) "__class__"= some (some<|.builtin "object.__class__")
section
variable{X:Cx}
theorem Ny(L:dq X E):Passes (fE X.prog X.w X.mg) X E:=T9 L λ_ _ _ h=>h
end
noncomputable def jb(l:List Str):List Str:=l.foldl (λc x=>if x∈c then c else c++[x]) []
theorem y_(l:List Str)(x:Str):jb (l++[x])=if x∈jb l then jb l else jb l++[x]:=by unfold jb;rw[List.foldl_append];rfl
theorem Lv:∀(l:List Str),(jb l).length<=l.length:=λl=>by
 have all:∀(r c:List Str),(r.foldl (λc x=>if x∈c then c else c++[x]) c).length<=c.length+r.length:=by intro r;induction r with|nil=>intro c;simp|cons x r ih=>intro c;rw[yO];refine zK (ih _) ?_;split<;>simp<;>try lia
 simpa [jb]using all l []
section
variable{prog:Program}{w:World}{A:Around}{R:Result->Shared->Prop}{I:Addr}{fp wr:List Addr}{G:Array GenState->Array GenState->Prop}{n:Nat}{P:Nat->Value->Prop}{St:Nat->Shared->Prop}
theorem HV(W:WalksS prog w A.in1 I fp wr G n P St)(S:Addr)(hSf:S∉fp)(xs:List Str)(hx:xs.length=n)(P5:∀i v,P i v->∃x t,xs[i]?=some x/\v=.str x t)(hb:n+1<scanBound): ∀(k i:Nat)(s:Shared),i+k=n->St i s->s.heap.SetOf (strKind prog w) S (λy=>decide<|y∈jb (xs.take i)) (jb<|xs.take i).length->(∀s',Moved (S::wr) G s s'->s'.heap.SetOf (strKind prog w) S (λy=>decide<|y∈jb xs) (jb xs).length->R (.ok<|.ret .none) s')->codeAny (model prog w) A (.builtin "set.update.loop" {[.ref S,.ref I],[]}) R s:=by have nw:S∉wr:=λh=>hSf<|W.sub _ h;have up:∀b∈wr,b∈S::wr:=λb hb=>zi _ hb;have mv:∀{i:Nat}{s s':Shared},Moved wr G s s'->s.heap.SetOf (strKind prog w) S (λy=>decide<|y∈jb (xs.take i)) (jb<|xs.take i).length->s'.heap.SetOf (strKind prog w) S (λy=>decide<|y∈jb (xs.take i)) (jb<|xs.take i).length:=λhm ⟨o,es,ep,tb,ho,rest⟩=>{o,es,ep,tb,hm.heap S _ nw ho,rest};intro k;induction k with|zero=>intro i s hk x6 hS hR;have e:i=n:=(by lia);subst e;refine yP F.entry_set_update_loop ?_;rw[Around.under_plainId F.plain_set_update_loop _];show wpAny _ A.in1 (pyNext (.ref I) >>=_) _ _ s;refine zc<|W.done s _ _ x6 λs' hm=>?_;show wpAny _ A.in1 (ret Value.none) _ _ s';have q:=mv hm hS;rw[<-hx,yK]at q;exact zA (hR s' (hm.mono up) q)|succ k ih=>intro i s hk x6 hS hR;have lt:i<n:=(by lia);refine yP F.entry_set_update_loop ?_;rw[Around.under_plainId F.plain_set_update_loop _];show wpAny _ A.in1 (pyNext (.ref I) >>=_) _ _ s;refine zc<|W.item i s _ _ lt x6 λv s' hP P6 hm=>?_;obtain⟨x,t,ex,rfl⟩:=P5 i v hP;have q:=mv hm hS;show wpAny _ A.in1 (holding [Value.str x t] (setAdd S<|.str x t) >>=_) _ _ s';refine zc<|yI ?_;unfold setAdd;refine yI ?_;refine zc<|(strKind prog w).pyHash (k:=x) (strKind_is _ _ _ _) ?_;have room:(jb<|xs.take i).length+1<scanBound:=(by have:=Lv<|xs.take i;rw[ym]at this;lia);refine wpAny_setAddHashed_of (knd:=strKind prog w) (s:={s' with toks:=s'.toks+1}) (strKind_is _ _ _ _) rfl q room λh' Lw q2=>?_;have tk:xs.take (i+1)=xs.take i++[x]:=(by rw[List.take_succ,ex];rfl);have qi:h'.SetOf (strKind prog w) S (λy=>decide<|y∈jb (xs.take<|i+1)) (jb<|xs.take<|i+1).length:=(by refine SetOf_congr q2 (λy=>?_) ?_;rw[tk,y_];by_cases h:x∈jb (xs.take i);rw[if_pos h];by_cases hy:y=x;subst hy;simp[h];simp[hy];rw[if_neg h];simp;rw[tk,y_];by_cases h:x∈jb (xs.take i);rw[if_pos h,if_pos<|by simpa using h];rw[if_neg h,if_neg<|by simpa using h];simp);refine zA {plainId_quiet F.plain_set_update_loop _,ih (i+1) _ (by lia) (W.frame _ s' _ _ P6 (yS _) λb hb o e=>?_) qi λBN P7 YH=>?_};rw[Lw.2 b (λh:b=S=>hSf<|by rw[<-h];exact hb)];exact e;refine hR BN (Moved.trans W.gtrans ((hm.mono up).then_heap (yS _) λb o hb e=>?_) P7) YH;rw[Lw.2 b (λh:b=S=>hb<|by rw[h];exact zo)];exact e
theorem z_(hh:A.handled=none)(hl:s.heap.IsList l items)(hx:xs.length=items.size) (hi:∀(i:Nat)(v:Value),items[i]?=some v->∃x t,xs[i]?=some x/\v=.str x t) (hb:items.size+1<scanBound) (h:∀(h':Heap)(tk:Nat),h'.SetOf (strKind prog w) s.heap.objs.size (λy=>decide<|y∈jb xs) (jb xs).length->(∀b o,b<s.heap.objs.size->s.heap.get? b=some o->h'.get? b=some o)->Q (.ref s.heap.objs.size) {s with heap:=h',toks:=tk}): wpAny (model prog w) A (call (.type "set") [.ref l]) Q E s:=by
 obtain⟨c,tl,m0⟩:=F.called_set.mro;have m1:=F.called_set.made;have m2:=F.called_set.sub;refine wpAny_call<|codeAny_of_tree ?_;show wpAny _ _ (callAny (.type "set") _) _ _ _;refine zA {Code.quiet_builtin _<|by trivial,yP F.entry_type_call ?_};rw[Around.under_plain (weight_type_call_type "set" [.ref l] []) rfl];have m3:=F.called_set.notType;have m4:=F.called_set.canCreate;have m5:=F.typeCall_set_1<|.ref l;repeat (any_goals (first|assumption|wp_step))
 refine yT (code_set_new_1 (.ref l) (E:=E) (Q₁:=λob s1=>∃led:Bool,ob=.ref s.heap.objs.size/\s1={s with heap:=s.heap.push {cls:=.type "set",dict:=none,data:=.set #[] 0 (.fresh 0 0 led)}}) λled=>⟨led,rfl,rfl⟩) λr s1 hr=>?_
 cases r with
 |error e=>exact hr
 |ok fl =>
  cases fl with
  |ret ob =>
   obtain⟨led,rfl,rfl⟩:=hr;generalize hO:({cls:=.type "set",dict:=none,data:=.set #[] 0 (.fresh 0 0 led)} : Obj)=O;have gS:(s.heap.push O).get? s.heap.objs.size=some O:=zj _ (by rw[<-hO];rfl);have tS:Shared.TypeIs {s with heap:=s.heap.push O} (.ref s.heap.objs.size) "set":={_,gS,by rw[<-hO]};have i1:=F.called_set.init.lookup;have i2:=F.called_set.init.bind<|.ref s.heap.objs.size;(repeat (any_goals (first|assumption|wp_step)));refine yT (codeAny_call_builtin (R:=wants (λr s2=>r=.none/\∃h' tk,s2={s with heap:=h',toks:=tk}/\h'.SetOf (strKind prog w) s.heap.objs.size (λy=>decide<|y∈jb xs) (jb xs).length/\(∀b o,b<s.heap.objs.size->s.heap.get? b=some o->h'.get? b=some o)) E) F.called_set.init.plain F.entry_set_init<|check_set_init_1 tS ?_) λr2 s2 YI=>?_
   ·obtain⟨ol,gl,cl,nl,dl⟩:=hl;obtain⟨acQ,Ub,aa_,P8⟩:=ol;simp only at cl dl;subst cl;subst dl;have Uc:(s.heap.push O).get? l=some {cls:=.type "list",dict:=Ub,data:=.seq items nl,slots:=P8}:=zb _ gl;have j1:=F.sub_list_set;have j2:=F.sub_list_frozenset;have j3:(Value.type "list"== Value.type "dict")=false:=(by decide);have il:(s.heap.push O).IsList l items:={_,Uc,rfl,nl,rfl};subst hO;unfold Builtin.«set.__init__» noKeywords Builtin.Frozenset.updateFrom;generalize hPI:pyIter=PI;wp_walk;subst hPI;refine wpAny_pyIter_list il ?_;refine zc<|wpAny_runValue ?_;have ll:l<s.heap.objs.size:=zw gl;have h3:A.in1.in1.in1.handled=none:=(by simp[hh]);have ne:l≠(s.heap.push {cls:=.type "set",dict:=none,data:=.set #[] 0 (.fresh 0 0 led)}).objs.size:=(by rw[ya];exact zB<|Nat.lt_succ_of_lt ll);have nf:s.heap.objs.size∉[(s.heap.push {cls:=.type "set",dict:=none,data:=.set #[] 0 (.fresh 0 0 led)}).objs.size,l]:=(by rw[ya];simp only[zh,zE,zM,or_false,not_or];exact{zB<|Nat.lt_succ_self _,yn ll});refine HV ((Walks.list h3 _ l ne items).toS) s.heap.objs.size nf xs hx hi hb (items.size-0) 0 _ (by lia) {{_,zj _ rfl,rfl,rfl},(il.push _)} ?hS0 ?hR
    case hS0 =>
     have gg:=zb {cls:=.type "list_iterator",data:=.fields #[.ref l,.int 0 0]} gS
     exact SetOf_congr ((setObjOf_fresh (knd:=strKind prog w) led).setOf gg<|by unfold scanBound;lia) (λ_=>rfl) rfl
    case hR =>
     intro s' hm q
     obtain⟨h',g',d',RU,Ts⟩:=s'
     have eg:g'=s.gens:=hm.gens;have ed:d'=s.drawn:=hm.drawn;have eo:Ts=s.os:=hm.os
     subst eg;subst ed;subst eo
     show wpAny _ _ _ _ _ _;refine zA ?_;show wpAny _ _ (ret Value.none) _ _ _
     refine zA {rfl,h',RU,rfl,q,λb o hb e=>?_}
     have b2:b≠(s.heap.push {cls:=.type "set",dict:=none,data:=.set #[] 0 (.fresh 0 0 led)}).objs.size:=by rw[ya];exact zB<|Nat.lt_succ_of_lt hb
     refine hm.heap b o ?_<|zb _<|zb _ e
     simp only[zh,zE,zM,or_false,not_or];exact{zB hb,b2}
   {cases r2 with|error e=>exact YI|ok f2=>cases f2 with|ret r=>(obtain⟨rfl,h',tk,rfl,q,k'⟩:=YI;(repeat (any_goals (first|assumption|wp_step)));exact h _ _ q k')|_=>exact YI.elim}
  |_=>exact hr.elim
end
noncomputable def P9(P:Program)(w:World)(a:Addr)(xs:List Str):HO:=.ext λh=>h.SetOf (strKind P w) a (λy=>decide<|y∈jb xs) (jb xs).length
theorem Lx(q:h.SetOf (strKind P w) a (λy=>decide<|y∈jb xs) (jb xs).length):br P w H h a (P9 P w a xs):=by obtain⟨o,es,ep,t,ho,rest⟩:=id q;exact{q,⟨o,ho⟩,by rintro h1 h2 ⟨o,es,ep,t,ho,rest⟩ k;exact{o,es,ep,t,k _ ho,rest}}
theorem Ab:∀{xs:List Str}{ay:List Value},Vals (xs.map V.str) ay->∀(i:Nat)(v:Value),ay[i]?=some v->∃x t,xs[i]?=some x/\v=.str x t|[],_,.nil,i,v,e=>by simp at e|x::xs,_,.cons r rs,0,v,e=>(by obtain⟨t,q⟩:=r;simp at e;exact{x,t,rfl,by rw[<-e];exact q})|x::xs,_,.cons r rs,i+1,v,e=>by obtain⟨y,t,e1,e2⟩:=Ab rs i v (by simpa using e);exact{y,t,by simpa using e1,e2}
section
variable{X:Cx}
theorem FK{P:Program}{w:World}{K:Frag}(hP:X.prog=P)(hw:X.w=w)(hK:X.K=K)(hc:X.calm=true): fe X (.type "set") (λvs H Q=>∃p xs,vs=[.ref p]/\kz K H p (xs.map V.str)/\xs.length<4000/\∀l,H l=none->Q (.ref l) (upd H l<|P9 P w l xs)):=by
 subst hP;subst hw;subst hK;intro pins s σ H vs us Q I r h;obtain⟨p,xs,rfl,hq,hz,q⟩:=h;obtain⟨u,rfl,rx⟩:=vals1 r;cases rx;obtain⟨ay,r',pl,_⟩:=I.list hq;have hlen:xs.length=ay.toArray.size:=by have:=r'.length;simpa using this
 refine z_ (I.ok.hd hc) pl.isList hlen (λi v e=>Ab r' i v<|by simpa using e) (by rw[<-hlen];unfold scanBound;lia) λh' tk qs kp=>?_;refine{.ref s.heap.objs.size,_,I.laid (t':=tk) (λb o e=>kp b o (zw e) e) (zr _)<|Lx qs,rfl,q _<|I.aL.fresh<|zr _}
theorem FL(hP:X.prog=P)(hw:X.w=w):fe X (.builtin "len") (λvs H Q=>∃a xs,vs=[.ref a]/\H a=some (P9 P w a xs)/\Q (.int (jb xs).length) H):=by subst hP;subst hw;intro pins s σ H vs us Q I r h;obtain⟨a,xs,rfl,ha,q⟩:=h;obtain⟨u,rfl,rx⟩:=vals1 r;cases rx;obtain⟨⟨o,es,ep,t,ho,hex,hd,YJ,P_,hb,hf,hn⟩,_⟩:=I.aL a _ ha;refine call_len_set ho hex hd hf (by unfold scanBound at hb;lia) ?_;exact{.int (jb xs).length,H,I.tok _,{_,by rw[hn]},q}
end
theorem u7(l:List Str):(jb l).length=l.length↔l.Nodup:=by
 have all:∀(r c:List Str),c.Nodup->((r.foldl (λc x=>if x∈c then c else c++[x]) c).length=c.length+r.length↔(c++r).Nodup):=by intro r;induction r with|nil=>intro c hc;simpa using hc|cons x r ih=>intro c hc;rw[yO];by_cases h:x∈c;{rw[if_pos h];have le:(r.foldl (λc x=>if x∈c then c else c++[x]) c).length<=c.length+r.length:=(by have all2:∀(r c:List Str),(r.foldl (λc x=>if x∈c then c else c++[x]) c).length<=c.length+r.length:=(by intro r;induction r with|nil=>intro c;simp|cons x r ih=>intro c;rw[yO];refine zK (ih _) ?_;split<;>simp<;>try lia);exact all2 r c);refine{λe=>by simp at e;lia,λe=>?_};exact absurd rfl<|(List.nodup_append.mp e).2.2 x h x<|by simp};rw[if_neg h];have KL:(c++[x]).Nodup:=mM hc h;have:=ih (c++[x]) KL;simp only[zt,zQ,List.length_nil,List.append_assoc,List.singleton_append]at this⊢;rw[<-this];constructor<;>intro e<;>lia
 simpa [jb]using all l [] List.nodup_nil
theorem jc:entryFor table "dict.update.loop"= some Builtin.«dict.update.loop»:=entryFor_of_tree<|by kernel_rfl
theorem dA:plainId "dict.update.loop"= true:=by trivial
theorem uk:typeLookup (.type "tuple") "keys"= pure none:=by rw[typeLookup_type,builtinLookup_eq_fast];kernel_rfl
section
variable{prog:Program}{w:World}{A:Around}{E:Value->Shared->Prop}{s:Shared}
theorem um(hx:s.heap.get? a=some o)(hc:o.cls=.type "tuple")(Ud:o.data=.seq xs k)(hd:o.dict=none)(hA:A.handled=none) (h:∀h' tk,(∀b ob,s.heap.get? b=some ob->h'.get? b=some ob)->Q none {s with heap:=h',toks:=tk}):wpAny (model prog w) A (getAttr? (.ref a) "keys") Q E s:=by
 obtain⟨c,cO,dat,sl⟩:=o;simp only at hc Ud hd;subst hc Ud hd;obtain⟨hp,g,d,tk,os⟩:=s;have hT:∀RU,(⟨hp,g,d,RU,os⟩:Shared).TypeIs (.ref a) "tuple":=λ_=>{_,hx,rfl};have f1:=sub_AttributeError;have f3:=F.slot_tuple_getattribute.lookup;have f4:=F.slot_tuple_getattribute.bind<|.ref a;have f5:=am_tuple_getattr_none;unfold getAttr? getAttrBy? getAttrBy;repeat (any_goals (first|assumption|exact hT _|((with_reducible show wpAny _ _ (call (Value.builtin "tuple.__getattribute__") _ _) _ _ _);refine call_meets F.slot_tuple_getattribute (hT _) am_entry_tuple_getattribute (F.args_tuple_getattribute_2 _ _) (meets_getattribute_miss_tuple a xs k sl "keys" _ uk (by trivial)<|by size_fits) {hx,hA,λh' RU e HW=>?_})|wp_step))
 obtain⟨t',u',he⟩:=HW.there;show wpAny _ _ (getattributeRaised _ _ _ _ _ _ _) _ _ _;unfold getattributeRaised;repeat (any_goals (first|assumption|wp_step))
 exact h _ _ HW.keeps
end
section
variable{prog:Program}{w:World}{A:Around}{R:Result->Shared->Prop}{I:Addr}{fp wr:List Addr}{G:Array GenState->Array GenState->Prop}{n:Nat}{P:Nat->Value->Prop}{St:Nat->Shared->Prop}
theorem FN(W:WalksS prog w A.in1 I fp wr G n P St)(D:Addr)(hDf:D∉fp)(kvs:List<|Key×Value)(hx:kvs.length=n)(base:Heap) (P5:∀i v,P i v->∃(b:Addr) (k:Key) (key val:Value) (o:Obj) (m:Nat),kvs[i]?=some (k,val)/\v=.ref b/\(aH prog w).is k key=true/\base.get? b=some o/\o.cls=.type "tuple"/\o.data=.seq #[key,val] m/\b≠D/\b∉wr) (hb:n<=sizeLine): ∀(k i:Nat) (s:Shared) (c:Int) (t:Tok),i+k=n->St i s->s.heap.DictOf (aH prog w) D (merged []<|kvs.take i)->(∀b o,base.get? b=some o->b≠D->b∉wr->s.heap.get? b=some o)->(∀s',Moved (D::wr) G s s'->s'.heap.DictOf (aH prog w) D (merged [] kvs)->R (.ok<|.ret .none) s')->codeAny (model prog w) A (.builtin "dict.update.loop" {[.ref D,.ref I,.int c t,.none],[]}) R s:=by have nw:D∉wr:=λh=>hDf<|W.sub _ h;have up:∀b∈wr,b∈D::wr:=λb hb=>zi _ hb;intro k;induction k with|zero=>(intro i s c t hk x6 hS hB hR;have e:i=n:=(by lia);subst e;refine yP jc ?_;rw[Around.under_plainId dA _];show wpAny _ A.in1 (pyNext (.ref I) >>=_) _ _ s;refine zc<|W.done s _ _ x6 λs' hm=>?_;show wpAny _ A.in1 (Builtin.Dict.addKeywords D [] >>=_) _ _ s';have q:s'.heap.DictOf (aH prog w) D (merged []<|kvs.take i):=(by obtain⟨o,es,ep,ho,rest⟩:=hS;exact{o,es,ep,hm.heap D _ nw ho,rest});rw[<-hx,yK]at q;exact zc<|zA<|zA<|hR s' (hm.mono up) q)|succ k ih=>intro i s c t hk x6 hS hB hR;have lt:i<n:=(by lia);refine yP jc ?_;rw[Around.under_plainId dA _];show wpAny _ A.in1 (pyNext (.ref I) >>=_) _ _ s;refine zc<|W.item i s _ _ lt x6 λv s' hP P6 hm=>?_;obtain⟨b,ky,key,val,o,m,ek,rfl,Pg,ho,hc,hd,hbD,hbw⟩:=P5 i v hP;have q:s'.heap.DictOf (aH prog w) D (merged []<|kvs.take i):=(by obtain⟨o,es,ep,ho,rest⟩:=hS;exact{o,es,ep,hm.heap D _ nw ho,rest});have hb':s'.heap.get? b=some o:=hm.heap b o hbw<|hB b o ho hbD hbw;have room:(merged []<|kvs.take i).length<=sizeLine:=(by have:=merged_length_le ([]:List (Key×Value))<|kvs.take i;rw[ym]at this;simp at this;lia);have tk:merged [] (kvs.take<|i+1)=stored (merged []<|kvs.take i) ky val:=merged_take_succ [] kvs i (ky,val) ek;refine zc<|yI<|zc<|wpAny_tryCatch ?_;unfold Builtin.Dict.pairItems;refine zc<|wpAny_typeOf (T:="tuple") ⟨o,hb',hc⟩ ?_;show wpAny _ A.in1 (seqItems? (.ref b) >>=_) _ _ s';refine zc<|wpAny_seqItems hb' hd<|zA ?_;show wpAny _ A.in1 (holding [key,val]<|dictSet D key val) _ _ s';refine yI<|wpAny_dictSet_pairs Pg q (λh' q2 Lw=>?_) room;rw[<-tk]at q2;refine zA {plainId_quiet dA _,ih (i+1) _ _ _ (by lia) (W.frame _ s' _ _ P6 (yS _) λb hb o e=>?_) q2 (λb o e h1 h2=>?_) λBN P7 YH=>?_};rw[Lw.2 b (λh:b=D=>hDf<|by rw[<-h];exact hb)];exact e;rw[Lw.2 b h1];exact hm.heap b o h2<|hB b o e h1 h2;refine hR BN (Moved.trans W.gtrans ((hm.mono up).then_heap (yS _) λb o hb e=>?_) P7) YH;rw[Lw.2 b (λh:b=D=>hb<|by rw[h];exact zo)];exact e
theorem uo(hh:A.handled=none)(gl:s.heap.get? l=some ol)(cl:ol.cls=.type "tuple")(dl:ol.data=.seq items m)(nl:ol.dict=none)(hx:kvs.length=items.size) (hi:∀(i:Nat) (v:Value),items[i]?=some v->∃(b:Addr) (k:Key) (key val:Value) (o:Obj) (m:Nat),kvs[i]?=some (k,val)/\v=.ref b/\(aH prog w).is k key=true/\s.heap.get? b=some o/\o.cls=.type "tuple"/\o.data=.seq #[key,val] m) (hb:items.size<=sizeLine) (h:∀(h':Heap) (tk:Nat),h'.DictOf (aH prog w) s.heap.objs.size (merged [] kvs)->(∀b o,s.heap.get? b=some o->h'.get? b=some o)->Q (.ref s.heap.objs.size) {s with heap:=h',toks:=tk}): wpAny (model prog w) A (call (.type "dict") [.ref l]) Q E s:=by
 refine callType_codes (Q₁:=λobj aZ=>obj=.ref s.heap.objs.size/\aZ={s with heap:=s.heap.push {cls:=.type "dict",data:=.dict #[]}}) F.kt_called_dict (F.kt_typeCall_dict_1 _) F.entry_dict_init (kt_code_dict_new _ ⟨rfl,rfl⟩) ?_;rintro obj aZ ⟨rfl,rfl⟩;have Qa:(s.heap.push {cls:=.type "dict",data:=.dict #[]}).DictOf (aH prog w) s.heap.objs.size []:=Heap.DictOf.new s.heap;have Uc:(s.heap.push {cls:=.type "dict",data:=.dict #[]}).get? l=some ol:=zb _ gl;refine{Qa.typeIs,F.args_dict_init_2 _ _,?_};unfold Builtin.«dict.__init__»;refine zc ?_;unfold Builtin.Dict.selfAndRest;refine zc<|wpAny_notOrdered_dict Qa.typeIs ?_;show wpAny _ _ (pure (s.heap.objs.size,[Value.ref l])) _ _ _;refine zA ?_;show wpAny _ _ (Builtin.Dict.updateFrom "dict.__init__" s.heap.objs.size (.ref l) [] .none) _ _ _;unfold Builtin.Dict.updateFrom;refine zc<|wpAny_typeOf (T:="tuple") ⟨ol,Uc,cl⟩ ?_;rw[if_pos<|by decide];have h3:A.in1.in1.handled=none:=by simp[hh]
 refine zc<|um Uc cl dl nl h3 λh1 tk1 WM=>?_;have g1:h1.get? l=some ol:=WM _ _ Uc;have d1:h1.DictOf (aH prog w) s.heap.objs.size []:=by obtain⟨o,es,ep,ho,rest⟩:=Qa;exact{o,es,ep,WM _ _ ho,rest}
 have lD:s.heap.objs.size<h1.objs.size:=by obtain⟨o,es,ep,ho,rest⟩:=d1;exact zw ho
 have ll:l<s.heap.objs.size:=zw gl;show wpAny _ _ (rule _ >>=_) _ _ _;refine zc<|wpAny_rule ?_;have it1:h1.IsTuple l items:=⟨ol,g1,cl,m,dl⟩;refine zc<|wpAny_pyIter_tuple (s:=⟨h1,s.gens,s.drawn,tk1,s.os⟩) it1 ?_;have ne:l≠h1.objs.size:=zB<|Nat.lt_trans ll lD;have nf:s.heap.objs.size∉[h1.objs.size,l]:=by simp only[zh,zE,zM,or_false,not_or];exact{zB lD,yn ll}
 refine zA {plainId_quiet dA _,?_};refine FN ((Walks.tuple h3 _ l ne items).toS) s.heap.objs.size nf kvs hx s.heap (λi v e=>?_) hb (items.size-0) 0 _ _ _ (by lia) {{_,zj _ rfl,rfl,rfl},it1.push _} ?hS0 ?hB ?hR;obtain⟨b,k,key,val,o,m',e1,e2,e3,e4,e5,e6⟩:=hi i v e;have lb:=zw e4;exact{b,k,key,val,o,m',e1,e2,e3,e4,e5,e6,zB lb,by simp;exact zB<|Nat.lt_trans lb lD};case hS0=>exact d1.push _
 case hB=>exact λb o e FO YK=>zb _<|WM _ _<|zb _ e
 case hR =>
  intro s' hm q
  obtain⟨h',g',d',RU,Ts⟩:=s'
  have eg:g'=s.gens:=hm.gens;have ed:d'=s.drawn:=hm.drawn;have eo:Ts=s.os:=hm.os
  subst eg;subst ed;subst eo
  refine{rfl,h h' RU q λb o e=>?_}
  have lb:=zw e
  refine hm.heap b o ?_<|zb _<|WM _ _<|zb _ e
  simp only[zh,zE,zM,or_false,not_or];exact{zB lb,zB<|Nat.lt_trans lb lD}
end
noncomputable def Ed(l:List<|Str×V):List (Key×V):=l.foldl (λc p=>putK c (.inr p.1) p.2) []
def Prs(H:Hp)(ps:List V)(kvs:List<|Str×V):Prop:=kvs.length=ps.length/\∀(i:Nat)(x:V)(p:Str×V),ps[i]?=some x->kvs[i]?=some p->∃b,x=.ref b/\H b=some (.tup [.str p.1,p.2])
section
variable{X:Cx}
theorem B8(hc:X.calm=true):fe X (.type "dict") (λvs H Q=>∃p ps kvs,vs=[.ref p]/\H p=some (.tup ps)/\Prs H ps kvs/\∀l,H l=none->Q (.ref l) (upd H l<|.dK<|Ed kvs)):=by
 intro pins s σ H vs us Q I r h;obtain⟨p,ps,kvs,rfl,hp,⟨hl,hq⟩,q⟩:=h;obtain⟨u,rfl,rx⟩:=vals1 r;cases rx;obtain⟨hz,ay,rv,ol,gl,cl,nl,m,dl⟩:=(show br X.prog X.w H s.heap p (.tup ps) from I.aL p _ hp);have hlen:=rv.length;have each:∀(i:Nat)(x:V)(pr:Str×V),ps[i]?=some x->kvs[i]?=some pr->∃(b:Addr)(key val:Value)(o:Obj)(m:Nat),ay[i]?=some (.ref b)/\(aH X.prog X.w).is (.inr pr.1) key=true/\RelV pr.2 val/\s.heap.get? b=some o/\o.cls=.type "tuple"/\o.data=.seq #[key,val] m:=by intro i x pr e1 e2;obtain⟨b,rfl,hb⟩:=hq i x pr e1 e2;obtain⟨u,e3,ru⟩:=rv.get e1;cases ru;obtain⟨_,it2,r2,o,go,co,no,m2,do2⟩:=(show br X.prog X.w H s.heap b (.tup [.str pr.1,pr.2]) from I.aL b _ hb);obtain⟨k',v',rfl,⟨tk,rfl⟩,rv'⟩:=r2.two;exact{b,_,v',o,m2,e3,jy _ _ _ _,rv',go,co,by simpa using do2}
 have kv:∃vals:List (Key×Value),KV (kvs.map λp=>((.inr p.1:Key),p.2)) vals/\∀(i:Nat)(x:V),ps[i]?=some x->∃(b:Addr)(k:Key)(key val:Value)(o:Obj)(m:Nat),vals[i]?=some (k,val)/\ay[i]?=some (.ref b)/\(aH X.prog X.w).is k key=true/\s.heap.get? b=some o/\o.cls=.type "tuple"/\o.data=.seq #[key,val] m:=by clear hp q rv dl hz;induction kvs generalizing ps ay with|nil=>refine{[],.nil,λi x e=>?_};have:ps=[]:=List.eq_nil_of_length_eq_zero (by simpa using hl.symm);subst this;simp at e|cons pr r ih=>cases ps with|nil=>simp at hl|cons y ys=>cases ay with|nil=>simp at hlen|cons w0 ws=>obtain⟨b,key,val,o,m,e1,e2,e3,e4,e5,e6⟩:=each 0 y pr rfl rfl;obtain⟨vals,k1,k2⟩:=ih ys (by simpa using hl) (λi x p a b=>hq (i+1) x p (by simpa using a)<|by simpa using b) ws (by simpa using hlen) (λi x p a b=>by simpa using each (i+1) x p (by simpa using a) (by simpa using b));refine{(.inr pr.1,val)::vals,.cons ⟨rfl,e3⟩ k1,λi x e=>?_};cases i with|zero=>exact{b,.inr pr.1,key,val,o,m,rfl,e1,e2,e4,e5,e6}|succ i=>simpa using k2 i x (by simpa using e)
 obtain⟨vals,kv1,kv2⟩:=kv;have lv:vals.length=ay.length:=by have:=kv1.length;rw[za]at this;lia
 refine uo (kvs:=vals) (I.ok.hd hc) gl cl dl nl (by simpa using lv) (λi v e=>?_) (by simp;lia) λh' tk qs kp=>?_;have e':ay[i]?=some v:=by simpa using e
 have hi:i<ay.length:=(ze.mp e').1;obtain⟨b,k,key,val,o,m',e1,e2,e3,e4,e5,e6⟩:=kv2 i (ps[i]'(by lia))<|zf _;rw[e']at e2;exact{b,k,key,val,o,m',e1,zR e2,e3,e4,e5,e6};have rel:KV (Ed kvs) (merged [] vals):=by have all:∀(l:List (Str×V))(vl:List (Key×Value))(c:List (Key×V))(cv:List (Key×Value)),KV (l.map λp=>((.inr p.1:Key),p.2)) vl->KV c cv->KV (l.foldl (λc p=>putK c (.inr p.1) p.2) c) (merged cv vl):=(by intro l;induction l with|nil=>(intro vl c cv h1 h2;cases h1;exact h2)|cons p r ih=>intro vl c cv h1 h2;cases h1 with|@cons _ q _ qs r1 r2=>obtain⟨k,v⟩:=q;obtain⟨rfl,rv⟩:=r1;exact ih qs _ _ r2<|h2.put _ rv);exact all kvs vals [] [] kv1 .nil
 have big:=I.big;refine{.ref s.heap.objs.size,_,I.laid (t':=tk) (λb o e=>kp b o e) (zr _) (o:=.dK<|Ed kvs) {?_,?_,_,rel,qs},rfl,q _<|I.aL.fresh<|zr _};have e1:=rel.length;have e2:=merged_length_le ([]:List (Key×Value)) vals;simp at e2;lia;simp;exact yn big
theorem smz(h:n<=1000):n<=sizeLine:=yw<|kB h
end
abbrev mQ(h:Heap)(T:Addr)(arr:Array Value):Prop:=h.get? T=some {cls:=.type "tuple",data:=.seq arr}
theorem wb(hs:Heap.ExtBut b h h')(n:a≠b)(x:h.IsTupleIter a l i):h'.IsTupleIter a l i:=x.extBut hs n
theorem Nz{h h':Heap}{a l:Addr}{i:Nat}(k:∀o,h.get? a=some o->h'.get? a=some o)(x:h.IsTupleIter a l i):h'.IsTupleIter a l i:=by obtain⟨o,e,r⟩:=x;exact{o,k o e,r}
section
variable{prog:Program}{w:World}{A:Around}{E:Value->Shared->Prop}{s:Shared}
theorem YL(h:n<=3):n<=sizeLine:=smz<|zK h<|by decide
theorem FP(hT:mQ s.heap T arr)(hz:arr.size<=3)(h:∀h',mQ h' T (arr.setIfInBounds k x)->Heap.SameBut T s.heap h'->Q () {s with heap:=h'}):wpAny (model prog w) A (updateSeq T (·.setIfInBounds k x)) Q E s:=by refine wpAny_updateSeq hT rfl (h _ ?_<|yB ..) (hz:=YL hz) (_hz':=by have:=YL hz;simp;lia);show Heap.get? _ _=_;rw[yx _ hT rfl];simp[Obj.mapSeq]
theorem B9(hit:s.heap.IsTupleIter it l i)(hl:s.heap.IsTuple l items)(hx:items[i]?=some x)(hQ:∀h',h'.IsTupleIter it l (i+1)->Heap.SameBut it s.heap h'->Q x {s with heap:=h'}): wpAny (model prog w) A (Builtin.SmallTypes.nextOf<|.ref it) Q E s:=by obtain⟨o,ho,hc,hd⟩:=id hit;obtain⟨ol,Qb,_,nl,Ac⟩:=hl;unfold Builtin.SmallTypes.nextOf;refine zc<|wpAny_callSpecial?_slot (name:=Str.ofString "__next__") hit.typeIs F.slot_tuple_iterator_next<|yL F.slot_tuple_iterator_next hit.typeIs F.entry_tuple_iterator_next ?_<|F.args_tuple_iterator_next_1 _;show wpAny _ _ (field (.ref it) 0 >>=_) _ _ s;refine zc<|yf ho hd (x:=.ref l) rfl ?_;show wpAny _ _ (if (Value.ref l==Value.none)=true then _ else _) _ _ s;rw[if_neg<|show ¬((Value.ref l==Value.none)=true) from zd];show wpAny _ _ (field (.ref it) 1 >>=_) _ _ s;refine zc<|yf ho hd (x:=.int i 0) rfl ?_;show wpAny _ _ (seqItems? (.ref l) >>=_) _ _ s;refine zc<|wpAny_seqItems Qb Ac ?_;simp only[Int.toNat_natCast,hx];refine zc<|yR ho hd (by simp)<|zA {x,rfl,zA<|hQ _ {_,yx _ ho<|Obj.isFreed_of_fields<|yz hd _,(Obj.cls_mapFields ..).trans hc,by rw[yz hd];simp[rawInt]}<|yB ..}
theorem r_(hh:A.handled=none)(hit:s.heap.IsTupleIter it l i)(hl:s.heap.IsTuple l items)(hx:items[i]?=none) (hE:∀h' e,Heap.ExtBut it s.heap h'->(∃o,h'.get? e=some o/\o.cls=.type "StopIteration")->E (.ref e) {s with heap:=h'}):wpAny (model prog w) A (Builtin.SmallTypes.nextOf<|.ref it) Q E s:=by
 obtain⟨o,ho,hc,hd⟩:=id hit;obtain⟨ol,Qb,_,nl,Ac⟩:=hl;unfold Builtin.SmallTypes.nextOf;refine zc<|wpAny_callSpecial?_slot (name:=Str.ofString "__next__") hit.typeIs F.slot_tuple_iterator_next<|yL F.slot_tuple_iterator_next hit.typeIs F.entry_tuple_iterator_next ?_<|F.args_tuple_iterator_next_1 _;show wpAny _ _ (field (.ref it) 0 >>=_) _ _ s;refine zc<|yf ho hd (x:=.ref l) rfl ?_;show wpAny _ _ (if (Value.ref l==Value.none)=true then _ else _) _ _ s;rw[if_neg<|show ¬((Value.ref l==Value.none)=true) from zd];show wpAny _ _ (field (.ref it) 1 >>=_) _ _ s;refine zc<|yf ho hd (x:=.int i 0) rfl ?_;show wpAny _ _ (seqItems? (.ref l) >>=_) _ _ s;refine zc<|wpAny_seqItems Qb Ac ?_;simp only[Int.toNat_natCast,hx];refine zc<|wpAny_rule<|zc<|yR ho hd (by simp) ?_;show wpAny _ _ (newExc (.type "StopIteration") [] >>=_) _ _ _;refine zc ?_;simp only[newExc,newTuple];refine zc<|yG ?_ (by size_fits);refine zc (m:=firstArgMember _ _)<|yV (a:=Value.none) (by first|rfl|(simp only[firstArgMember];rfl)) ?_;refine yG ?_ (by size_fits);simp only[raiseNew];refine zc<|wpAny_handled ?_;first|rw[show A.in1.handled=none from hh]|rw[hh]
 refine zc<|zA<|wpAny_throw<|hE _ _ (((yB ..).extBut.push _).push _) {_,zj _ rfl,rfl}
end
def ZS2(n l0 l1:Nat)(i:Nat)(h:Heap):Prop:=IsZip h (n+4) (n+2) (n+3) .none/\mQ h (n+2) #[.ref n,.ref<|n+1]/\(∃arr:Array Value,arr.size=2/\mQ h (n+3) arr)/\h.IsTupleIter n l0 i/\h.IsTupleIter (n+1) l1 i
section
variable{X:Cx}{pins:List (Addr×Obj)}{σ:St}{H:Hp}{s:Shared}{h':Heap}
theorem Inv.Lz(I:Inv X pins σ H s)(wr:List Addr)(hw:∀b∈wr,ug X pins H b)(k:∀b o,b∉wr->s.heap.get? b=some o->h'.get? b=some o):Inv X pins σ H {s with heap:=h',toks:=t'}:=by refine I.step (g':=s.gens) (d':=s.drawn) (ch:=wr) (λb hb=>by obtain⟨_,a,_,c,d,e⟩:=hw b hb;exact⟨c,a,d,e⟩) (λb o _ _ hc e _=>k b o hc e) (λb o _ _ hc e _=>{o.slots,k b o hc e}) (λ_ _ _ _ n=>n) (λb o hc e=>{o,k b o hc e}) (λ_ _ e=>e) (λ_ _ _ e=>e) (λb ps e=>{#[],by rw[e];simp}) (λm hm=>?_) (λb u e=>?_) I.bare;obtain⟨o,es,ep,ho,r⟩:=hm;exact{o,es,ep,k _ o (λz=>(hw _ z).2.1 rfl) ho,r};refine(I.aL b u e).qx (λc v hc q=>k c v (λz=>?_) q) (λ_ q=>q) λ_ _ q=>q;have n:=(hw c z).1;rcases hc with rfl|hc;rw[n]at e;cases e;rw[n]at hc;cases hc
theorem Inv.LA(I:Inv X pins σ H s)(wr:List Addr)(hw:∀b∈wr,ug X pins H b)(k:∀b o,b∉wr->s.heap.get? b=some o->h'.get? b=some o)(hT:s.heap.get? T=none)(new:br X.prog X.w (upd H T o) h' T o): Inv X pins σ (upd H T o) {s with heap:=h',toks:=t'}:=by
 have fr:H T=none:=by cases q:H T with|none=>rfl|some u=>obtain⟨z,e⟩:=(I.aL T u q).get;rw[hT]at e;cases e
 have ne:∀b u,H b=some u->b≠T:=λb u e z=>by rw[z,fr]at e;cases e
 refine I.step (g':=s.gens) (d':=s.drawn) (ch:=wr) (λb hb=>by obtain⟨_,a,_,c,d,e⟩:=hw b hb;exact⟨c,a,d,e⟩) (λb o _ _ hc e _=>k b o hc e) (λb o _ _ hc e _=>{o.slots,k b o hc e}) (λb ob _ e n=>?_) (λb o hc e=>{o,k b o hc e}) (λb xs e=>by rw[aw<|ne b _ e];exact e) (λb ob u e=>by rw[aw<|ne b _ e];exact e) (λb ps e=>{#[],by rw[aw<|ne b _ e,e];simp}) (λm hm=>?_) (λb u e=>?_) I.bare;have:b≠T:=λz=>by rw[z,hT]at e;cases e
 rw[aw this];exact n;obtain⟨o,es,ep,ho,r⟩:=hm;exact{o,es,ep,k _ o (λz=>(hw _ z).2.1 rfl) ho,r};by_cases hb:b=T;subst hb;rw[aF]at e;cases e;exact new;rw[aw hb]at e;refine(I.aL b u e).qx (λc v hc q=>k c v (λz=>?_) q) (λc q=>by rw[aw<|ne c _ q];exact q) λc xs q=>by rw[aw<|ne c _ q];exact q
 have n:=(hw c z).1;rcases hc with rfl|hc;rw[n]at e;cases e;rw[n]at hc;cases hc
end
noncomputable abbrev LB(h:Heap)(l0:Addr):Heap:=(h).push {cls:=.type "tuple_iterator",data:=.fields #[.ref l0,.int 0 0]}
noncomputable abbrev LC(h:Heap)(l0 l1:Addr):Heap:=(LB h l0).push {cls:=.type "tuple_iterator",data:=.fields #[.ref l1,.int 0 0]}
noncomputable abbrev LD(h:Heap)(l0 l1:Addr):Heap:=(LC h l0 l1).push {cls:=.type "tuple",data:=.seq #[.ref h.objs.size,.ref (LB h l0).objs.size]}
noncomputable abbrev LF(h:Heap)(l0 l1:Addr):Heap:=(LD h l0 l1).push {cls:=.type "tuple",data:=.seq #[.none,.none]}
noncomputable abbrev Cb(h:Heap)(l0 l1:Addr):Heap:=(LF h l0 l1).push {cls:=.type "zip",data:=.fields #[.none,.bool false,.bool false,.ref (LC h l0 l1).objs.size,.ref (LD h l0 l1).objs.size]}
theorem Cc(l0 l1:Addr)(B_ Ca:Array Value):Meets (Builtin.«zip.__new__» {[.type "zip",.ref l0,.ref l1],[]}) (λ_ R s=>s.heap.IsTuple l0 B_/\s.heap.IsTuple l1 Ca/\R (.ok<|.ret<|.ref (LF s.heap l0 l1).objs.size) {s with heap:=Cb s.heap l0 l1}):=.of_wp λprog w A R s h=>by obtain⟨hp,g,d,tk,os⟩:=s;obtain⟨t0,t1,h⟩:=h;have YM:=sub_zip;have L0:Heap.IsTuple (Shared.heap ⟨hp,g,d,tk,os⟩) l0 B_:=t0;have L1:Heap.IsTuple (Shared.heap {hp.push {cls:=.type "tuple_iterator",data:=.fields #[.ref l0,.int 0 0]},g,d,tk,os}) l1 Ca:=Heap.IsTuple.push (t1) _;wp_walk using wpAny_pyIter_tuple L0,wpAny_pyIter_tuple L1;exact{_,rfl,h}
theorem Cd(t0:s.heap.IsTuple l0 B_)(t1:s.heap.IsTuple l1 Ca) (h:∀h',ZS2 s.heap.objs.size l0 l1 0 h'->(∀c o,s.heap.get? c=some o->h'.get? c=some o)->Q (.ref<|s.heap.objs.size+4) {s with heap:=h'}):wpAny (model prog w) A (call (.type "zip") [.ref l0,.ref l1]) Q E s:=by
 refine callType_new F.called_zip (by decide) (F.typeCall_zip_2 _ _) (F.newCall_zip_2 _ _) (λobj=>F.args_object_init_3 obj _ _) F.entry_zip_new (Cc l0 l1 B_ Ca) {t0,t1,?_};have z1:(LB s.heap l0).objs.size=s.heap.objs.size+1:=ya ..;have z2:(LC s.heap l0 l1).objs.size=s.heap.objs.size+2:=by rw[ya,z1]
 have z3:(LD s.heap l0 l1).objs.size=s.heap.objs.size+3:=by rw[ya,z2]
 have z4:(LF s.heap l0 l1).objs.size=s.heap.objs.size+4:=by rw[ya,z3]
 have z5:(Cb s.heap l0 l1).objs.size=s.heap.objs.size+5:=by rw[ya,z4]
 have g0:(Cb s.heap l0 l1).get? (s.heap).objs.size=some _:=zb _<|zb _<|zb _<|zb _<|zj _ rfl;have g1:(Cb s.heap l0 l1).get? (LB s.heap l0).objs.size=some _:=zb _<|zb _<|zb _<|zj _ rfl;have g2:(Cb s.heap l0 l1).get? (LC s.heap l0 l1).objs.size=some _:=zb _<|zb _<|zj _ rfl;have g3:(Cb s.heap l0 l1).get? (LD s.heap l0 l1).objs.size=some _:=zb _<|zj _ rfl;have g4:(Cb s.heap l0 l1).get? (LF s.heap l0 l1).objs.size=some _:=zj _ rfl;show _/\_;rw[z2,z3,z4]at g4;rw[z3]at g3;rw[z1,z2]at g2;rw[z1]at g1;rw[z4];exact{{_,g4,rfl},h _ {g4,g2,!⟨g3⟩,{_,g0,rfl,rfl},{_,g1,rfl,rfl}} λc o x=>zb _<|zb _<|zb _<|zb _<|zb _ x}
def LG(K:Frag):V->List V->Hp->VK->Prop:=λx vs H Q=>∃(a:Addr)(xs:List V)(y z:V)(j:Nat),x=.ref a/\vs=[y]/\kz K H a xs/\hW y=true/\xs.all hW=true/\xs[j]?=some z/\eqV z y=true/\(∀m u,m<j->xs[m]?=some u->eqV u y=false)/\Q (.int j) H
theorem FQ:RN X "list.index" (LG X.K):=by
 intro pins s σ H x vs v us Q I rx rv h;obtain⟨a,xs,y,z,j,rfl,rfl,hq,fy,fx,hj,hit,YN,q⟩:=h;cases rx;obtain⟨u,rfl,ru⟩:=rv.one;obtain⟨ay,r,p,hz⟩:=I.list hq;obtain⟨⟨cls,dd,data,sl⟩,ho,hc,n,hd⟩:=p.isList;simp only at hc hd;subst hc hd;have hl:=r.length;have eO:j<xs.length:=(ze.mp hj).1;have fl:∀(m:Nat)(w:V),xs[m]?=some w->hW w=true:=λm w e=>zZ.mp fx w<|zy e;have at':∀(m:Nat)(hm:m<ay.toArray.size)(w:V),xs[m]?=some w->yY y ay.toArray[m]=eqV w y:=λm hm w e=>by obtain⟨u',e',ru'⟩:=r.get e;have:ay.toArray[m]=u':=(by have:=ze.mp e';simpa using this.2);rw[this];exact BP ru'<|fl m w e
 have hs:sizeLine=16777216:=ye;refine call_meets PySem.F.slot_list_index {_,ho,rfl} PySem.F.entry_list_index (PySem.F.args_list_index_2 _ _) (SeqAt.list_indexAt a ay.toArray n dd sl u (yY y) j (by simp;lia) (by lia) ?_ ?_) {ho,λw hw=>h_ ru fy r fx w<|by simpa using hw,{.int j,H,I.tok _,{_,rfl},q}};rw[at' j _ z hj];exact hit;intro m hm hmj;have hmx:m<xs.length:=by lia
 rw[at' m hm _<|zf hmx];exact YN m _ hmj<|zf hmx
def Ue:R2:=λx y H Q=>∃z n,x=.str z/\y=.int n/\MulOk z n/\Q (.str<|PySem.Txt.mul z n) H
theorem Cf:hU X (binaryOp .Mult) Ue:=by intro pins s σ H x y v u Q I rx ry h;obtain⟨z,n,rfl,rfl,hm,q⟩:=h;obtain⟨t,rfl⟩:=rx;obtain⟨t',rfl⟩:=ry;exact SB.mul hm λt'' k=>{.str _,H,I.tok k,{_,rfl},q}
def Kl(w:World)(K:Frag)(a:Addr)(kvs:List<|Str×V):Prop:=(a==sysModules)=false/\∃(o:Obj)(es:Array DictEntry)(ep:Nat),K.lookup a=some o/\o.ExactDict/\o.data=.dict es ep/\Paired (λ(e:DictEntry)(kv:Str×V)=>e.hash=hashStr w kv.1/\(∃t,e.key=.str kv.1 t)/\RelV kv.2 e.val) es.toList kvs/\(kvs.map Prod.fst).Nodup
theorem sj(z:Str):∀kvs:List (Str×V),gv (kvs.map λp=>((.inr p.1:Key),p.2)) (.inr z)=kvs.lookup z
 |[]=>rfl
 | (x,v)::r=>by
  rw[zI,yc];by_cases e:z=x;subst e;rw[rR rfl];simp;have e1:(z==x)=false:=by simpa using e
  rw[rS λq=>e (yN q).symm,e1];exact sj z r
section
variable{X:Cx}{pins:List (Addr×Obj)}{σ:St}{H:Hp}{s:Shared}{a:Addr}{kvs:List (Str×V)}
theorem Ci(I:Inv X pins σ H s)(d:Kl X.w X.K a kvs):(a==sysModules)=false/\∃vs,KV (kvs.map λp=>((.inr p.1:Key),p.2)) vs/\s.heap.DictOf (aH X.prog X.w) a vs:=by
 obtain⟨ns,o,es,ep,hk,hx,hd,hp,hn⟩:=d;have all:∀(es:List DictEntry)(kvs:List (Str×V)),Paired (λ(e:DictEntry)(kv:Str×V)=>e.hash=hashStr X.w kv.1/\(∃t,e.key=.str kv.1 t)/\RelV kv.2 e.val) es kvs->∃vs:List (Key×Value),KV (kvs.map λp=>((.inr p.1:Key),p.2)) vs/\Pairs (aH X.prog X.w) es vs/\vs.map (·.1)=kvs.map (λp=>(.inr p.1:Key))/\∀e∈es,∃k,(aH X.prog X.w).is k e.key=true/\e.hash=(aH X.prog X.w).hash k:=by intro es kvs hp;induction hp with|nil=>exact{[],.nil,.nil,rfl,by simp}|@cons e kv Ww kvs' h t ih=>obtain⟨vs,k1,k2,k3,k4⟩:=ih;obtain⟨h1,⟨tk,h2⟩,h3⟩:=h;have hi:(aH X.prog X.w).is (.inr kv.1) e.key=true:=(by rw[h2];exact jy _ _ _ _);refine{(.inr kv.1,e.val)::vs,.cons ⟨rfl,h3⟩ k1,.cons hi rfl k2,by rw[zI,zI,k3],λe' he=>?_};rcases zh.mp he with rfl|he;exact{.inr kv.1,hi,h1};exact k4 e' he
 obtain⟨vs,k1,k2,k3,k4⟩:=all _ _ hp;refine{ns,vs,k1,o,es,ep,I.pN a o hk,hx,hd,λe he=>k4 e<|by simpa using he,k2,?_};rw[k3];have:(kvs.map λp=>(.inr p.1:Key))=(kvs.map Prod.fst).map Sum.inr:=by rw[zx];rfl
 rw[this];exact List.Pairwise.map _ (λx y h q=>h<|yN q) hn
theorem HX{w:World}{K:Frag}(hw:X.w=w)(hK:X.K=K):hU X (compareOp .In) (λx y H Q=>∃z a kvs,x=.str z/\y=.ref a/\Kl w K a kvs/\Q (.bl (kvs.lookup z).isSome) H):=by subst hw hK;intro pins s σ H x y v u Q I rx ry h;obtain⟨z,a,kvs,rfl,rfl,d,q⟩:=h;cases ry;obtain⟨ns,vs,rel,dd⟩:=Ci I d;refine wpAny_in_of (jC (k:=.inr z) rx) ns dd.mapOf ?_;rw[<-(rel.val<|.inr z).ia,sj];exact{.bl _,H,I.tok _,rfl,q}
def Ug(w:World)(K:Frag):V->List V->Hp->VK->Prop:=λx vs H Q=>∃a z kvs,x=.ref a/\vs=[.str z]/\Kl w K a kvs/\Q ((kvs.lookup z).getD .av) H
theorem LH{w:World}{K:Frag}(hw:X.w=w)(hK:X.K=K):RN X "dict.get" (Ug w K):=by subst hw hK;intro pins s σ H x vs v us Q I rx rv h;obtain⟨a,z,kvs,rfl,rfl,d,q⟩:=h;cases rx;obtain⟨u,rfl,ru⟩:=rv.one;obtain⟨ns,vs,rel,dd⟩:=Ci I d;refine call_meetsIn yy dd.typeIs PySem.F.entry_dict_get (PySem.F.args_dict_get_2 _ _) (meets_dict_get (aH X.prog X.w) a (jC (k:=.inr z) ru) ns) {_,dd.mapOf,_,H,I.tok _,?_,q};rw[<-sj];exact(rel.val<|.inr z).getD rfl
theorem HY{w:World}{K:Frag}{o e:Expr}{apos aO:Pos}{td ty:TE}(hw:X.w=w)(hK:X.K=K)(ho:PE X o td)(he:PE X e ty)(m:M1 X o "get" apos e aO):PE X (.Call (.Attribute o "get" apos) [e] [] aO) (λσ H Q=>td σ H λx H1=>∃a kvs,x=.ref a/\Kl w K a kvs/\ty σ H1 λy H2=>∃z,y=.str z/\Q ((kvs.lookup z).getD .av) H2):=by subst hw hK;intro pins s σ H Q I h;refine wpAny_Call_method m.base m.G7 m.line PySem.F.plainAttrs_dict yy PySem.F.type_dict_get<|bt (ho pins s σ H _ I h) λu s1 ⟨x,H1,I1,rx,a,kvs,ex,d,q1⟩=>?_;subst ex;obtain rfl:u=Value.ref a:=rx;obtain⟨ns,vs,rel,dd⟩:=Ci I1 d;obtain⟨ob,_,_,h1,h2,_⟩:=id dd;refine{dd.typeIs,λb q=>by cases q;exact⟨ob,h1,h2.2.1⟩,?_};rw[m.trees];refine Calls.callWith_builtin rfl<|Calls.evalArgs_plain<|yE<|bt (he pins s1 σ H1 _ I1 q1) λiv s2 ⟨y,H2,I2,ry,z,ey,q2⟩=>Calls.spliced_nil ?_;subst ey;exact LH rfl rfl pins s2 σ H2 (.ref a) [.str z] _ [iv] Q I2 rfl (.cons ry .nil) ⟨a,z,kvs,rfl,rfl,d,q2⟩
end
theorem HZ:bootBuiltins "min"= some (.builtin "min"):=by trivial
def ZS3(n l0 l1 l2:Nat)(i:Nat)(h:Heap):Prop:=IsZip h (n+5) (n+3) (n+4) .none/\mQ h (n+3) #[.ref n,.ref<|n+1,.ref<|n+2]/\(∃arr:Array Value,arr.size=3/\mQ h (n+4) arr)/\h.IsTupleIter n l0 i/\h.IsTupleIter (n+1) l1 i/\h.IsTupleIter (n+2) l2 i
noncomputable abbrev LI(h:Heap)(l0:Addr):Heap:=(h).push {cls:=.type "tuple_iterator",data:=.fields #[.ref l0,.int 0 0]}
noncomputable abbrev LJ(h:Heap)(l0 l1:Addr):Heap:=(LI h l0).push {cls:=.type "tuple_iterator",data:=.fields #[.ref l1,.int 0 0]}
noncomputable abbrev LK(h:Heap)(l0 l1 l2:Addr):Heap:=(LJ h l0 l1).push {cls:=.type "tuple_iterator",data:=.fields #[.ref l2,.int 0 0]}
noncomputable abbrev LL(h:Heap)(l0 l1 l2:Addr):Heap:=(LK h l0 l1 l2).push {cls:=.type "tuple",data:=.seq #[.ref h.objs.size,.ref (LI h l0).objs.size,.ref (LJ h l0 l1).objs.size]}
noncomputable abbrev LM(h:Heap)(l0 l1 l2:Addr):Heap:=(LL h l0 l1 l2).push {cls:=.type "tuple",data:=.seq #[.none,.none,.none]}
noncomputable abbrev Ad(h:Heap)(l0 l1 l2:Addr):Heap:=(LM h l0 l1 l2).push {cls:=.type "zip",data:=.fields #[.none,.bool false,.bool false,.ref (LK h l0 l1 l2).objs.size,.ref (LL h l0 l1 l2).objs.size]}
theorem Cj(l0 l1 l2:Addr)(B_ Ca RV:Array Value):Meets (Builtin.«zip.__new__» {[.type "zip",.ref l0,.ref l1,.ref l2],[]}) (λ_ R s=>s.heap.IsTuple l0 B_/\s.heap.IsTuple l1 Ca/\s.heap.IsTuple l2 RV/\R (.ok<|.ret<|.ref (LM s.heap l0 l1 l2).objs.size) {s with heap:=Ad s.heap l0 l1 l2}):=.of_wp λprog w A R s h=>by obtain⟨hp,g,d,tk,os⟩:=s;obtain⟨t0,t1,t2,h⟩:=h;have YM:=sub_zip;have L0:Heap.IsTuple (Shared.heap ⟨hp,g,d,tk,os⟩) l0 B_:=t0;have L1:Heap.IsTuple (Shared.heap {hp.push {cls:=.type "tuple_iterator",data:=.fields #[.ref l0,.int 0 0]},g,d,tk,os}) l1 Ca:=Heap.IsTuple.push (t1) _;have L2:Heap.IsTuple (Shared.heap {(hp.push {cls:=.type "tuple_iterator",data:=.fields #[.ref l0,.int 0 0]}).push {cls:=.type "tuple_iterator",data:=.fields #[.ref l1,.int 0 0]},g,d,tk,os}) l2 RV:=Heap.IsTuple.push (Heap.IsTuple.push (t2) _) _;wp_walk using wpAny_pyIter_tuple L0,wpAny_pyIter_tuple L1,wpAny_pyIter_tuple L2;exact{_,rfl,h}
theorem Ck(a0 a1 a2:Value):checkTypeCall "zip" {[a0,a1,a2],[]}=pure ():=by kernel_rfl
theorem Co(a0 a1 a2:Value):checkBuiltinCall "zip.__new__" {[.type "zip",a0,a1,a2],[]}=pure ():=by kernel_rfl
theorem Qc(x a0 a1 a2:Value):argsOk "object.__init__" {[x,a0,a1,a2],[]}:=by unfold argsOk;rw[signature?_of (id:="object.__init__") (n:=['_','_','t','i','n','i','_','_']) (o:=['t','c','e','j','b','o']) (by kernel_rfl) F.owner_object];kernel_rfl
theorem Cp(t0:s.heap.IsTuple l0 B_)(t1:s.heap.IsTuple l1 Ca)(t2:s.heap.IsTuple l2 RV) (h:∀h',ZS3 s.heap.objs.size l0 l1 l2 0 h'->(∀c o,s.heap.get? c=some o->h'.get? c=some o)->Q (.ref<|s.heap.objs.size+5) {s with heap:=h'}):wpAny (model prog w) A (call (.type "zip") [.ref l0,.ref l1,.ref l2]) Q E s:=by
 refine callType_new F.called_zip (by decide) (Ck _ _ _) (Co _ _ _) (λobj=>Qc obj _ _ _) F.entry_zip_new (Cj l0 l1 l2 B_ Ca RV) {t0,t1,t2,?_};have z1:(LI s.heap l0).objs.size=s.heap.objs.size+1:=ya ..;have z2:(LJ s.heap l0 l1).objs.size=s.heap.objs.size+2:=by rw[ya,z1]
 have z3:(LK s.heap l0 l1 l2).objs.size=s.heap.objs.size+3:=by rw[ya,z2]
 have z4:(LL s.heap l0 l1 l2).objs.size=s.heap.objs.size+4:=by rw[ya,z3]
 have z5:(LM s.heap l0 l1 l2).objs.size=s.heap.objs.size+5:=by rw[ya,z4]
 have z6:(Ad s.heap l0 l1 l2).objs.size=s.heap.objs.size+6:=by rw[ya,z5]
 have g0:(Ad s.heap l0 l1 l2).get? (s.heap).objs.size=some _:=zb _<|zb _<|zb _<|zb _<|zb _<|zj _ rfl;have g1:(Ad s.heap l0 l1 l2).get? (LI s.heap l0).objs.size=some _:=zb _<|zb _<|zb _<|zb _<|zj _ rfl;have g2:(Ad s.heap l0 l1 l2).get? (LJ s.heap l0 l1).objs.size=some _:=zb _<|zb _<|zb _<|zj _ rfl;have g3:(Ad s.heap l0 l1 l2).get? (LK s.heap l0 l1 l2).objs.size=some _:=zb _<|zb _<|zj _ rfl;have g4:(Ad s.heap l0 l1 l2).get? (LL s.heap l0 l1 l2).objs.size=some _:=zb _<|zj _ rfl;have g5:(Ad s.heap l0 l1 l2).get? (LM s.heap l0 l1 l2).objs.size=some _:=zj _ rfl;show _/\_;rw[z3,z4,z5]at g5;rw[z4]at g4;rw[z1,z2,z3]at g3;rw[z1]at g1;rw[z2]at g2;rw[z5];exact{{_,g5,rfl},h _ {g5,g3,!⟨g4⟩,{_,g0,rfl,rfl},{_,g1,rfl,rfl},{_,g2,rfl,rfl}} λc o x=>zb _<|zb _<|zb _<|zb _<|zb _<|zb _ x}
theorem Vals.three(h:Vals [x,y,z] us):∃u v w,us=[u,v,w]/\RelV x u/\RelV y v/\RelV z w:=by cases h with|cons r h=>cases h with|cons q h=>cases h with|cons p h=>cases h;exact{_,_,_,rfl,r,q,p}
section
variable{X:Cx}
def LN:V->List V->Hp->VK->Prop:=λx vs H Q=>∃z y,x=.str z/\vs=[.str y]/\Q (.bl<|PySem.Txt.startswith z y) H
theorem uq:RN X "str.startswith" LN:=by intro pins s σ H x vs v us Q I rx rv h;obtain⟨z,y,rfl,rfl,q⟩:=h;obtain⟨t,rfl⟩:=rx;obtain⟨u,rfl,ru⟩:=rv.one;obtain⟨t',rfl⟩:=ru;exact PySem.SC.startswith {.bl _,H,I,rfl,q}
end
end L2
namespace L2
open PySem PySem.Spec PyProof.Rows PySem.SeqAt
end L2
namespace L2
open PySem PySem.Spec PyProof.Rows
theorem wc(l:Addr)(items:Array Value)(n:Nat)(b:Addr)(so:Array Value)(n2:Nat)(sl:Array<|Option Value)(RW:¬(!items.isEmpty&&Builtin.List.listTooLong (items.size+so.size))=true)(hs1:items.size<=sizeLine)(x8:items.size+so.size<=sizeLine+1): Meets (Builtin.«list.extend» {[.ref l,.ref b],[]}) (λ_ R s=>s.heap.get? l=some {cls:=.type "list",dict:=none,data:=.seq items n,slots:=#[]}/\s.heap.get? b=some {cls:=.type "tuple",dict:=none,data:=.seq so n2,slots:=sl}/\R (.ok<|.ret Value.none) {s with heap:=s.heap.update l<|Obj.mapSeq λx=>x++so,toks:=s.toks}):=.of_wp λprog w A R s h=>by
 obtain⟨hp,g,d,tk,os⟩:=s;obtain⟨hl,hb,h⟩:=h;have f1:=AutoSeq1.idx_int;have f2:=AutoSeq1.sub_tuple_tuple;have f3:=AutoSeq1.sub_list_list;have f4:=AutoSeq1.sub_tuple_list;have f5:=AutoSeq1.sub_list_tuple;have YO:(items++so).size<=sizeLine+1:=by rw[Array.size_append];exact x8
 wp_walk using (wpAny_updateSeq hl rfl (hz:=hs1) (_hz':=YO)),AutoSeq1.wpAny_loadPart' hl,AutoSeq1.wpAny_loadPart' hb;exact{_,rfl,h}
section
variable{X:Cx}
def H9:V->List V->Hp->VK->Prop:=λx vs H Q=>∃l b xs zs,x=.ref l/\vs=[.ref b]/\H l=some (.lst xs)/\H b=some (.tup zs)/\xs.length+zs.length<=sizeLine/\Q .av (upd H l<|.lst<|xs++zs)
theorem Cq:WG X "list.extend" H9:=by
 intro pins s σ H x vs v us Q I rx rv h;obtain⟨l,b,xs,zs,rfl,rfl,hH,hB,hz,q⟩:=h;cases rx;obtain⟨u,rfl,ru⟩:=rv.one;cases ru;obtain⟨z,ay,n,r,hl,e⟩:=I.Fz hH;obtain⟨z2,v7,r2,⟨c2,d2,dt2,T8⟩,e2,ec,ed,n2,en⟩:=(show br X.prog X.w H s.heap b (.tup zs) from I.aL b _ hB);dsimp only at ec ed en;subst ec ed en;have Pz:=r2.length;have hsz:ay.toArray.size+v7.toArray.size<=sizeLine:=by rw[zp,zp];lia
 have Uh:¬(!ay.toArray.isEmpty&&Builtin.List.listTooLong (ay.toArray.size+v7.toArray.size))=true:=by rw[HA hsz,Bool.and_false];exact zd
 refine call_meets F.slot_list_extend {_,e,rfl} F.entry_list_extend (F.args_list_extend_2 _ _) (wc l ay.toArray n b v7.toArray n2 T8 Uh (by rw[zp];lia)<|by lia) {e,e2,?_};refine{.av,_,I.Lb (its':=ay++v7) hH e (by simp) (r.append r2) ?_,rfl,q};rw[zt];lia
end
set_option genInjectivity true in
set_option genSizeOfSpec true in
inductive D where
 |av|bl (b:Bool)|int (i:Int)|str (x:Str)|tup (ds:List D)|lU (ds:List D)|kt (ds:List D)|ref (a:Addr)|ty (n:String)
def YQ(K:Frag)(a:Addr)(xs:List V):Prop:=∃(o:Obj)(ay:Array Value)(n:Nat),K.lookup a=some o/\o.cls=.type "tuple"/\o.data=.seq ay n/\ay.size<=sizeLine/\Vals xs ay.toList
def NB(K:Frag)(H:Hp)(a:Addr)(xs:List V):Prop:=(∃o,H a=some (.lQ o<|.lst xs))\/∃(o:Obj)(ay:Array Value)(n:Nat),K.lookup a=some o/\o.cls=.type "list"/\o.dict=none/\o.data=.seq ay n/\ay.size<=sizeLine/\Vals xs ay.toList
theorem NB.sq{K:Frag}{H:Hp}{a:Addr}{xs:List V}(h:NB K H a xs):kz K H a xs:=by rcases h with h|h;exact .inl<|.inr h;exact .inr h
structure Kp(K:Frag)(H H':Hp):Prop where
 t:∀a xs,H a=some (.tup xs)->H' a=some (.tup xs)
 r:∀a xs,NB K H a xs->NB K H' a xs
 f:∀a o u,H a=some (.lQ o u)->H' a=some (.lQ o u)
theorem Kp.refl{K:Frag}(H:Hp):Kp K H H:={λ_ _ h=>h,λ_ _ h=>h,λ_ _ _ h=>h}
theorem Kp.trans{K:Frag}{H H1 H2:Hp}(a:Kp K H H1)(b:Kp K H1 H2):Kp K H H2:={λp xs h=>b.t p xs<|a.t p xs h,λp xs h=>b.r p xs<|a.r p xs h,λp o u h=>b.f p o u<|a.f p o u h}
theorem Kp.of{K:Frag}{H H':Hp}(h:∀b o,H b=some o->H' b=some o\/(∀xs,o≠.tup xs)/\∀u v,o≠.lQ u v):Kp K H H' where
 t:=λa xs q=>(h _ _ q).resolve_right λz=>z.1 _ rfl
 r:=λa xs q=>by
  rcases q with⟨o,q⟩|q
  ·exact .inl {o,(h _ _ q).resolve_right λz=>z.2 _ _ rfl}
  ·exact .inr q
 f:=λa o u q=>(h _ _ q).resolve_right λz=>z.2 _ _ rfl
theorem Kp.new{K:Frag}{H:Hp}{a:Addr}{o:HO}(h:H a=none):Kp K H (upd H a o):=.of λb u e=>.inl<|by rw[aw<|aC e h];exact e
theorem Kp.put{K:Frag}{H:Hp}{a:Addr}{o u:HO}(h:H a=some o)(h1:∀xs,o≠.tup xs)(h2:∀u v,o≠.lQ u v):Kp K H (upd H a u):=.of λb v e=>by by_cases q:b=a;subst q;rw[h]at e;cases e;exact .inr ⟨h1,h2⟩;exact .inl<|by rw[aw q];exact e
mutual
def Rv(K:Frag)(H:Hp):D->V->Prop|.av,v=>v=.av|.bl b,v=>v=.bl b|.int i,v=>v=.int i|.str z,v=>v=.str z|.tup ds,v=>∃a xs,v=.ref a/\H a=some (.tup xs)/\RvAll K H ds xs|.lU ds,v=>∃a xs,v=.ref a/\NB K H a xs/\RvAll K H ds xs|.kt ds,v=>∃a xs,v=.ref a/\YQ K a xs/\RvAll K H ds xs|.ref a,v=>v=.ref a|.ty n,v=>v=.ty n
def RvAll(K:Frag)(H:Hp):List D->List V->Prop|[],xs=>xs=[]|d::ds,xs=>∃y ys,xs=y::ys/\Rv K H d y/\RvAll K H ds ys
end
section
variable{K:Frag}{H H':Hp}
theorem jG:Rv K H .av .av:=by simp only[Rv]
theorem bJ(b:Bool):Rv K H (.bl b) (.bl b):=by simp only[Rv]
theorem aS(i:Int):Rv K H (.int i) (.int i):=by simp only[Rv]
theorem fF(z:Str):Rv K H (.str z) (.str z):=by simp only[Rv]
theorem iH(a:Addr):Rv K H (.ref a) (.ref a):=by simp only[Rv]
theorem Ui(n:String):Rv K H (.ty n) (.ty n):=by simp only[Rv]
theorem NC(h:YQ K a xs)(t:RvAll K H ds xs):Rv K H (.kt ds) (.ref a):=by simp only[Rv];exact⟨a,xs,rfl,h,t⟩
theorem ow(h:H a=some (.tup xs))(t:RvAll K H ds xs):Rv K H (.tup ds) (.ref a):=by simp only[Rv];exact⟨a,xs,rfl,h,t⟩
theorem H_(h:NB K H a xs)(t:RvAll K H ds xs):Rv K H (.lU ds) (.ref a):=by simp only[Rv];exact⟨a,xs,rfl,h,t⟩
theorem Rv.av(h:Rv K H .av v):v=.av:=by simpa only[Rv]using h
theorem Rv.bl(h:Rv K H (.bl b) v):v=.bl b:=by simpa only[Rv]using h
theorem Rv.int(h:Rv K H (.int i) v):v=.int i:=by simpa only[Rv]using h
theorem Rv.str(h:Rv K H (.str z) v):v=.str z:=by simpa only[Rv]using h
theorem Rv.ref(h:Rv K H (.ref a) v):v=.ref a:=by simpa only[Rv]using h
theorem Rv.ty(h:Rv K H (.ty n) v):v=.ty n:=by simpa only[Rv]using h
theorem Rv.kt(h:Rv K H (.kt ds) v):∃a xs,v=.ref a/\YQ K a xs/\RvAll K H ds xs:=by simpa only[Rv]using h
theorem Rv.tup(h:Rv K H (.tup ds) v):∃a xs,v=.ref a/\H a=some (.tup xs)/\RvAll K H ds xs:=by simpa only[Rv]using h
theorem Rv.lU(h:Rv K H (.lU ds) v):∃a xs,v=.ref a/\NB K H a xs/\RvAll K H ds xs:=by simpa only[Rv]using h
theorem bD:RvAll K H [] []:=by simp only[RvAll]
theorem aY(h:Rv K H d x)(t:RvAll K H ds xs):RvAll K H (d::ds) (x::xs):=by simp only[RvAll];exact⟨x,xs,rfl,h,t⟩
theorem RvAll.nil(h:RvAll K H [] xs):xs=[]:=by simpa only[RvAll]using h
theorem RvAll.cons(h:RvAll K H (d::ds) xs):∃y ys,xs=y::ys/\Rv K H d y/\RvAll K H ds ys:=by simpa only[RvAll]using h
mutual
theorem Rv.ts(s:Kp K H H'):∀(d:D){v:V},Rv K H d v->Rv K H' d v|.av,v,h=>by simpa only[Rv]using h|.bl b,v,h=>by simpa only[Rv]using h|.int i,v,h=>by simpa only[Rv]using h|.str z,v,h=>by simpa only[Rv]using h|.tup ds,v,h=>(by obtain⟨a,xs,rfl,e,t⟩:=h.tup;exact ow (s.t _ _ e)<|RvAll.ts s ds t)|.lU ds,v,h=>(by obtain⟨a,xs,rfl,e,t⟩:=h.lU;exact H_ (s.r _ _ e)<|RvAll.ts s ds t)|.kt ds,v,h=>(by obtain⟨a,xs,rfl,e,t⟩:=h.kt;exact NC e<|RvAll.ts s ds t)|.ref a,v,h=>by simpa only[Rv]using h|.ty n,v,h=>by simpa only[Rv]using h
theorem RvAll.ts(s:Kp K H H'):∀(ds:List D){xs:List V},RvAll K H ds xs->RvAll K H' ds xs|[],xs,h=>by rw[h.nil];exact bD|d::ds,xs,h=>by obtain⟨y,ys,rfl,h1,h2⟩:=h.cons;exact aY (Rv.ts s d h1)<|RvAll.ts s ds h2
end
theorem RvAll.len:∀{ds:List D}{xs:List V},RvAll K H ds xs->xs.length=ds.length|[],xs,h=>by rw[h.nil];rfl|d::ds,xs,h=>by obtain⟨y,ys,rfl,_,h2⟩:=h.cons;rw[zQ,zQ,h2.len]
theorem RvAll.get:∀{ds:List D}{xs:List V}{i:Nat}{d:D},RvAll K H ds xs->ds[i]?=some d->∃v,xs[i]?=some v/\Rv K H d v|[],xs,i,d,h,e=>by simp at e|d0::ds,xs,0,d,h,e=>(by obtain⟨y,ys,rfl,h1,h2⟩:=h.cons;simp at e;subst e;exact⟨y,rfl,h1⟩)|d0::ds,xs,i+1,d,h,e=>by obtain⟨y,ys,rfl,h1,h2⟩:=h.cons;obtain⟨v,e1,e2⟩:=h2.get (i:=i) (by simpa using e);exact{v,by simpa using e1,e2}
theorem RvAll.app:∀{ds es:List D}{xs ys:List V},RvAll K H ds xs->RvAll K H es ys->RvAll K H (ds++es) (xs++ys)|[],es,xs,ys,h,k=>by rw[h.nil];exact k|d::ds,es,xs,ys,h,k=>by obtain⟨y,zs,rfl,h1,h2⟩:=h.cons;exact aY h1<|h2.app k
theorem RvAll.take:∀{ds:List D}{xs:List V}(n:Nat),RvAll K H ds xs->RvAll K H (ds.take n) (xs.take n)|[],xs,n,h=>by rw[h.nil];simp only[List.take_nil];exact bD|d::ds,xs,0,h=>by simp only[List.take_zero];exact bD|d::ds,xs,n+1,h=>by obtain⟨y,zs,rfl,h1,h2⟩:=h.cons;exact aY h1<|h2.take n
theorem RvAll.drop:∀{ds:List D}{xs:List V}(n:Nat),RvAll K H ds xs->RvAll K H (ds.drop n) (xs.drop n)|[],xs,n,h=>by rw[h.nil];simp only[List.drop_nil];exact bD|d::ds,xs,0,h=>h|d::ds,xs,n+1,h=>by obtain⟨y,zs,rfl,h1,h2⟩:=h.cons;exact h2.drop n
theorem RvAll.set:∀{ds:List D}{xs:List V}{d:D}{v:V}(n:Nat),RvAll K H ds xs->Rv K H d v->RvAll K H (ds.set n d) (xs.set n v)|[],xs,d,v,n,h,r=>by rw[h.nil];exact bD|d0::ds,xs,d,v,0,h,r=>(by obtain⟨y,zs,rfl,h1,h2⟩:=h.cons;exact aY r h2)|d0::ds,xs,d,v,n+1,h,r=>by obtain⟨y,zs,rfl,h1,h2⟩:=h.cons;exact aY h1<|h2.set n r
theorem RvAll.erase:∀{ds:List D}{xs:List V}(n:Nat),RvAll K H ds xs->RvAll K H (ds.eraseIdx n) (xs.eraseIdx n)|[],xs,n,h=>by rw[h.nil];exact bD|d::ds,xs,0,h=>(by obtain⟨y,zs,rfl,h1,h2⟩:=h.cons;exact h2)|d::ds,xs,n+1,h=>by obtain⟨y,zs,rfl,h1,h2⟩:=h.cons;exact aY h1<|h2.erase n
theorem RvAll.dropLast:∀{ds:List D}{xs:List V},RvAll K H ds xs->RvAll K H ds.dropLast xs.dropLast|[],xs,h=>by rw[h.nil];exact bD|[d],xs,h=>(by obtain⟨y,zs,rfl,h1,h2⟩:=h.cons;rw[h2.nil];exact bD)|d::e::ds,xs,h=>by obtain⟨y,zs,rfl,h1,h2⟩:=h.cons;obtain⟨y2,zs2,rfl,h3,h4⟩:=id h2.cons;exact aY h1<|RvAll.dropLast h2
theorem RvAll.bools:∀{bs:List Bool}{xs:List V},RvAll K H (bs.map D.bl) xs->xs=bs.map V.bl|[],xs,h=>h.nil|b::bs,xs,h=>by obtain⟨y,ys,rfl,h1,h2⟩:=h.cons;rw[h1.bl,h2.bools];rfl
theorem RvAll.ints:∀{bs:List Int}{xs:List V},RvAll K H (bs.map D.int) xs->xs=bs.map V.int|[],xs,h=>h.nil|b::bs,xs,h=>by obtain⟨y,ys,rfl,h1,h2⟩:=h.cons;rw[h1.int,h2.ints];rfl
theorem RvAll.strs:∀{bs:List Str}{xs:List V},RvAll K H (bs.map D.str) xs->xs=bs.map V.str|[],xs,h=>h.nil|b::bs,xs,h=>by obtain⟨y,ys,rfl,h1,h2⟩:=h.cons;rw[h1.str,h2.strs];rfl
theorem Ee:∀(bs:List Int),RvAll K H (bs.map D.int) (bs.map V.int)|[]=>bD|b::bs=>aY (aS b)<|Ee bs
theorem wd:∀(bs:List Str),RvAll K H (bs.map D.str) (bs.map V.str)|[]=>bD|b::bs=>aY (fF b)<|wd bs
def bY{κ:Type}(K:Frag)(H:Hp):List (κ×D)->List (κ×V)->Prop:=Paired λp q=>p.1=q.1/\Rv K H p.2 q.2
theorem bY.ts(s:Kp K H H'):∀{ks:List (κ×D)}{vs:List (κ×V)},bY K H ks vs->bY K H' ks vs|_,_,.nil=>.nil|_,_,.cons r t=>.cons {r.1,Rv.ts s _ r.2}<|bY.ts s t
theorem bY.look(h:bY K H ks vs)(f:Str):(∀d,ks.lookup f=some d->∃v,vs.lookup f=some v/\Rv K H d v)/\(ks.lookup f=none->vs.lookup f=none):=by induction h with|nil=>(exact{λd e=>(by cases e),λ_=>rfl})|@cons a b l m r t ih=>obtain⟨k,d⟩:=a;obtain⟨k',v⟩:=b;obtain⟨rfl,r⟩:=r;simp only[yc];cases q:f==k with|true=>(exact{λd' e=>{v,rfl,(by cases e;exact r)},λe=>(by cases e)})|false=>exact ih
end
set_option genInjectivity true in
set_option genSizeOfSpec true in
inductive Ce where
 |lst (ds:List D)|cO (kvs:List<|Key×D)|ins (c:Addr) (fs:List<|Str×D)|well|exc (c:Addr)|tab (q:Str)
def Ef(H:Hp)(q:Str)(ps:Array Value):Prop:=TriplesOk ps.toList/\∀pos cv,codeAmong pos ps.toList=some cv->∃c o vs t,cv=.ref c/\H c=some (.lQ o<|.own 0)/\o.data=.fields vs/\vs[1]?=some (.str q t)
abbrev au:=Addr->Option Ce
noncomputable def au.set(S:au)(a:Addr)(c:Ce):au:=λb=>if b=a then some c else S b
theorem aa{S:au}{a:Addr}{c:Ce} : S.set a c a=some c:=by unfold au.set;rw[if_pos rfl]
theorem ag{S:au}{a b:Addr}{c:Ce}(h:b≠a):S.set a c b=S b:=by unfold au.set;rw[if_neg h]
theorem bj{S:au}{a:Addr}{c e:Ce} : (S.set a c).set a e=S.set a e:=by funext b;unfold au.set;split<;>rfl
theorem ib{S:au}{a b:Addr}{c:Ce}(h:S a=some c)(h':S b=none):a≠b:=by intro e;subst e;rw[h]at h';cases h'
def Rc(K:Frag)(H:Hp)(a:Addr):Ce->Prop|.lst ds=>∃xs,H a=some (.lst xs)/\RvAll K H ds xs|.cO kvs=>∃vs,H a=some (.dK vs)/\bY K H kvs vs|.ins c fs=>∃dx vs,H a=some (.ins c dx vs)/\bY K H fs vs|.well=>∃x y z:Int,H a=some (.lst [.int x,.int y,.int z])|.exc c=>H a=some (YE a<|.ref c)|.tab q=>∃ps,H a=some (.qO ps)/\Ef H q ps
def Rs(K:Frag)(S:au)(H:Hp):Prop:=∀a c,S a=some c->Rc K H a c
section
variable{K:Frag}{H H':Hp}{S:au}{a b:Addr}{c:Ce}
theorem Rc.has(h:Rc K H a c):∃o,H a=some o/\(∀xs,o≠.tup xs)/\∀u v,o≠.lQ u v:=by cases c with|lst ds=>(obtain⟨xs,e,_⟩:=h;exact{_,e,λ_=>nofun,λ_ _=>nofun})|cO ds=>(obtain⟨xs,e,_⟩:=h;exact{_,e,λ_=>nofun,λ_ _=>nofun})|ins c fs=>(obtain⟨dx,vs,e,_⟩:=h;exact{_,e,λ_=>nofun,λ_ _=>nofun})|well=>(obtain⟨x,y,z,e⟩:=h;exact{_,e,λ_=>nofun,λ_ _=>nofun})|exc c=>exact{_,h,λ_=>nofun,λ_ _=>nofun}|tab q=>obtain⟨ps,e,_⟩:=h;exact{_,e,λ_=>nofun,λ_ _=>nofun}
theorem Rc.keep(h:Rc K H a c)(e:∀o,H a=some o->H' a=some o)(s:Kp K H H'):Rc K H' a c:=by cases c with|lst ds=>(obtain⟨xs,e1,r⟩:=h;exact{xs,e _ e1,RvAll.ts s _ r})|cO ds=>(obtain⟨xs,e1,r⟩:=h;exact{xs,e _ e1,r.ts s})|ins c fs=>(obtain⟨dx,vs,e1,r⟩:=h;exact{dx,vs,e _ e1,r.ts s})|well=>(obtain⟨x,y,z,e1⟩:=h;exact{x,y,z,e _ e1})|exc c=>exact e _ h|tab q=>obtain⟨ps,e1,r,r2⟩:=h;exact{ps,e _ e1,r,λpos cv z=>by obtain⟨c,o,vs,t,z1,z2,z3⟩:=r2 pos cv z;exact{c,o,vs,t,z1,s.f _ _ _ z2,z3}}
theorem Rs.fresh(h:Rs K S H)(e:H a=none):S a=none:=by cases q:S a with|none=>rfl|some c=>obtain⟨o,e1,_⟩:=(h a c q).has;rw[e]at e1;cases e1
theorem Rs.new(h:Rs K S H)(e:H a=none){o:HO}(r:Rc K (upd H a o) a c):Rs K (S.set a c) (upd H a o):=λb x hb=>by by_cases q:b=a;subst q;rw[aa]at hb;cases hb;exact r;rw[ag q]at hb;exact(h b x hb).keep (λo e1=>by rw[aw q];exact e1)<|Kp.new e
theorem Rs.grow(h:Rs K S H)(e:H a=none):Rs K S (upd H a o):=λb x hb=>by obtain⟨u,e1,_⟩:=(h b x hb).has;have q:b≠a:=aC e1 e;exact(h b x hb).keep (λo e1=>by rw[aw q];exact e1)<|Kp.new e
theorem Rs.iI(h:Rs K S H)(ha:S a=some e):Kp K H (upd H a o):=by obtain⟨u,e1,n1,n2⟩:=(h a e ha).has;exact Kp.put e1 n1 n2
theorem Rs.put(h:Rs K S H){e:Ce}(ha:S a=some e){o:HO}(r:Rc K (upd H a o) a c):Rs K (S.set a c) (upd H a o):=λb x hb=>by by_cases q:b=a;subst q;rw[aa]at hb;cases hb;exact r;rw[ag q]at hb;exact(h b x hb).keep (λo e1=>by rw[aw q];exact e1)<|h.iI ha
theorem Rs.lst(h:Rs K S H)(e:S a=some (.lst ds)):∃xs,H a=some (.lst xs)/\RvAll K H ds xs:=h a _ e
theorem Rs.cO(h:Rs K S H)(e:S a=some (.cO ds)):∃xs,H a=some (.dK xs)/\bY K H ds xs:=h a _ e
theorem Rs.ins{c:Addr}{fs:List<|Str×D}(h:Rs K S H)(e:S a=some (.ins c fs)):∃dx vs,H a=some (.ins c dx vs)/\bY K H fs vs:=h a _ e
end
abbrev KD:=D->au->Prop
abbrev KX:=Addr->au->Prop
abbrev SD:=List<|Option D
def iJ(K:Frag)(H:Hp):SD->St->Prop:=Paired λ(o:Option D)(u:Option V)=>∀d,o=some d->∃v,u=some v/\Rv K H d v
section
variable{K:Frag}{H H':Hp}
theorem iJ.ts(s:Kp K H H'):∀{σ:SD}{τ:St},iJ K H σ τ->iJ K H' σ τ|_,_,.nil=>.nil|_,_,.cons r t=>.cons (λd e=>by obtain⟨v,e1,r1⟩:=r d e;exact{v,e1,Rv.ts s _ r1})<|iJ.ts s t
theorem iJ.get:∀{σ:SD}{τ:St}{i:Nat}{d:D},iJ K H σ τ->σ[i]?=some (some d)->∃v,τ[i]?=some (some v)/\Rv K H d v|_,_,i,d,.nil,e=>by simp at e|_,_,0,d,.cons r t,e=>(by simp at e;obtain⟨v,e1,r1⟩:=r d e;exact{v,by simp[e1],r1})|_,_,i+1,d,.cons r t,e=>by obtain⟨v,e1,r1⟩:=iJ.get (i:=i) t (by simpa using e);exact{v,by simpa using e1,r1}
theorem iJ.set:∀{σ:SD}{τ:St}(i:Nat){d:D}{v:V},iJ K H σ τ->Rv K H d v->iJ K H (σ.set i<|some d) (τ.set i<|some v)|_,_,i,d,v,.nil,r=>.nil|_,_,0,d,v,.cons r t,q=>(.cons (λd' e=>by cases e;exact⟨v,rfl,q⟩) t)|_,_,i+1,d,v,.cons r t,q=>.cons r<|iJ.set i t q
theorem su:∀(n:Nat)(τ:St),τ.length=n->iJ K H (List.replicate n none) τ|0,[],_=>.nil|n+1,_::τ,h=>.cons (λd e=>by cases e)<|su n τ<|by simpa using h
theorem sv:∀{ds:List D}{vs:List V},RvAll K H ds vs->iJ K H (ds.map some) (vs.map some)|[],vs,h=>by rw[h.nil];exact .nil|d::ds,vs,h=>by obtain⟨y,ys,rfl,h1,h2⟩:=h.cons;exact .cons (λd' e=>by cases e;exact⟨y,rfl,h1⟩)<|sv h2
theorem iJ.app:∀{σ aI:SD}{τ RX:St},iJ K H σ τ->iJ K H aI RX->iJ K H (σ++aI) (τ++RX)|_,_,_,_,.nil,h=>h|_,_,_,_,.cons r t,h=>.cons r<|iJ.app t h
end
structure Rdy(Y:Cx)(E:St->XK)(b:Bool):Prop where
 call:∀p2 τ H s e s',Inv Y p2 τ H s->fE Y.prog Y.w Y.mg Y.stack H s (E τ) e s'->Y.xe e s'
 own:b=true->∀p2 τ H s h' a cls args,Inv Y p2 τ H s->Heap.MadeExcOf s.heap h' a cls args->E τ cls none H->Y.xe (.ref a) {s with heap:=h'}
 loop:b=true->PassesOwn (model Y.prog Y.w) Y.A Y.env Y.xe
structure Ev(X:Cx)(b:Bool) where
 pn:List (Addr×Obj)
 xe:Value->Shared->Prop
 E:St->XK
 ok:Rdy {X with pn:=pn,xe:=xe} E b
noncomputable abbrev Ev.cx{X:Cx}{b:Bool}(y:Ev X b):Cx:={X with pn:=y.pn,xe:=y.xe}
def Cn(K:Frag)(H:Hp)(R:KD)(Q:VK):Prop:=∀d S v H',R d S->Rv K H' d v->Rs K S H'->Kp K H H'->Q v H'
def FR(K:Frag)(H:Hp)(Z:KX)(e:XK):Prop:=∀C S H',Z C S->Rs K S H'->Kp K H H'->e (.ref C) none H'
theorem Cn.kp{K:Frag}{H H1:Hp}{R:KD}{Q:VK}(h:Cn K H R Q)(k:Kp K H H1):Cn K H1 R Q:=λd S v H' r v1 s1 k1=>h d S v H' r v1 s1<|k.trans k1
theorem FR.kp{K:Frag}{H H1:Hp}{Z:KX}{e:XK}(h:FR K H Z e)(k:Kp K H H1):FR K H1 Z e:=λC S H' r s1 k1=>h C S H' r s1<|k.trans k1
abbrev TD:=SD->au->KD->KX->Prop
def T(K:Frag)(E:St->XK)(t:TD):TE:=λτ H Q=>∃σ S R Z,iJ K H σ τ/\Rs K S H/\t σ S R Z/\Cn K H R Q/\FR K H Z (E τ)
structure DE(K:Frag)(X:Cx)(e:Expr)(t:TD):Prop where
 of:∀{b:Bool}(y:Ev X b),PE y.cx e<|T K y.E t
abbrev mE:=SD->au->(Bool->au->Prop)->KX->Prop
def WN(K:Frag)(H:Hp)(R:Bool->au->Prop)(Q:Bool->Hp->Prop):Prop:=∀b S H',R b S->Rs K S H'->Kp K H H'->Q b H'
theorem WN.kp{K:Frag}{H H1:Hp}{R:Bool->au->Prop}{Q:Bool->Hp->Prop}(h:WN K H R Q)(k:Kp K H H1):WN K H1 R Q:=λd S H' r s1 k1=>h d S H' r s1<|k.trans k1
def Tt(K:Frag)(E:St->XK)(t:mE):TT:=λτ H Q=>∃σ S R Z,iJ K H σ τ/\Rs K S H/\t σ S R Z/\WN K H R Q/\FR K H Z (E τ)
structure DT(K:Frag)(X:Cx)(e:Expr)(t:mE):Prop where
 of:∀{b:Bool}(y:Ev X b),PT y.cx e<|Tt K y.E t
abbrev jq:=SD->au->(List D->au->Prop)->KX->Prop
def CnA(K:Frag)(H:Hp)(R:List D->au->Prop)(Q:List V->Hp->Prop):Prop:=∀ds S vs H',R ds S->RvAll K H' ds vs->Rs K S H'->Kp K H H'->Q vs H'
def Ta(K:Frag)(E:St->XK)(t:jq):TA:=λτ H Q=>∃σ S R Z,iJ K H σ τ/\Rs K S H/\t σ S R Z/\CnA K H R Q/\FR K H Z (E τ)
structure DA(K:Frag)(X:Cx)(es:List Expr)(t:jq):Prop where
 of:∀{b:Bool}(y:Ev X b),PA y.cx es<|Ta K y.E t
theorem PE.mono{t t':TE}(h:PE X e t)(i:∀τ H Q,t' τ H Q->t τ H Q):PE X e t':=λpins s τ H Q I q=>h pins s τ H Q I<|i τ H Q q
theorem PT.mono{t t':TT}(h:PT X e t)(i:∀τ H Q,t' τ H Q->t τ H Q):PT X e t':=λpins s τ H Q I q=>h pins s τ H Q I<|i τ H Q q
theorem PA.mono{t t':TA}(h:PA X e t)(i:∀τ H Q,t' τ H Q->t τ H Q):PA X e t':=λpos pins s τ H Q I q=>h pos pins s τ H Q I<|i τ H Q q
section
variable{K:Frag}{X:Cx}
inductive Uj (i:Nat) (σ:SD) (S:au) (R:KD):Prop where
 |mk (d:D) (h:σ[i]?=some (some d)) (r:R d S)
def Uk(i:Nat):TD:=λσ S R _=>Uj i σ S R
inductive RY (x:D) (S:au) (R:Bool->au->Prop):Prop where
 |mk (b:Bool) (h:x=.bl b) (r:R b S)
def dC(d:D):TD:=λ_ S R _=>R d S
theorem dv(i:Nat)(hN:autoParam (X.N[i]?=some x) qQJ)(hv:OH X.env.scope x:=by first|exact Or.inl rfl|exact Or.inr (Or.inl rfl)|exact Or.inr (Or.inr rfl))(hd:autoParam ((x==("__debug__": Str))=false) qQZ) (t9:autoParam ((x==("__classdict__": Str))=false) qQZ):DE K X (.Name x pos) (Uk i):=⟨λy=>(ON (X:=y.cx) hN hv hd t9).mono <| by rintro τ H Q ⟨σ,S,R,Z,aB,hS,⟨d,e,r⟩,hR,_⟩;exact by obtain⟨v,e1,rv⟩:=aB.get e;exact{v,e1,hR d S v H r rv hS<|Kp.refl _}⟩
theorem DE.const(h:∀Y:Cx,Y.env=X.env->Y.mg=X.mg->PE Y e (tC v))(r:∀H,Rv K H d v):DE K X e (dC d):=⟨λy=>(h y.cx rfl rfl).mono <| by rintro τ H Q ⟨σ,S,R,Z,aB,hS,q,hR,_⟩;exact hR d S v H q (r H) hS<|Kp.refl _⟩
theorem di:DE K X (.Constant (.int i) j pos) (dC<|.int i):=.const (λ_ _ _=>OO) λ_=>aS i
theorem ds:DE K X (.Constant (.str i) j pos) (dC<|.str i):=.const (λ_ _ _=>OQ) λ_=>fF i
theorem db:DE K X (.Constant (.bool i) j pos) (dC<|.bl i):=.const (λ_ _ _=>Ni) λ_=>bJ i
theorem dn:DE K X (.Constant .none j pos) (dC .av):=.const (λ_ _ _=>OP) λ_=>jG
theorem dg(hm:X.mg x=some u)(r:RelV v u)(rd:∀H,Rv K H d v)(hg:autoParam (Gl X x) qQJ)(hd:autoParam ((x==("__debug__": Str))=false) qQZ):DE K X (.Name x pos) (dC d):=.const (λY e1 e2=>DX (X:=Y) (u:=u) (show Y.env.kindOf x=_ by rw[e1];exact hg) (by rw[e2];exact hm) r hd) rd
theorem t_(hm:X.mg x=none)(hv:bootBuiltins x=some (.type n))(hg:autoParam (Gl X x) qQJ)(hn:autoParam (x≠"__name__") qQZ)(hd:autoParam ((x==("__debug__": Str))=false) qQZ):DE K X (.Name x pos) (dC<|.ty n):=.const (λY e1 e2=>KN (X:=Y) (v:=.ty n) (show Y.env.kindOf x=_ by rw[e1];exact hg) (by rw[e2];exact hm) hv rfl hn hd) λ_=>Ui n
def LO:jq:=λ_ S R _=>R [] S
def ND(t:TD)(u:jq):jq:=λσ S R Z=>t σ S (λd S1=>u σ S1 (λds S2=>R (d::ds) S2) Z) Z
theorem an:DA K X [] LO:=⟨λy=>(BL (X:=y.cx)).mono <| by rintro τ H Q ⟨σ,S,R,Z,aB,hS,q,hR,_⟩;exact hR [] S [] H q bD hS<|Kp.refl _⟩
theorem ac{t:TD}(h:DE K X e t)(hr:DA K X es u)(hp:autoParam (isPlain e=true) qQJ):DA K X (e::es) (ND t u):=
 ⟨λy=>(YA (h.of y) (hr.of y) hp).mono <| by rintro τ H Q ⟨σ,S,R,Z,aB,hS,q,hR,hZ⟩;exact
  ⟨σ,S,_,Z,aB,hS,q,λd S1 x H1 r1 v1 s1 k1=>⟨σ,S1,_,Z,aB.ts k1,s1,r1,λds S2 xs H2 r2 v2 s2 k2=>hR (d::ds) S2 (x::xs) H2 r2 (aY (Rv.ts k2 _ v1) v2) s2<|k1.trans k2,hZ.kp k1⟩,hZ⟩⟩
abbrev xU:=D->D->au->KD->Prop
theorem al{x:Str}{pos:Pos}(i:Nat)(hr:DA K X es u)(hN:autoParam (X.N[i]?=some x) qQJ)(hv:OH X.env.scope x:=by first|exact Or.inl rfl|exact Or.inr (Or.inl rfl)|exact Or.inr (Or.inr rfl))(hd:autoParam ((x==("__debug__": Str))=false) qQZ) (t9:autoParam ((x==("__classdict__": Str))=false) qQZ):DA K X (.Name x pos::es) (ND (Uk i) u):=ac (dv i hN hv hd t9) hr rfl
def Lr(K:Frag)(r:xU):R2:=λx y H Q=>∃d e S R,Rv K H d x/\Rv K H e y/\Rs K S H/\r d e S R/\Cn K H R Q
def qY(K:Frag)(f:Value->Value->Sem Value)(r:xU):Prop:=∀X:Cx,X.K=K->X.A.units+64<cLine->hU X f (Lr K r)
def Qd(r:xU)(ta tb:TD):TD:=λσ S R Z=>ta σ S (λx S1=>tb σ S1 (λy S2=>r x y S2 R) Z) Z
theorem T.op(h:T K E (Qd r ta tb) τ H Q):RL (Lr K r) (T K E ta) (T K E tb) τ H Q:=by obtain⟨σ,S,R,Z,aB,hS,q,hR,hZ⟩:=h;exact{σ,S,_,Z,aB,hS,q,λd S1 x H1 r1 v1 s1 k1=>{σ,S1,_,Z,aB.ts k1,s1,r1,λe S2 y H2 r2 v2 s2 k2=>{d,e,S2,R,Rv.ts k2 _ v1,v2,s2,r2,hR.kp<|k1.trans k2},hZ.kp k1},hZ}
theorem bo(ho:qY K (binaryOp op) r)(hu:X.A.units+64<cLine)(ha:DE K X a ta)(hb:DE K X b tb)(hK:autoParam (X.K=K) qQJ):DE K X (.BinOp a op b pos) (Qd r ta tb):=⟨λy=>(SY (ho y.cx hK hu) (ha.of y)<|hb.of y).mono λ_ _ _ h=>h.op⟩
theorem cm(ho:qY K (compareOp op) r)(hu:X.A.units+64<cLine)(ha:DE K X a ta)(hb:DE K X b tb)(hm:autoParam (behindInMarks op b=false) qQ2)(hK:autoParam (X.K=K) qQJ):DE K X (.Compare a [op] [b] pos) (Qd r ta tb):=⟨λy=>(D5 (ho y.cx hK hu) (ha.of y) (hb.of y) hm).mono λ_ _ _ h=>h.op⟩
def dB(t:TD):mE:=λσ S R Z=>t σ S (λx S1=>RY x S1 R) Z
theorem Tt.b{t:TD}(h:Tt K E (dB t) τ H Q):T K E t τ H λx H'=>∃k,x=.bl k/\Q k H':=by obtain⟨σ,S,R,Z,aB,hS,q,hR,hZ⟩:=h;exact{σ,S,_,Z,aB,hS,q,by rintro d S1 x H1 ⟨b,e,r1⟩ v1 s1 k1;exact by subst e;exact{b,v1.bl,hR b S1 H1 r1 s1 k1},hZ}
theorem Tt.bop(h:Tt K E (dB<|Qd r ta tb) τ H Q):Hr (RL (Lr K r) (T K E ta)<|T K E tb) τ H Q:=h.b.op
theorem bq(ho:qY K (compareOp op) r)(hu:X.A.units+64<cLine)(ha:DE K X a ta)(hb:DE K X b tb)(hm:autoParam (behindInMarks op b=false) qQ2)(hK:autoParam (X.K=K) qQJ):DT K X (.Compare a [op] [b] pos) (dB<|Qd r ta tb):=⟨λy=>(K4 (ho y.cx hK hu) (ha.of y) (hb.of y) hm).mono λ_ _ _ h=>h.bop⟩
theorem tv{t:TD}(h:DE K X e t)(he:autoParam (∀whole,isTrue e X.env whole=(do let v <-whole;standAt e.pos;holding [v] (truthy v))) qQ0):DT K X e (dB t):=⟨λy=>(OR (X:=y.cx) (h.of y) he).mono λ_ _ _ h=>h.b⟩
def Cr(r r':xU)(ta tb tc:TD):TD:=λσ S R Z=>ta σ S (λx S1=>tb σ S1 (λy S2=>r x y S2 λz S3=>RY z S3 λk S3=>if k=true then tc σ S3 (λw S4=>r' y w S4 R) Z else R (.bl false) S3) Z) Z
theorem T.chain(h:T K E (Cr r r' ta tb tc) τ H Q):BE (Lr K r) (Lr K r') (T K E ta) (T K E tb) (T K E tc) τ H Q:=by obtain⟨σ,S,R,Z,aB,hS,q,hR,hZ⟩:=h;refine{σ,S,_,Z,aB,hS,q,λd S1 x H1 r1 v1 s1 k1=>{σ,S1,_,Z,aB.ts k1,s1,r1,λe S2 y H2 r2 v2 s2 k2=>{d,e,S2,_,Rv.ts k2 _ v1,v2,s2,r2,λz S3 v H3 r3 v3 s3 k3=>?_},hZ.kp k1},hZ};obtain⟨k,rfl,r3⟩:=r3;refine{k,v3.bl,?_};cases k with|true=>rw[if_pos rfl]at r3⊢;exact{σ,S3,_,Z,((aB.ts k1).ts k2).ts k3,s3,r3,λw S4 wv H4 r4 v4 s4 k4=>{e,w,S4,R,Rv.ts (k3.trans k4) _ v2,v4,s4,r4,hR.kp<|((k1.trans k2).trans k3).trans k4},hZ.kp<|(k1.trans k2).trans k3}|false=>rw[if_neg zd]at r3⊢;exact hR _ S3 _ H3 r3 (bJ false) s3<|(k1.trans k2).trans k3
theorem cc(ho:qY K (compareOp op) r)(BA:qY K (compareOp Fp) r')(hu:X.A.units+64<cLine)(ha:DE K X a ta)(hb:DE K X b tb)(hc:DE K X c tc) (hm:autoParam (lastMarks [op,Fp] [b,c]=false) qQ2) (hK:autoParam (X.K=K) qQJ):DE K X (.Compare a [op,Fp] [b,c] pos) (Cr r r' ta tb tc):=⟨λy=>(Hs (ho y.cx hK hu) (BA y.cx hK hu) (ha.of y) (hb.of y) (hc.of y) hm).mono λ_ _ _ h=>h.chain⟩
theorem WO(ho:qY K (compareOp op) r)(BA:qY K (compareOp Fp) r')(hu:X.A.units+64<cLine)(ha:DE K X a ta)(hb:DE K X b tb)(hc:DE K X c tc) (hm:autoParam (lastMarks [op,Fp] [b,c]=false) qQ2) (hK:autoParam (X.K=K) qQJ):DT K X (.Compare a [op,Fp] [b,c] pos) (dB<|Cr r r' ta tb tc):=⟨λy=>(Ht (ho y.cx hK hu) (BA y.cx hK hu) (ha.of y) (hb.of y) (hc.of y) hm).mono λ_ _ _ h=>h.b.chain⟩
def Ul(ta tb:TD):TD:=λσ S R Z=>ta σ S (λx S1=>RY x S1 λc S1=>if c=true then tb σ S1 R Z else R (.bl false) S1) Z
def YR(ta tb:TD):TD:=λσ S R Z=>ta σ S (λx S1=>RY x S1 λc S1=>if c=true then R (.bl true) S1 else tb σ S1 R Z) Z
def Um(ta:TD):TD:=λσ S R Z=>ta σ S (λx S1=>RY x S1 λc S1=>R (.bl<|!c) S1) Z
theorem Ia{t:TD}(h:DE K X a t):DE K X (.BoolOp op [a] pos) t:=⟨λy=>OT<|h.of y⟩
theorem sx{a b:Expr}{rest:List Expr}{ta tb:TD}{pos:Pos}(ha:DE K X a ta)(hb:DE K X (.BoolOp .And (b::rest) pos) tb):DE K X (.BoolOp .And (a::b::rest) pos) (Ul ta tb):=
 ⟨λy=>(OU (ha.of y)<|hb.of y).mono <| by rintro τ H Q ⟨σ,S,R,Z,aB,hS,q,hR,hZ⟩;exact
  ⟨σ,S,_,Z,aB,hS,q,by
   rintro d S1 x H1 ⟨c,e,r1⟩ v1 s1 k1
   subst e
   refine{c,v1.bl,?_}
   cases c with
   |true=>rw[if_pos rfl]at r1⊢;exact{σ,S1,R,Z,aB.ts k1,s1,r1,hR.kp k1,hZ.kp k1}
   |false=>rw[if_neg zd]at r1⊢;exact hR _ S1 _ H1 r1 (bJ false) s1 k1,hZ⟩⟩
theorem eor{a b:Expr}{rest:List Expr}{ta tb:TD}{pos:Pos}(ha:DE K X a ta)(hb:DE K X (.BoolOp .Or (b::rest) pos) tb):DE K X (.BoolOp .Or (a::b::rest) pos) (YR ta tb):=
 ⟨λy=>(SM (ha.of y)<|hb.of y).mono <| by rintro τ H Q ⟨σ,S,R,Z,aB,hS,q,hR,hZ⟩;exact
  ⟨σ,S,_,Z,aB,hS,q,by
   rintro d S1 x H1 ⟨c,e,r1⟩ v1 s1 k1
   subst e
   refine{c,v1.bl,?_}
   cases c with
   |false=>rw[if_neg zd]at r1⊢;exact{σ,S1,R,Z,aB.ts k1,s1,r1,hR.kp k1,hZ.kp k1}
   |true=>rw[if_pos rfl]at r1⊢;exact hR _ S1 _ H1 r1 (bJ true) s1 k1,hZ⟩⟩
theorem Uo(ha:DE K X a ta):DE K X (.UnaryOp .Not a pos) (Um ta):=
 ⟨λy=>(OV<|ha.of y).mono <| by rintro τ H Q ⟨σ,S,R,Z,aB,hS,q,hR,hZ⟩;exact
  ⟨σ,S,_,Z,aB,hS,q,by rintro d S1 x H1 ⟨c,e,r1⟩ v1 s1 k1;exact by subst e;exact⟨c,v1.bl,hR _ S1 _ H1 r1 (bJ _) s1 k1⟩,hZ⟩⟩
def YS(t:mE):mE:=λσ S R Z=>t σ S (λc S1=>R (!c) S1) Z
def YT(t u:mE):mE:=λσ S R Z=>t σ S (λc S1=>if c=true then u σ S1 R Z else R false S1) Z
def dOr(t u:mE):mE:=λσ S R Z=>t σ S (λc S1=>if c=true then R true S1 else u σ S1 R Z) Z
theorem cM{t:mE}(ha:DT K X a t):DT K X (.UnaryOp .Not a pos) (YS t):=⟨λy=>(OS<|ha.of y).mono <| by rintro τ H Q ⟨σ,S,R,Z,aB,hS,q,hR,hZ⟩;exact{σ,S,_,Z,aB,hS,q,λc S1 H1 r1 s1 k1=>hR _ S1 H1 r1 s1 k1,hZ}⟩
structure DW(K:Frag)(X:Cx)(e:Expr)(t:mE):Prop where
 of:∀{b:Bool}(y:Ev X b),PW y.cx e<|Tt K y.E t
theorem PW.mono{t t':TT}(h:PW X e t)(i:∀τ H Q,t' τ H Q->t τ H Q):PW X e t':=λwh pins s τ H Q I q=>h wh pins s τ H Q I<|i τ H Q q
theorem twd{t:mE}(h:DW K X e t):DT K X e t:=⟨λy=>(h.of y).pt⟩
theorem tw1{t:mE}(h:DT K X a t):DW K X (.BoolOp op [a] pos) t:=⟨λy=>by cases op with|And=>exact pw_and1 (h.of y)|Or=>exact pw_or1<|h.of y⟩
theorem twand{a b:Expr}{rest:List Expr}{t u:mE}{pos:Pos}(ha:DT K X a t)(hb:DW K X (.BoolOp .And (b::rest) pos) u):DW K X (.BoolOp .And (a::b::rest) pos) (YT t u):=
 ⟨λy=>(pw_and (ha.of y)<|hb.of y).mono <| by rintro τ H Q ⟨σ,S,R,Z,aB,hS,q,hR,hZ⟩;exact
  ⟨σ,S,_,Z,aB,hS,q,λc S1 H1 r1 s1 k1=>by
   cases c with
   |true=>rw[if_pos rfl]at r1⊢;exact{σ,S1,R,Z,aB.ts k1,s1,r1,hR.kp k1,hZ.kp k1}
   |false=>rw[if_neg zd]at r1⊢;exact hR _ S1 H1 r1 s1 k1,hZ⟩⟩
theorem twor{a b:Expr}{rest:List Expr}{t u:mE}{pos:Pos}(ha:DT K X a t)(hb:DW K X (.BoolOp .Or (b::rest) pos) u):DW K X (.BoolOp .Or (a::b::rest) pos) (dOr t u):=
 ⟨λy=>(pw_or (ha.of y)<|hb.of y).mono <| by rintro τ H Q ⟨σ,S,R,Z,aB,hS,q,hR,hZ⟩;exact
  ⟨σ,S,_,Z,aB,hS,q,λc S1 H1 r1 s1 k1=>by
   cases c with
   |false=>rw[if_neg zd]at r1⊢;exact{σ,S1,R,Z,aB.ts k1,s1,r1,hR.kp k1,hZ.kp k1}
   |true=>rw[if_pos rfl]at r1⊢;exact hR _ S1 H1 r1 s1 k1,hZ⟩⟩
def YU(t:mE)(ta tb:TD):TD:=λσ S R Z=>t σ S (λc S1=>if c=true then ta σ S1 R Z else tb σ S1 R Z) Z
theorem LP{t:mE}(hc:DT K X c t)(ha:DE K X a ta)(hb:DE K X b tb):DE K X (.IfExp c a b pos) (YU t ta tb):=
 ⟨λy=>(Hi (hc.of y) (ha.of y)<|hb.of y).mono <| by rintro τ H Q ⟨σ,S,R,Z,aB,hS,q,hR,hZ⟩;exact
  ⟨σ,S,_,Z,aB,hS,q,λc S1 H1 r1 s1 k1=>by
   cases c with
   |true=>rw[if_pos rfl]at r1⊢;exact{σ,S1,R,Z,aB.ts k1,s1,r1,hR.kp k1,hZ.kp k1}
   |false=>rw[if_neg zd]at r1⊢;exact{σ,S1,R,Z,aB.ts k1,s1,r1,hR.kp k1,hZ.kp k1},hZ⟩⟩
def YV(t:jq):TD:=λσ S R Z=>t σ S (λds S1=>ds.length<=sizeLine/\∀p,S1 p=none->R (.ref p) (S1.set p<|.lst ds)) Z
def YW(t:jq):TD:=λσ S R Z=>t σ S (λds S1=>ds.length<=sizeLine/\R (.tup ds) S1) Z
theorem cB{t:jq}(h:DA K X es t):DE K X (.List es pos) (YV t):=
 ⟨λy=>(Pl<|h.of y).mono <| by rintro τ H Q ⟨σ,S,R,Z,aB,hS,q,hR,hZ⟩;exact
  ⟨σ,S,_,Z,aB,hS,q,by rintro ds S1 xs H1 ⟨hl,r1⟩ v1 s1 k1;exact⟨by rw[v1.len];exact hl,λp hp=>hR _ _ _ _ (r1 p<|s1.fresh hp) (iH p) (s1.new hp ⟨xs,aF,RvAll.ts (.new hp) _ v1⟩)<|k1.trans<|.new hp⟩,hZ⟩⟩
theorem cN{t:jq}(h:DA K X es t):DE K X (.Tuple es x1 pos) (YW t):=
 ⟨λy=>(Pk<|h.of y).mono <| by rintro τ H Q ⟨σ,S,R,Z,aB,hS,q,hR,hZ⟩;exact
  ⟨σ,S,_,Z,aB,hS,q,by rintro ds S1 xs H1 ⟨hl,r1⟩ v1 s1 k1;exact⟨by rw[v1.len];exact hl,λp hp=>hR _ _ _ _ r1 (ow aF<|RvAll.ts (.new hp) _ v1) (s1.grow hp)<|k1.trans<|.new hp⟩,hZ⟩⟩
def YX:TD:=λ_ S R _=>∀p,S p=none->R (.ref p) (S.set p<|.cO [])
theorem Up:DE K X (.Dict [] [] pos) YX:=⟨λy=>(HF (X:=y.cx)).mono <| by rintro τ H Q ⟨σ,S,R,Z,aB,hS,q,hR,hZ⟩ p hp;exact hR _ _ _ _ (q p<|hS.fresh hp) (iH p) (hS.new hp {[],aF,.nil})<|.new hp⟩
def Lc(K:Frag)(r:List D->au->KD->Prop):List V->Hp->VK->Prop:=λxs H Q=>∃ds S R,RvAll K H ds xs/\Rs K S H/\r ds S R/\Cn K H R Q
def jd(K:Frag)(f:Value)(r:List D->au->KD->Prop):Prop:=∀X:Cx,X.K=K->X.calm=true->fe X f (Lc K r)
def WQ(r:List D->au->KD->Prop)(t:jq):TD:=λσ S R Z=>t σ S (λds S1=>r ds S1 R) Z
theorem T.cb{t:jq}(h:T K E (WQ r t) τ H Q):X_ (Lc K r) (Ta K E t) τ H Q:=by obtain⟨σ,S,R,Z,aB,hS,q,hR,hZ⟩:=h;exact{σ,S,_,Z,aB,hS,q,λds S1 xs H1 r1 v1 s1 k1=>{ds,S1,R,v1,s1,r1,hR.kp k1},hZ}
theorem cb{x:Str}{id:String}{r:List D->au->KD->Prop}{e:Expr}{es:List Expr}{t:jq}{p pos:Pos}(hc:jd K (.builtin id) r)(hm:X.mg x=none)(hv:bootBuiltins x=some (.builtin id))(ha:DA K X (e::es) t)(hg:autoParam (Gl X x) qQJ) (hn:autoParam (x≠"__name__") qQZ) (qB:autoParam ((x==("__debug__": Str))=false) qQZ) (he:autoParam (starEach (e::es) X.env=(false,eval e X.env)::starEach es X.env) qQJ) (dN:autoParam ((backTo pos<|starEach es X.env).any (·.1)=false) qQJ) (hK:autoParam (X.K=K) qQJ) (hC:autoParam (X.calm=true) qQJ): DE K X (.Call (.Name x p) (e::es) [] pos) (WQ r t):=⟨λy=>(yW (X:=y.cx) (hc _ hK hC) hg hm hv (ha.of y) hn qB he dN).mono λ_ _ _ h=>h.cb⟩
theorem ct{x:Str}{id:String}{r:List D->au->KD->Prop}{e:Expr}{es:List Expr}{t:jq}{p pos:Pos}(hc:jd K (.type id) r)(hm:X.mg x=none)(hv:bootBuiltins x=some (.type id))(ha:DA K X (e::es) t)(hg:autoParam (Gl X x) qQJ) (hn:autoParam (x≠"__name__") qQZ) (qB:autoParam ((x==("__debug__": Str))=false) qQZ) (he:autoParam (starEach (e::es) X.env=(false,eval e X.env)::starEach es X.env) qQJ) (dN:autoParam ((backTo pos<|starEach es X.env).any (·.1)=false) qQJ) (hK:autoParam (X.K=K) qQJ) (hC:autoParam (X.calm=true) qQJ): DE K X (.Call (.Name x p) (e::es) [] pos) (WQ r t):=⟨λy=>(uY (X:=y.cx) (hc _ hK hC) hg hm hv (ha.of y) hn qB he dN).mono λ_ _ _ h=>h.cb⟩
end
section
variable{K:Frag}
theorem Cn.now(h:Cn K H R Q)(hS:Rs K S H)(r:R d S)(rv:Rv K H d v):Q v H:=h d S v H r rv hS<|.refl _
theorem Cn.new{H:Hp}{R:KD}{Q:VK}{S:au}{p:Addr}{ds:List D}{xs:List V}(h:Cn K H R Q)(hS:Rs K S H)(hp:H p=none)(r:S p=none->R (.ref p) (S.set p<|.lst ds))(rv:RvAll K H ds xs):Q (.ref p) (upd H p<|.lst xs):=h _ _ _ _ (r<|hS.fresh hp) (iH p) (hS.new hp {xs,aF,RvAll.ts (.new hp) _ rv})<|.new hp
theorem Cn.YY{H:Hp}{R:KD}{Q:VK}{S:au}{p:Addr}{ds:List D}{xs:List V}(h:Cn K H R Q)(hS:Rs K S H)(hp:H p=none)(r:R (.tup ds) S)(rv:RvAll K H ds xs):Q (.ref p) (upd H p<|.tup xs):=h _ _ _ _ r (ow aF<|RvAll.ts (.new hp) _ rv) (hS.grow hp)<|.new hp
theorem Cn.put{H:Hp}{R:KD}{Q:VK}{S:au}{p:Addr}{ds es:List D}{xs:List V}{d:D}{v:V}(h:Cn K H R Q)(hS:Rs K S H)(hp:S p=some (.lst es))(r:R d<|S.set p<|.lst ds)(rd:Rv K H d v)(rv:RvAll K H ds xs):Q v (upd H p<|.lst xs):=h _ _ _ _ r (Rv.ts (hS.iI hp) _ rd) (hS.put hp {xs,aF,RvAll.ts (hS.iI hp) _ rv})<|hS.iI hp
def we(S:au):D->List D->Prop|.ref a,ds=>S a=some (.lst ds)|.lU es,ds=>es=ds|_,_=>False
theorem we.at{H:Hp}{S:au}{d:D}{ds:List D}{v:V}(h:we S d ds)(hS:Rs K S H)(r:Rv K H d v):∃a xs,v=.ref a/\kz K H a xs/\RvAll K H ds xs:=by cases d with|ref a=>(obtain⟨xs,e,q⟩:=hS.lst h;exact{a,xs,r.ref,.of e,q})|lU es=>(have h:es=ds:=h;subst h;obtain⟨a,xs,e,q,t⟩:=r.lU;exact⟨a,xs,e,q.sq,t⟩)|_=>exact h.elim
def YZ:xU:=λx y S R=>match x,y with|.int i,.int j=>R (.int<|i-j) S|_,_=>False
theorem mR:qY K (binaryOp .Sub) YZ:=by rintro X hK hu pins s σ H x y v u Q I rx ry ⟨d,e,S,R,r1,r2,hS,h,hR⟩;cases d<;>cases e<;>first|exact False.elim h|exact Pa pins s σ H x y v u Q I rx ry {_,_,r1.int,r2.int,hR.now hS h<|aS _}
def Y0:xU:=λx y S R=>match x,y with|.int i,.int j=>K2 i j/\R (.int<|i*j) S|.str z,.int n=>MulOk z n/\R (.str<|PySem.Txt.mul z n) S|_,_=>False
theorem sy:qY K (binaryOp .Mult) Y0:=by rintro X hK hu pins s σ H x y v u Q I rx ry ⟨d,e,S,R,r1,r2,hS,h,hR⟩;cases d<;>cases e<;>first|exact False.elim h|exact Pb pins s σ H x y v u Q I rx ry {_,_,r1.int,r2.int,h.1,hR.now hS h.2<|aS _}|exact Cf pins s σ H x y v u Q I rx ry {_,_,r1.str,r2.int,h.1,hR.now hS h.2<|fF _}
def Y1:xU:=λx y S R=>match x,y with|.int i,.int j=>0<j/\R (.int<|i%j) S|_,_=>False
theorem ba:qY K (binaryOp .Mod) Y1:=by rintro X hK hu pins s σ H x y v u Q I rx ry ⟨d,e,S,R,r1,r2,hS,h,hR⟩;cases d<;>cases e<;>first|exact False.elim h|exact Pc pins s σ H x y v u Q I rx ry {_,_,r1.int,r2.int,h.1,hR.now hS h.2<|aS _}
def Uq:xU:=λx y S R=>match x,y with|.int i,.int j=>Nu i j/\R (.int<|i/j) S|_,_=>False
theorem bR:qY K (binaryOp .FloorDiv) Uq:=by rintro X hK hu pins s σ H x y v u Q I rx ry ⟨d,e,S,R,r1,r2,hS,h,hR⟩;cases d<;>cases e<;>first|exact False.elim h|exact HK pins s σ H x y v u Q I rx ry {_,_,r1.int,r2.int,h.1,hR.now hS h.2<|aS _}
def Y2:xU:=λx y S R=>match x,y with|.int i,.int j=>Td i j/\R (.int<|i^j.toNat) S|_,_=>False
theorem mS:qY K (binaryOp .Pow) Y2:=by rintro X hK hu pins s σ H x y v u Q I rx ry ⟨d,e,S,R,r1,r2,hS,h,hR⟩;cases d<;>cases e<;>first|exact False.elim h|exact Pd pins s σ H x y v u Q I rx ry {_,_,r1.int,r2.int,h.1,hR.now hS h.2<|aS _}
def Ib(f:Int->Int->Bool)(g:Str->Str->Bool):xU:=λx y S R=>match x,y with|.int i,.int j=>R (.bl<|f i j) S|.str i,.str j=>R (.bl<|g i j) S|_,_=>False
theorem Eg(h1:∀X:Cx,hU X (compareOp op)<|K0 λi j=>.bl<|f i j) (h2:∀X:Cx,hU X (compareOp op) λx y H Q=>∃i j,x=.str i/\y=.str j/\Q (.bl<|g i j) H):qY K (compareOp op) (Ib f g):=by rintro X hK hu pins s σ H x y v u Q I rx ry ⟨d,e,S,R,r1,r2,hS,h,hR⟩;cases d<;>cases e<;>first|exact False.elim h|exact h1 X pins s σ H x y v u Q I rx ry {_,_,r1.int,r2.int,hR.now hS h<|bJ _}|exact h2 X pins s σ H x y v u Q I rx ry {_,_,r1.str,r2.str,hR.now hS h<|bJ _}
theorem wg:qY K (compareOp .Lt) (Ib (λi j=>decide<|i<j) λi j=>u3 i j):=Eg (λ_=>Tf) λ_=>Fm
theorem jH:qY K (compareOp .LtE) (Ib (λi j=>decide<|i<=j) λi j=>G8 i j):=Eg (λ_=>Th) λ_=>FH
theorem ox:qY K (compareOp .Gt) (Ib (λi j=>decide<|j<i) λi j=>u3 j i):=Eg (λ_=>Tj) λ_=>FJ
theorem Y3:qY K (compareOp .GtE) (Ib (λi j=>decide<|j<=i) λi j=>G8 j i):=Eg (λ_=>Tp) λ_=>FI
noncomputable def ai:D->Bool|.av=>true|_=>false
theorem Ae(r:Rv K H d v):decide (v=.av)=ai d:=by cases d with|av=>rw[r.av];rfl|bl b=>rw[r.bl];rfl|int b=>rw[r.int];rfl|str b=>rw[r.str];rfl|ref b=>rw[r.ref];rfl|ty b=>rw[r.ty];rfl|tup b=>(obtain⟨a,xs,rfl,_⟩:=r.tup;rfl)|lU b=>(obtain⟨a,xs,rfl,_⟩:=r.lU;rfl)|kt b=>obtain⟨a,xs,rfl,_⟩:=r.kt;rfl
def Y4:xU:=λx y S R=>match y with|.av=>R (.bl<|ai x) S|_=>False
def Ur:xU:=λx y S R=>match y with|.av=>R (.bl<|!ai x) S|_=>False
theorem jr:qY K (compareOp .Is) Y4:=by rintro X hK hu pins s σ H x y v u Q I rx ry ⟨d,e,S,R,r1,r2,hS,h,hR⟩;cases e<;>first|exact False.elim h|exact Pf pins s σ H x y v u Q I rx ry {r2.av,by rw[Ae r1];exact hR.now hS h<|bJ _}
theorem oy:qY K (compareOp .IsNot) Ur:=by rintro X hK hu pins s σ H x y v u Q I rx ry ⟨d,e,S,R,r1,r2,hS,h,hR⟩;cases e<;>first|exact False.elim h|exact K3 pins s σ H x y v u Q I rx ry {r2.av,by rw[Ae r1];exact hR.now hS h<|bJ _}
mutual
def Dp(S:au):D->PyData->Prop|.av,p=>p=.none|.bl b,p=>p=.bool b|.int i,p=>p=.int i|.str z,p=>p=.str z|.tup ds,p=>∃ps,p=.tuple ps/\DpAll S ds ps|.lU ds,p=>∃ps,p=.list ps/\DpAll S ds ps|.kt _,_=>False|.ref _,_=>False|.ty _,_=>False
def DpAll(S:au):List D->List PyData->Prop|[],ps=>ps=[]|d::ds,ps=>∃q qs,ps=q::qs/\Dp S d q/\DpAll S ds qs
end
mutual
theorem Dp.dt:∀(d:D){p:PyData}{v:V},Dp S d p->Rv K H d v->Dt K H p v|.av,p,v,h,r=>by simp only[Dp]at h;subst h;simp only[Dt];exact r.av|.bl b,p,v,h,r=>by simp only[Dp]at h;subst h;simp only[Dt];exact r.bl|.int b,p,v,h,r=>by simp only[Dp]at h;subst h;simp only[Dt];exact r.int|.str b,p,v,h,r=>by simp only[Dp]at h;subst h;simp only[Dt];exact r.str|.tup ds,p,v,h,r=>(by simp only[Dp]at h;obtain⟨ps,rfl,h⟩:=h;obtain⟨a,xs,rfl,q,t⟩:=r.tup;simp only[Dt];exact{a,xs,rfl,.of q,DpAll.dt ds h t})|.lU ds,p,v,h,r=>(by simp only[Dp]at h;obtain⟨ps,rfl,h⟩:=h;obtain⟨a,xs,rfl,q,t⟩:=r.lU;simp only[Dt];exact{a,xs,rfl,q.sq,DpAll.dt ds h t})|.kt a,p,v,h,r=>by simp only[Dp]at h|.ref a,p,v,h,r=>by simp only[Dp]at h|.ty a,p,v,h,r=>by simp only[Dp]at h
theorem DpAll.dt:∀(ds:List D){ps:List PyData}{vs:List V},DpAll S ds ps->RvAll K H ds vs->DtAll K H ps vs|[],ps,vs,h,r=>by simp only[DpAll]at h;subst h;rw[r.nil];simp only[DtAll]|d::ds,ps,vs,h,r=>by simp only[DpAll]at h;obtain⟨q,qs,rfl,h1,h2⟩:=h;obtain⟨y,ys,rfl,r1,r2⟩:=r.cons;simp only[DtAll];exact{y,ys,rfl,Dp.dt d h1 r1,DpAll.dt ds h2 r2}
end
def Dl(S:au):D->PyData->Prop|.ref a,p=>∃ds ps,S a=some (.lst ds)/\p=.list ps/\DpAll S ds ps|d,p=>Dp S d p
theorem Dl.dt(h:Dl S d p)(hS:Rs K S H)(r:Rv K H d v):Dt K H p v:=by cases d with|ref a=>(obtain⟨ds,ps,e,rfl,h⟩:=h;obtain⟨xs,e1,t⟩:=hS.lst e;rw[r.ref];simp only[Dt];exact{a,xs,rfl,.of e1,DpAll.dt ds h t})|_=>exact Dp.dt _ h r
def Eh(neg:Bool):xU:=λx y S R=>match x,y with|.int i,.int j=>(R (.bl<|if neg then !decide (i=j) else decide (i=j)) S)|.str i,.str j=>(R (.bl<|if neg then !decide (i=j) else decide (i=j)) S)|x,y=>∃p q,Dl S x p/\Dl S y q/\p.canLay0=true/\q.canLay0=true/\(p.depth<=64\/q.depth<=64)/\R (.bl<|if neg then !PyData.eqv p q else PyData.eqv p q) S
theorem Ie(h:Eh neg x y S R):(∃i j,x=.int i/\y=.int j/\R (.bl<|if neg then !decide (i=j) else decide (i=j)) S)\/(∃i j,x=.str i/\y=.str j/\R (.bl<|if neg then !decide (i=j) else decide (i=j)) S)\/∃p q,Dl S x p/\Dl S y q/\p.canLay0=true/\q.canLay0=true/\(p.depth<=64\/q.depth<=64)/\R (.bl<|if neg then !PyData.eqv p q else PyData.eqv p q) S:=by cases x<;>cases y<;>first|exact .inl {_,_,rfl,rfl,h}|exact .inr (.inl {_,_,rfl,rfl,h})|exact .inr (.inr h)
theorem bA:qY K (compareOp .Eq) (Eh false):=by
 rintro X hK hu pins s σ H x y v u Q I rx ry ⟨d,e,S,R,r1,r2,hS,h,hR⟩;subst hK;rcases Ie h with⟨i,j,rfl,rfl,h⟩|⟨i,j,rfl,rfl,h⟩|⟨p,q,h1,h2,c1,c2,dp,h⟩;cases r1.int;cases r2.int;refine Nl pins s σ H _ _ v u Q I rx ry {rfl,?_};have e:decide (V.int i=V.int j)=decide (i=j):=by simp
 rw[e];exact hR.now hS h<|bJ _;cases r1.str;cases r2.str;refine Nl pins s σ H _ _ v u Q I rx ry {rfl,?_};have e:decide (V.str i=V.str j)=decide (i=j):=by simp
 rw[e];exact hR.now hS h<|bJ _;exact PZ hu pins s σ H x y v u Q I rx ry {p,q,h1.dt hS r1,h2.dt hS r2,c1,c2,dp,hR.now hS h<|bJ _}
theorem js:qY K (compareOp .NotEq) (Eh true):=by
 rintro X hK hu pins s σ H x y v u Q I rx ry ⟨d,e,S,R,r1,r2,hS,h,hR⟩;subst hK;rcases Ie h with⟨i,j,rfl,rfl,h⟩|⟨i,j,rfl,rfl,h⟩|⟨p,q,h1,h2,c1,c2,dp,h⟩;cases r1.int;cases r2.int;refine Nm pins s σ H _ _ v u Q I rx ry {rfl,?_};have e:decide (V.int i=V.int j)=decide (i=j):=by simp
 rw[e];exact hR.now hS h<|bJ _;cases r1.str;cases r2.str;refine Nm pins s σ H _ _ v u Q I rx ry {rfl,?_};have e:decide (V.str i=V.str j)=decide (i=j):=by simp
 rw[e];exact hR.now hS h<|bJ _;exact P0 hu pins s σ H x y v u Q I rx ry {p,q,h1.dt hS r1,h2.dt hS r2,c1,c2,dp,hR.now hS h<|bJ _}
noncomputable def bZ(kvs:List<|Key×D)(k:Key):Option D:=(kvs.find? λkv=>decide<|kv.1=k).map (·.2)
noncomputable def dput(kvs:List<|Key×D)(k:Key)(v:D):List (Key×D):=if (kvs.any λkv=>decide<|kv.1=k)=true then kvs.map (λkv=>if kv.1=k then (kv.1,v) else kv) else kvs++[(k,v)]
noncomputable def Af(kvs:List<|Key×D)(k:Key):List (Key×D):=kvs.filter λkv=>decide<|kv.1≠k
theorem bY.val(h:bY K H ks vs)(k:Key):(∀d,bZ ks k=some d->∃v,gv vs k=some v/\Rv K H d v)/\(bZ ks k=none->gv vs k=none):=by induction h with|nil=>(exact{λd e=>(by cases e),λ_=>rfl})|@cons a b l m r t ih=>obtain⟨k',d⟩:=a;obtain⟨k'',v⟩:=b;obtain⟨e0,r⟩:=r;dsimp only at e0;subst e0;unfold bZ gv;simp only[z0];by_cases q:k'=k;rw[zu q];exact{λd' e=>{v,rfl,(by cases e;exact r)},λe=>(by cases e)};rw[zq q];exact ih
theorem bY.any(h:bY K H ks vs)(k:Key):(ks.any λkv=>decide<|kv.1=k)=(vs.any λkv=>decide<|kv.1=k):=by induction h with|nil=>rfl|cons r t ih=>rw[yQ,yQ,ih,r.1]
theorem bY.len(h:bY K H ks vs):vs.length=ks.length:=(yH h).symm
theorem bY.app:∀{ks ls:List (κ×D)}{vs ws:List (κ×V)},bY K H ks vs->bY K H ls ws->bY K H (ks++ls) (vs++ws)|_,_,_,_,.nil,h=>h|_,_,_,_,.cons r t,h=>.cons r<|bY.app t h
theorem bY.PB(h:bY K H ks vs)(k:Key)(rd:Rv K H d v):bY K H (ks.map λkv=>if kv.1=k then (kv.1,d) else kv) (vs.map λkv=>if kv.1=k then (kv.1,v) else kv):=by induction h with|nil=>exact .nil|@cons a b l m r t ih=>refine .cons ?_ ih;dsimp only;by_cases q:b.1=k;rw[if_pos q,if_pos<|r.1.trans q];exact⟨r.1,rd⟩;rw[if_neg q,if_neg λz=>q<|r.1.symm.trans z];exact r
theorem bY.put(h:bY K H ks vs)(k:Key)(rd:Rv K H d v):bY K H (dput ks k d) (putK vs k v):=by unfold dput putK;rw[h.any k];split;exact h.PB k rd;exact h.app<|.cons ⟨rfl,rd⟩ .nil
theorem bY.drop(h:bY K H ks vs)(k:Key):bY K H (Af ks k) (pQ vs k):=by unfold Af pQ;induction h with|nil=>exact .nil|@cons a b l m r t ih=>rw[List.filter_cons,List.filter_cons,r.1];by_cases q:b.1=k;rw[if_neg<|by simp[q],if_neg<|by simp[q]];exact ih;rw[if_pos<|by simp[q],if_pos<|by simp[q]];exact .cons r ih
noncomputable def Cs:D->Option Key|.int i=>some (.inl i)|.str z=>some (.inr z)|_=>none
theorem lV(h:Cs d=some k)(r:Rv K H d v):v=kV k:=by cases d with|int i=>(cases h;exact r.int)|str i=>(cases h;exact r.str)|_=>cases h
noncomputable def je:D->Bool|.av=>true|.bl _=>true|.int _=>true|.str _=>true|_=>false
noncomputable def jI:D->V|.av=>.av|.bl b=>.bl b|.int i=>.int i|.str z=>.str z|.ref a=>.ref a|.ty n=>.ty n|_=>.av
theorem jJ(h:je d=true)(r:Rv K H d v):v=jI d/\hW v=true:=by cases d with|av=>(cases r.av;exact⟨rfl,rfl⟩)|bl b=>(cases r.bl;exact⟨rfl,rfl⟩)|int b=>(cases r.int;exact⟨rfl,rfl⟩)|str b=>(cases r.str;exact⟨rfl,rfl⟩)|_=>cases h
theorem gy:∀{ds:List D}{vs:List V},ds.all je=true->RvAll K H ds vs->vs=ds.map jI/\vs.all hW=true|[],vs,_,r=>by rw[r.nil];exact⟨rfl,rfl⟩|d::ds,vs,h,r=>by obtain⟨y,ys,rfl,r1,r2⟩:=r.cons;rw[List.all_cons,zO]at h;obtain⟨e1,f1⟩:=jJ h.1 r1;obtain⟨e2,f2⟩:=gy h.2 r2;refine{by rw[e1,e2];rfl,?_};rw[List.all_cons,f1,f2];rfl
def inD(neg:Bool):xU:=λx y S R=>match y with|.str j=>(∃i,x=.str i/\R (.bl<|if neg then !(!(Builtin.Str.occurrences j i 0 j.length 1).isEmpty) else !(Builtin.Str.occurrences j i 0 j.length 1).isEmpty) S)|.kt ds=>(je x=true/\ds.all je=true/\R (.bl<|if neg then !BQ (jI x) (ds.map jI) else BQ (jI x) (ds.map jI)) S)|.tup ds=>(je x=true/\ds.all je=true/\R (.bl<|if neg then !BQ (jI x) (ds.map jI) else BQ (jI x) (ds.map jI)) S)|.ref a=>((∃ds,S a=some (.lst ds)/\je x=true/\ds.all je=true/\R (.bl<|if neg then !BQ (jI x) (ds.map jI) else BQ (jI x) (ds.map jI)) S)\/∃kvs k,S a=some (.cO kvs)/\Cs x=some k/\R (.bl<|if neg then !(bZ kvs k).isSome else (bZ kvs k).isSome) S)|_=>False
theorem qZ(hS:Rs K S H)(e:S a=some (.cO kvs)):∃o,oq H a (kV k) o/\o.isSome=(bZ kvs k).isSome/\∀d,bZ kvs k=some d->∃v,o=some v/\Rv K H d v:=by obtain⟨vs,e1,t⟩:=hS.cO e;refine{_,oq.k e1,?_,λd h=>(t.val k).1 d h};cases q:bZ kvs k with|none=>rw[(t.val k).2 q];rfl|some d=>obtain⟨v,e2,_⟩:=(t.val k).1 d q;rw[e2];rfl
theorem Ct:qY K (compareOp .In) (inD false):=by rintro X hK hu pins s σ H x y v u Q I rx ry ⟨d,e,S,R,r1,r2,hS,h,hR⟩;subst hK;cases e with|str j=>(obtain⟨i,rfl,h⟩:=h;exact Fn pins s σ H x y v u Q I rx ry {i,j,r1.str,r2.str,hR.now hS h<|bJ _})|tup ds=>(obtain⟨f1,f2,h⟩:=h;obtain⟨a,xs,rfl,q,t⟩:=r2.tup;obtain⟨e1,g1⟩:=jJ f1 r1;obtain⟨e2,g2⟩:=gy f2 t;subst e1 e2;exact oo pins s σ H _ _ v u Q I rx ry {a,_,rfl,.inr<|.of q,g1,g2,hR.now hS h<|bJ _})|kt ds=>(obtain⟨f1,f2,h⟩:=h;obtain⟨a,xs,rfl,q,t⟩:=r2.kt;obtain⟨e1,g1⟩:=jJ f1 r1;obtain⟨e2,g2⟩:=gy f2 t;subst e1 e2;exact oo pins s σ H _ _ v u Q I rx ry {a,_,rfl,.inr<|.inr q,g1,g2,hR.now hS h<|bJ _})|ref a=>(cases r2.ref;rcases h with⟨ds,e,f1,f2,h⟩|⟨kvs,k,e,hk,h⟩;obtain⟨xs,e1,t⟩:=hS.lst e;obtain⟨e2,g1⟩:=jJ f1 r1;obtain⟨e3,g2⟩:=gy f2 t;subst e2 e3;exact oo pins s σ H _ _ v u Q I rx ry {a,_,rfl,.inl<|.of e1,g1,g2,hR.now hS h<|bJ _};cases lV hk r1;cases ry;obtain⟨o,g,e1,_⟩:=qZ (k:=k) hS e;refine Yj (by lia) I g rx λs' I'=>{.bl o.isSome,H,I',rfl,?_};rw[e1];exact hR.now hS h<|bJ _)|_=>exact h.elim
theorem Ig:qY K (compareOp .NotIn) (inD true):=by rintro X hK hu pins s σ H x y v u Q I rx ry ⟨d,e,S,R,r1,r2,hS,h,hR⟩;subst hK;cases e with|str j=>(obtain⟨i,rfl,h⟩:=h;exact vY pins s σ H x y v u Q I rx ry {i,j,r1.str,r2.str,hR.now hS h<|bJ _})|tup ds=>(obtain⟨f1,f2,h⟩:=h;obtain⟨a,xs,rfl,q,t⟩:=r2.tup;obtain⟨e1,g1⟩:=jJ f1 r1;obtain⟨e2,g2⟩:=gy f2 t;subst e1 e2;exact iG pins s σ H _ _ v u Q I rx ry {a,_,rfl,.inr<|.of q,g1,g2,hR.now hS h<|bJ _})|kt ds=>(obtain⟨f1,f2,h⟩:=h;obtain⟨a,xs,rfl,q,t⟩:=r2.kt;obtain⟨e1,g1⟩:=jJ f1 r1;obtain⟨e2,g2⟩:=gy f2 t;subst e1 e2;exact iG pins s σ H _ _ v u Q I rx ry {a,_,rfl,.inr<|.inr q,g1,g2,hR.now hS h<|bJ _})|ref a=>(cases r2.ref;rcases h with⟨ds,e,f1,f2,h⟩|⟨kvs,k,e,hk,h⟩;obtain⟨xs,e1,t⟩:=hS.lst e;obtain⟨e2,g1⟩:=jJ f1 r1;obtain⟨e3,g2⟩:=gy f2 t;subst e2 e3;exact iG pins s σ H _ _ v u Q I rx ry {a,_,rfl,.inl<|.of e1,g1,g2,hR.now hS h<|bJ _};cases lV hk r1;cases ry;obtain⟨o,g,e1,_⟩:=qZ (k:=k) hS e;refine Le (by lia) I g rx λs' I'=>{.bl<|!o.isSome,H,I',rfl,?_};rw[e1];exact hR.now hS h<|bJ _)|_=>exact h.elim
def IxD(K:Frag)(r:xU):Prop:=∀X:Cx,X.K=K->X.A.units+64<cLine->Tw X (Lr K r)
inductive WR (ds:List D) (i:Int) (S:au) (R:KD):Prop where
 |mk (d:D) (h:mD ds i=some d) (r:R d S)
inductive Y5 (a:Addr) (i:Int) (S:au) (R:KD):Prop where
 |mk (ds:List D) (d:D) (e:S a=some (.lst ds)) (h:mD ds i=some d) (r:R d S)
def ixD:xU:=λx y S R=>match x,y with|.tup ds,.int i=>WR ds i S R|.kt ds,.int i=>WR ds i S R|.lU ds,.int i=>WR ds i S R|.str z,.int i=>∃c,z.length<=sizeLine/\mD z.cps.toList i=some c/\R (.str ⟨#[c]⟩) S|.ref a,.int i=>Y5 a i S R|.ref a,.str z=>∃kvs d,S a=some (.cO kvs)/\bZ kvs (.inr z)=some d/\R d S|_,_=>False
theorem RvAll.at{H:Hp}{ds:List D}{xs:List V}{i:Int}{d:D}(h:RvAll K H ds xs)(e:mD ds i=some d):∃v,mD xs i=some v/\Rv K H d v:=by unfold mD at e⊢;rw[h.len];cases q:Hx ds.length i with|none=>(rw[q]at e;cases e)|some j=>rw[q]at e;exact h.get e
theorem Y6:IxD K ixD:=by rintro X hK hu value slice pins s σ H x y v u Q I rx ry ⟨d,e,S,R,r1,r2,hS,h,hR⟩ hs;subst hK;cases d with|tup ds=>(cases e with|int i=>(obtain⟨d,e,h⟩:=h;obtain⟨a,xs,rfl,q,t⟩:=r1.tup;obtain⟨z,e1,r⟩:=t.at e;exact Hy value slice pins s σ H _ _ v u Q I rx ry {a,xs,i,z,rfl,r2.int,.of q,e1,hR.now hS h r} hs)|_=>exact h.elim)|kt ds=>(cases e with|int i=>(obtain⟨d,e,h⟩:=h;obtain⟨a,xs,rfl,q,t⟩:=r1.kt;obtain⟨z,e1,r⟩:=t.at e;exact Hy value slice pins s σ H _ _ v u Q I rx ry {a,xs,i,z,rfl,r2.int,.inr q,e1,hR.now hS h r} hs)|_=>exact h.elim)|lU ds=>(cases e with|int i=>(obtain⟨d,e,h⟩:=h;obtain⟨a,xs,rfl,q,t⟩:=r1.lU;obtain⟨z,e1,r⟩:=t.at e;exact D_ value slice pins s σ H _ _ v u Q I rx ry {a,xs,i,z,rfl,r2.int,q.sq,e1,hR.now hS h r} hs)|_=>exact h.elim)|str w=>(cases e with|int i=>(obtain⟨c,e0,e,h⟩:=h;exact Po value slice pins s σ H _ _ v u Q I rx ry {w,i,c,r1.str,r2.int,e0,e,hR.now hS h<|fF _} hs)|_=>exact h.elim)|ref a=>(cases e with|int i=>(obtain⟨ds,d,e,e1,h⟩:=h;obtain⟨xs,e2,t⟩:=hS.lst e;obtain⟨z,e3,r⟩:=t.at e1;exact D_ value slice pins s σ H _ _ v u Q I rx ry {a,xs,i,z,r1.ref,r2.int,.of e2,e3,hR.now hS h r} hs)|str w=>(obtain⟨kvs,d,e,e1,h⟩:=h;cases r1.ref;cases r2.str;cases rx;obtain⟨o,g,_,e2⟩:=qZ (k:=.inr w) hS e;obtain⟨z,rfl,r⟩:=e2 d e1;exact tail_any (yZ I g) PySem.F.slot_dict_getitem.lookup (FC (by lia) I g ry λw' s' I' rP=>{z,H,I',rP,hR.now hS h r}) hs)|_=>exact h.elim)|_=>exact h.elim
theorem ix(hu:X.A.units+64<cLine)(ha:DE K X a ta)(hb:DE K X b tb)(hs:D9 b:=by exact λ_ _=>rfl)(hK:autoParam (X.K=K) qQJ):DE K X (.Subscript a b pos) (Qd ixD ta tb):=⟨λy=>(Tx (Y6 y.cx hK hu) (ha.of y) (hb.of y) hs).mono λ_ _ _ h=>h.op⟩
end
section
variable{K:Frag}{X:Cx}
abbrev RZ:=SD->au->(Option Int->au->Prop)->KX->Prop
def To(K:Frag)(E:St->XK)(t:RZ):TO:=λτ H Q=>∃σ S R Z,iJ K H σ τ/\Rs K S H/\t σ S R Z/\(∀o S' H',R o S'->Rs K S' H'->Kp K H H'->Q o H')/\FR K H Z (E τ)
structure DO(K:Frag)(X:Cx)(e:Option Expr)(t:RZ):Prop where
 of:∀{b:Bool}(y:Ev X b),PO y.cx e<|To K y.E t
theorem PO.mono{t t':TO}(h:PO X e t)(i:∀τ H Q,t' τ H Q->t τ H Q):PO X e t':=λpins s τ H Q I q=>h pins s τ H Q I<|i τ H Q q
def Us:RZ:=λ_ S R _=>R none S
inductive Ut (d:D) (S:au) (R:Option Int->au->Prop):Prop where
 |mk (i:Int) (h:d=.int i) (r:R (some i) S)
def Uu(t:TD):RZ:=λσ S R Z=>t σ S (λd S1=>Ut d S1 R) Z
theorem o0:DO K X none Us:=⟨λy=>(K_ (X:=y.cx)).mono <| by rintro τ H Q ⟨σ,S,R,Z,aB,hS,q,hR,hZ⟩;exact hR _ S H q hS<|.refl _⟩
theorem o1{t:TD}(h:DE K X e t):DO K X (some e) (Uu t):=⟨λy=>(La<|h.of y).mono <| by rintro τ H Q ⟨σ,S,R,Z,aB,hS,q,hR,hZ⟩;exact{σ,S,_,Z,aB,hS,q,by rintro d S1 x H1 ⟨i,e,r1⟩ v1 s1 k1;exact by subst e;exact{i,v1.int,hR _ S1 H1 r1 s1 k1},hZ}⟩
noncomputable def bK{α:Type}(xs:List α)(lo hi:Option Int):List α:=(xs.drop<|HT.sIx xs.length 0 lo).take<|HT.sIx xs.length xs.length hi-HT.sIx xs.length 0 lo
theorem RvAll.cut{H:Hp}{ds:List D}{xs:List V}(h:RvAll K H ds xs)(lo hi:Option Int):RvAll K H (bK ds lo hi) (Fy xs lo hi):=by unfold bK Fy;rw[h.len];exact(h.drop _).take _
def Y7(te:TD):TD:=λσ S R Z=>te σ S (λx S1=>∃i,x=.int i/\R (.int (-i)) S1) Z
theorem Ag(he:DE K X e te):DE K X (.UnaryOp .USub e pos) (Y7 te):=⟨λy=>(S_ Pe<|he.of y).mono <| by rintro τ H Q ⟨σ,S,R,Z,aB,hS,q,hR,hZ⟩;exact{σ,S,_,Z,aB,hS,q,by rintro d S1 x H1 ⟨i,e,r1⟩ v1 s1 k1;exact by subst e;exact{i,v1.int,hR _ S1 _ H1 r1 (aS _) s1 k1},hZ}⟩
def Y8(T:String)(S:au):D->Prop|.str _=>T ="str"|.ref a=>T ="list"/\∃ds,S a=some (.lst ds)|.lU _=>T ="list"|_=>False
theorem NF{H:Hp}{S:au}{T:String}{d:D}{v:V}(h:Y8 T S d)(hS:Rs K S H)(r:Rv K H d v):WE K T v H:=by cases d with|str z=>rw[r.str];exact h|ref a=>(obtain⟨e,ds,h⟩:=h;obtain⟨xs,e1,_⟩:=hS.lst h;rw[r.ref];exact .inl {e,xs,.of e1})|lU ds=>(obtain⟨a,xs,rfl,q,_⟩:=r.lU;exact .inl ⟨h,xs,q.sq⟩)|_=>exact h.elim
abbrev G_:=D->List D->au->KD->Prop
def Lm(K:Frag)(r:G_):V->List V->Hp->VK->Prop:=λx xs H Q=>∃d ds S R,Rv K H d x/\RvAll K H ds xs/\Rs K S H/\r d ds S R/\Cn K H R Q
def NG(K:Frag)(id:String)(r:G_):Prop:=∀X:Cx,X.K=K->RN X id (Lm K r)
def dBM(T:String)(r:G_)(to:TD)(t:jq):TD:=λσ S R Z=>to σ S (λx S1=>Y8 T S1 x/\t σ S1 (λds S2=>r x ds S2 R) Z) Z
def Y9(T:String)(r:G_)(to:TD):TD:=λσ S R Z=>to σ S (λx S1=>Y8 T S1 x/\r x [] S1 R) Z
theorem bm{o e:Expr}{es:List Expr}{T id:String}{name:Str}{r:G_}{to:TD}{t:jq}{apos aO:Pos}(pa:PlainAttrs T)(slot:Slot T name id)(Pt:typeOf (.builtin id)=pure (.type "method_descriptor"))(hm:NG K id r)(ho:DE K X o to)(ha:DA K X (e::es) t) (mK:autoParam (attributeBase o name X.env (eval o X.env)=eval o X.env) qQJ) (Pu:autoParam (((backTo aO<|starEach (e::es) X.env).all (λx=>!x.1)&&(backToKw aO<|keywordEach [] X.env).all (λx=>x.1.isSome)&&decide ((e::es).length+([]:List Keyword).length+(if ([]:List Keyword).isEmpty then 0 else 1)<30))=true) qQJ) (rQ:autoParam ((apos.endLine==aO.line)=true) qQJ) (hs:autoParam (starEach (e::es) X.env=(false,eval e X.env)::starEach es X.env) qQJ) (BR:autoParam ((backTo aO<|starEach es X.env).any (·.1)=false) qQJ) (hK:autoParam (X.K=K) qQJ): DE K X (.Call (.Attribute o name apos) (e::es) [] aO) (dBM T r to t):=by
 subst hK
 exact⟨λy=>(TB (X:=y.cx) pa slot Pt (hm _ rfl) (ho.of y) (ha.of y) mK Pu rQ hs BR).mono <| by rintro τ H Q ⟨σ,S,R,Z,aB,hS,q,hR,hZ⟩;exact
  ⟨σ,S,_,Z,aB,hS,q,by rintro d S1 x H1 ⟨h1,r1⟩ v1 s1 k1;exact⟨NF h1 s1 v1,σ,S1,_,Z,aB.ts k1,s1,r1,λds S2 xs H2 r2 v2 s2 k2=>⟨d,ds,S2,R,Rv.ts k2 _ v1,v2,s2,r2,hR.kp<|k1.trans k2⟩,hZ.kp k1⟩,hZ⟩⟩
theorem bm0{o:Expr}{T id:String}{name:Str}{r:G_}{to:TD}{apos aO:Pos}(pa:PlainAttrs T)(slot:Slot T name id)(Pt:typeOf (.builtin id)=pure (.type "method_descriptor"))(hm:NG K id r)(ho:DE K X o to) (mK:autoParam (attributeBase o name X.env (eval o X.env)=eval o X.env) qQJ) (rQ:autoParam ((apos.endLine==aO.line)=true) qQJ) (hK:autoParam (X.K=K) qQJ): DE K X (.Call (.Attribute o name apos) [] [] aO) (Y9 T r to):=by
 subst hK
 exact⟨λy=>(Pr (X:=y.cx) pa slot Pt (hm _ rfl) (ho.of y) mK rQ).mono <| by rintro τ H Q ⟨σ,S,R,Z,aB,hS,q,hR,hZ⟩;exact
  ⟨σ,S,_,Z,aB,hS,q,by rintro d S1 x H1 ⟨h1,r1⟩ v1 s1 k1;exact⟨NF h1 s1 v1,d,[],S1,R,v1,bD,s1,r1,hR.kp k1⟩,hZ⟩⟩
theorem RvAll.one(h:RvAll K H [d] xs):∃v,xs=[v]/\Rv K H d v:=by obtain⟨y,ys,rfl,h1,h2⟩:=h.cons;rw[h2.nil];exact⟨y,rfl,h1⟩
inductive Uv (x:D) (ds:List D) (S:au) (R:KD):Prop where
 |mk (a:Addr) (es:List D) (d:D) (e1:x=.ref a) (e2:ds=[d]) (e3:S a=some (.lst es)) (e4:es.length<sizeLine) (r:R .av<|S.set a<|.lst<|es++[d])
def LQ:G_:=λx ds S R=>Uv x ds S R
theorem cC:NG K "list.append" LQ:=by rintro X hK pins s σ H x xs v us Q I rx rs ⟨d,ds,S,R,r1,r2,hS,⟨a,es,y,e1,e2,e3,hl,h⟩,hR⟩;subst e1 e2;obtain⟨w0,rfl,q2⟩:=r2.one;obtain⟨zs,e4,t⟩:=hS.lst e3;exact FA pins s σ H x _ v us Q I rx rs {a,zs,w0,r1.ref,rfl,e4,by rw[t.len];exact hl,hR.put hS e3 h jG<|t.app<|aY q2 bD}
def Y_:G_:=λx ds S R=>∃a es d,x=.ref a/\ds=[]/\S a=some (.lst es)/\es[es.length-1]?=some d/\R d (S.set a<|.lst es.dropLast)
theorem Uw:NG K "list.pop" Y_:=by rintro X hK pins s σ H x xs v us Q I rx rs ⟨d,ds,S,R,r1,r2,hS,⟨a,es,y,e1,e2,e3,hl,h⟩,hR⟩;subst e1 e2;obtain⟨zs,e4,t⟩:=hS.lst e3;obtain⟨w,e5,r⟩:=t.get hl;exact Pw pins s σ H x _ v us Q I rx rs {a,zs,w,r1.ref,r2.nil,e4,by rw[t.len];exact e5,hR.put hS e3 h r t.dropLast}
def Qe:G_:=λx ds S R=>∃a es i k d,x=.ref a/\ds=[.int i]/\S a=some (.lst es)/\-(2^63)<=i/\i<2^63/\seqIndex? i es.length=some k/\es[k]?=some d/\R d (S.set a<|.lst<|es.eraseIdx k)
theorem LR:NG K "list.pop" Qe:=by rintro X hK pins s σ H x xs v us Q I rx rs ⟨d,ds,S,R,r1,r2,hS,⟨a,es,i,k,y,e1,e2,e3,h1,h2,h3,h4,h⟩,hR⟩;subst e1 e2;obtain⟨w0,rfl,q2⟩:=r2.one;obtain⟨zs,e4,t⟩:=hS.lst e3;obtain⟨w,e5,r⟩:=t.get h4;exact HB pins s σ H x _ v us Q I rx rs {a,zs,i,k,w,r1.ref,by rw[q2.int],e4,h1,h2,by rw[t.len];exact h3,e5,hR.put hS e3 h r<|t.erase k}
def LS:G_:=λx ds S R=>∃(es:List D)(d:D)(j:Nat),ds=[d]/\we S x es/\je d=true/\es.all je=true/\(∃z,es[j]?=some z/\eqV (jI z) (jI d)=true)/\(∀m u,m<j->es[m]?=some u->eqV (jI u) (jI d)=false)/\R (.int j) S
theorem Ah:NG K "list.index" LS:=by rintro X hK pins s σ H x xs v us Q I rx rs ⟨d,ds,S,R,r1,r2,hS,⟨es,y,j,e2,e3,f1,f2,⟨z,e4,e5⟩,h4,h⟩,hR⟩;subst hK e2;obtain⟨w0,rfl,q2⟩:=r2.one;obtain⟨a,zs,rfl,q,t⟩:=e3.at hS r1;obtain⟨g1,g2⟩:=jJ f1 q2;obtain⟨g3,g4⟩:=gy f2 t;subst g1 g3;refine FQ pins s σ H _ _ v us Q I rx rs {a,_,_,jI z,j,rfl,rfl,q,g2,g4,by rw[zk,e4];rfl,e5,λm u hm e=>?_,hR.now hS h<|aS _};rw[zk]at e;cases q2:es[m]? with|none=>(rw[q2]at e;cases e)|some u'=>rw[q2]at e;cases e;exact h4 m u' hm q2
def LU:G_:=λx ds S R=>∃z y,x=.str z/\ds=[.str y]/\R (.bl<|PySem.Txt.startswith z y) S
theorem Ih:NG K "str.startswith" LU:=by rintro X hK pins s σ H x xs v us Q I rx rs ⟨d,ds,S,R,r1,r2,hS,⟨z,y,e1,e2,h⟩,hR⟩;subst e1 e2;obtain⟨w0,rfl,q2⟩:=r2.one;exact uq pins s σ H _ _ v us Q I rx rs {z,y,r1.str,by rw[q2.str],hR.now hS h<|bJ _}
def Ux(S:au)(R:KD):D->Prop|.str z=>z.length<=sizeLine/\R (.int z.length) S|.tup es=>R (.int es.length) S|.kt es=>R (.int es.length) S|.lU es=>R (.int es.length) S|.ref a=>(∃es,S a=some (.lst es)/\R (.int es.length) S)\/∃kvs,S a=some (.cO kvs)/\R (.int kvs.length) S|_=>False
inductive Uy (ds:List D) (S:au) (R:KD):Prop where
 |mk (x:D) (h:ds=[x]) (r:Ux S R x)
def Za:List D->au->KD->Prop:=λds S R=>Uy ds S R
theorem aQ:jd K (.builtin "len") Za:=by rintro X hK hc pins s σ H xs us Q I rx ⟨ds,S,R,r,hS,⟨x,e,h⟩,hR⟩;subst hK e;obtain⟨w,rfl,r'⟩:=r.one;cases x with|str z=>(cases r'.str;exact jA pins s σ H _ us Q I rx {_,_,rfl,⟨h.1,rfl⟩,hR.now hS h.2<|aS _})|tup es=>(obtain⟨a,xs,rfl,q,t⟩:=r'.tup;exact jA pins s σ H _ us Q I rx {_,_,rfl,.inr {xs,.of q,t.len.symm},hR.now hS h<|aS _})|kt es=>(obtain⟨a,xs,rfl,q,t⟩:=r'.kt;exact jA pins s σ H _ us Q I rx {_,_,rfl,.inr {xs,.inr q,t.len.symm},hR.now hS h<|aS _})|lU es=>(obtain⟨a,xs,rfl,q,t⟩:=r'.lU;exact jA pins s σ H _ us Q I rx {_,_,rfl,.inl ⟨xs,q.sq,t.len.symm⟩,hR.now hS h<|aS _})|ref a=>(cases r'.ref;rcases h with⟨es,e,h⟩|⟨kvs,e,h⟩;obtain⟨xs,e1,t⟩:=hS.lst e;exact jA pins s σ H _ us Q I rx {_,_,rfl,.inl {xs,.of e1,t.len.symm},hR.now hS h<|aS _};obtain⟨xs,e1,t⟩:=hS.cO e;exact FG pins s σ H _ us Q I rx {a,xs,rfl,e1,by rw[t.len];exact hR.now hS h<|aS _})|_=>exact h.elim
def Qf(S:au):D->Kd->Prop|.av,k=>k=.av|.bl _,k=>k=.bl|.int _,k=>k=.int|.str _,k=>k=.str|.ref a,k=>(k=.lst/\∃ds,S a=some (.lst ds))\/(k=.cO/\∃ds,S a=some (.cO ds))|.tup _,k=>k=.tup|_,_=>False
theorem Uz(h:Qf S d k)(hS:Rs K S H)(r:Rv K H d v):rZ H v k:=by cases d with|av=>(cases h;rw[r.av];exact .av)|bl b=>(cases h;rw[r.bl];exact .bl b)|int b=>(cases h;rw[r.int];exact .int b)|str b=>(cases h;rw[r.str];exact .str b)|tup b=>(cases h;obtain⟨a,xs,rfl,q,_⟩:=r.tup;exact .tup q)|ref a=>(rw[r.ref];rcases h with⟨rfl,ds,h⟩|⟨rfl,ds,h⟩;obtain⟨xs,e,_⟩:=hS.lst h;exact .lst e;obtain⟨xs,e,_⟩:=hS.cO h;exact .cO e)|_=>exact h.elim
inductive UA (ds:List D) (S:au) (R:KD):Prop where
 |mk (x:D) (n:String) (k:Kd) (g:Kd->Bool) (e:ds=[x,.ty n]) (a:y7 n=some g) (b:Qf S x k) (r:R (.bl<|g k) S)
def Zb:List D->au->KD->Prop:=λds S R=>UA ds S R
theorem RvAll.two(h:RvAll K H [d,e] xs):∃v u,xs=[v,u]/\Rv K H d v/\Rv K H e u:=by obtain⟨y,ys,rfl,h1,h2⟩:=h.cons;obtain⟨u,rfl,h3⟩:=h2.one;exact⟨y,u,rfl,h1,h3⟩
theorem dk:jd K (.builtin "isinstance") Zb:=by rintro X hK hc pins s σ H xs us Q I rx ⟨ds,S,R,r,hS,⟨x,n,k,g,e,h1,h2,h⟩,hR⟩;subst hK e;obtain⟨v,u,rfl,r1,r2⟩:=r.two;rw[r2.ty]at rx;exact HR pins s σ H _ us Q I rx {v,n,k,g,rfl,h1,Uz h2 hS r1,hR.now hS h<|bJ _}
inductive UB (ds:List D) (S:au) (f:List Bool->Bool) (R:KD):Prop where
 |mk (x:D) (bs:List Bool) (e:ds=[x]) (h:we S x<|bs.map D.bl) (r:R (.bl<|f bs) S)
def UC:List D->au->KD->Prop:=λds S R=>UB ds S (λbs=>bs.all id) R
theorem k_:jd K (.builtin "all") UC:=by rintro X hK hc pins s σ H xs us Q I rx ⟨ds,S,R,r,hS,⟨x,bs,e,h1,h⟩,hR⟩;subst hK e;obtain⟨v,rfl,r1⟩:=r.one;obtain⟨a,zs,rfl,q,t⟩:=h1.at hS r1;rw[t.bools]at q;exact ui hc pins s σ H _ us Q I rx {a,bs,rfl,q,hR.now hS h<|bJ _}
def Zc:List D->au->KD->Prop:=λds S R=>∃(x:D)(bs:List Bool),ds=[x]/\we S x (bs.map D.bl)/\R (.bl<|bs.any id) S
theorem UD:jd K (.builtin "any") Zc:=by rintro X hK hc pins s σ H xs us Q I rx ⟨ds,S,R,r,hS,⟨x,bs,e,h1,h⟩,hR⟩;subst hK e;obtain⟨v,rfl,r1⟩:=r.one;obtain⟨a,zs,rfl,q,t⟩:=h1.at hS r1;rw[t.bools]at q;exact uj hc pins s σ H _ us Q I rx {a,bs,rfl,q,hR.now hS h<|bJ _}
def intD:List D->au->KD->Prop:=λds S R=>(∃i,ds=[.int i]/\R (.int i) S)\/∃k,ds=[.bl k]/\R (.int<|if k then 1 else 0) S
theorem NH:jd K (.type "int") intD:=by rintro X hK hc pins s σ H xs us Q I rx ⟨ds,S,R,r,hS,h,hR⟩;rcases h with⟨i,rfl,h⟩|⟨k,rfl,h⟩;obtain⟨v,rfl,r1⟩:=r.one;exact uT pins s σ H _ us Q I rx<|.inl {i,by rw[r1.int],hR.now hS h<|aS _};obtain⟨v,rfl,r1⟩:=r.one;exact uT pins s σ H _ us Q I rx<|.inr {k,by rw[r1.bl],hR.now hS h<|aS _}
inductive UE (ds:List D) (S:au) (R:KD):Prop where
 |mk (x:D) (es:List D) (e:ds=[x]) (h:we S x es\/x=.tup es) (r:R (.tup es) S)
def Qg:List D->au->KD->Prop:=λds S R=>UE ds S R
theorem gz:jd K (.type "tuple") Qg:=by rintro X hK hc pins s σ H xs us Q I rx ⟨ds,S,R,r,hS,⟨x,es,e,h1,h⟩,hR⟩;subst hK e;obtain⟨v,rfl,r1⟩:=r.one;rcases h1 with h1|rfl;obtain⟨a,zs,rfl,q,t⟩:=h1.at hS r1;exact k9 pins s σ H _ us Q I rx {a,zs,rfl,.inl {q,λp hp=>hR.YY hS hp h t}};obtain⟨a,zs,rfl,q,t⟩:=r1.tup;exact k9 pins s σ H _ us Q I rx {a,zs,rfl,.inr {.of q,hR.now hS h<|ow q t}}
def minD(f:Int->Int->Bool):List D->au->KD->Prop:=λds S R=>∃i j,ds=[.int i,.int j]/\R (.int<|if f j i then j else i) S
theorem NI:jd K (.builtin "min") (minD λa b=>decide<|a<b):=by rintro X hK hc pins s σ H xs us Q I rx ⟨ds,S,R,r,hS,⟨i,j,e,h⟩,hR⟩;subst e;obtain⟨v,u,rfl,r1,r2⟩:=r.two;refine Ft hc pins s σ H _ us Q I rx {i,j,by rw[r1.int,r2.int],?_};have:=hR.now hS h<|aS _;simpa using this
theorem NJ:jd K (.builtin "max") (minD λa b=>decide<|b<a):=by rintro X hK hc pins s σ H xs us Q I rx ⟨ds,S,R,r,hS,⟨i,j,e,h⟩,hR⟩;subst e;obtain⟨v,u,rfl,r1,r2⟩:=r.two;refine Fq hc pins s σ H _ us Q I rx {i,j,by rw[r1.int,r2.int],?_};have:=hR.now hS h<|aS _;simpa using this
end
abbrev kO:=List D->au->KD->KX->Prop
def q8(K:Frag)(sp:kO):Sp:=λvs H Q e=>∃ds S R Z,RvAll K H ds vs/\Rs K S H/\sp ds S R Z/\Cn K H R Q/\FR K H Z e
section
variable{K:Frag}{X:Cx}{k:Nat}{f C:Addr}{fd:FuncData}{ps:List Str}{sp:Sp}{qA:List V}{ds:List Value}{x m:Str}{p pos apos:Pos}{e o:Expr}{es:List Expr}{b:Bool}{y:Ev X b}
theorem wj(F:bI X.prog X.w X.K X.mg X.base (fE X.prog X.w X.mg) k f fd ps sp)(hr:bW k X.A)(hb:Binds X.K fd ps ds)(hd:Vals qA ds) (I:Inv y.cx p2 σ H s) (r:Vals vs us) (h:sp (vs++qA) H Q<|y.E σ):wpAny (model X.prog X.w) X.A (call (.ref f) us) (EP y.cx p2 σ Q) y.xe s:=by
 have r2:Vals (vs++qA) (us++ds):=r.append hd;have hl:(us++ds).length=ps.length:=by rw[<-r2.length];exact F.len _ _ _ _ h
 refine wpAny_call<|yT (F.run X.A X.stack s H {us,[]} (us++ds) (vs++qA) Q (y.E σ) hr I.Tr (hb s us I.pN hl) r2 h) λres s' hq=>?_;cases res with|error e=>exact y.ok.call p2 σ H s e s' I hq|ok fl=>cases fl with|ret u=>exact I.after hq|next=>exact False.elim hq|brk=>exact False.elim hq|cont=>exact False.elim hq
theorem Ii{t:TA}(F:bI X.prog X.w X.K X.mg X.base (fE X.prog X.w X.mg) k f fd ps sp)(hr:bW k X.A)(hg:Gl X x)(hm:X.mg x=some (.ref f))(hk:keepIn X.K (.ref f)=true)(hb:Binds X.K fd ps ds)(hd:Vals qA ds) (ha:PA y.cx (e::es) t) (qB:(x==("__debug__": Str))=false) (he:starEach (e::es) X.env=(false,eval e X.env)::starEach es X.env) (dN:(backTo pos<|starEach es X.env).any (·.1)=false): PE y.cx (.Call (.Name x p) (e::es) [] pos) (λσ H Q=>t σ H λvs H1=>sp (vs++qA) H1 Q<|y.E σ):=by intro p2 s σ H Q I h;refine wpAny_Call_Name_kw<|qQ I hg hm ?_ qB;refine callWith_K (h₀:=X.base) I.ok.mod.RK hk (bt (ha pos p2 s σ H _ I h) λus s1 ⟨vs,H1,I1,r,q⟩=>{I1.pN,?_}) he dN;exact wj F hr hb hd I1 r q
theorem Ij{pl:Sem Bool}{ta:TE}{t:TA}(he:PE y.cx o ta)(c:qW X.K C)(hm:Meth X.K C m f)(F:bI X.prog X.w X.K X.mg X.base (fE X.prog X.w X.mg) k f fd ps sp)(hr:bW k X.A)(hb:Binds X.K fd ps ds)(hd:Vals qA ds)(ha:PA y.cx (e::es) t)
  (x6:starEach (e::es) X.env=(false,eval e X.env)::starEach es X.env) (dN:(backTo pos<|starEach es X.env).any (·.1)=false)
  (ht:eval (.Call (.Attribute o m apos) (e::es) [] pos) X.env=(do
   let ov <-eval o X.env
   standAt apos.atName
   let (f,first) <-holding [ov] (getMethod ov m pl)
   callWith pos f first (backTo pos<|starEach (e::es) X.env) (backToKw pos<|keywordEach [] X.env))):
  PE y.cx (.Call (.Attribute o m apos) (e::es) [] pos) (λσ H Q=>ta σ H λx H1=>∃a dx fs,x=.ref a/\H1 a=some (.ins C dx fs)/\fs.lookup m=none/\t σ H1 λvs H2=>sp (x::(vs++qA)) H2 Q<|y.E σ):=by
 intro p2 s σ H Q I h
 refine methodCall_KW (pl:=pl) (bt (he p2 s σ H _ I h) λu s1 ⟨x,H1,I1,rx,a,dx,fs,ex,ea,l,q⟩=>?_) ht
 subst ex
 obtain rfl:u=Value.ref a:=rx
 refine rO I1 ea c hm l ?_
 refine callWith_K (first:=[.ref a]) (h₀:=X.base) I.ok.mod.RK hm.kp (bt (ha pos p2 s1 σ H1 _ I1 q) λus s2 ⟨vs,H2,I2,r,q2⟩=>{I2.pN,?_}) x6 dN
 exact wj (us:=.ref a::us) (vs:=.ref a::vs) F hr hb hd I2 (.cons rfl r) q2
theorem FT(he:PE y.cx o ta)(c:qW X.K C)(hm:Meth X.K C m f)(F:bI X.prog X.w X.K X.mg X.base (fE X.prog X.w X.mg) k f fd ps sp)(hr:bW k X.A)(hb:Binds X.K fd ps ds)(hd:Vals qA ds)
  (ht:eval (.Call (.Attribute o m apos) [] [] pos) X.env=(do
   let ov <-eval o X.env
   standAt apos.atName
   let (f,first) <-holding [ov] (getMethod ov m pl)
   callWith pos f first (backTo pos<|starEach [] X.env) (backToKw pos<|keywordEach [] X.env))):
  PE y.cx (.Call (.Attribute o m apos) [] [] pos) (λσ H Q=>ta σ H λx H1=>∃a dx fs,x=.ref a/\H1 a=some (.ins C dx fs)/\fs.lookup m=none/\sp (x::qA) H1 Q (y.E σ)):=by
 intro p2 s σ H Q I h
 refine methodCall_KW (pl:=pl) (bt (he p2 s σ H _ I h) λu s1 ⟨x,H1,I1,rx,a,dx,fs,ex,ea,l,q⟩=>?_) ht
 subst ex
 obtain rfl:u=Value.ref a:=rx
 refine rO I1 ea c hm l ?_
 exact PySem.W.callWith_K0 (first:=[.ref a]) I1.pN hm.kp<|wj (us:=[.ref a]) (vs:=[.ref a]) F hr hb hd I1 (.cons rfl .nil) q
theorem FU(M:Mk X.K C f)(F:bI X.prog X.w X.K X.mg X.base (fE X.prog X.w X.mg) k f fd ps sp)(hr:bW (k+1) X.A)(hb:Binds X.K fd ps ds)(hd:Vals qA ds) (I:Inv y.cx p2 σ H s) (r:Vals vs us) (h:∀x dx,H x=none->H dx=none->dx≠x->sp (.ref x::(vs++qA)) (upd (upd H dx<|.own x) x<|.ins C dx []) (λv H2=>v=.av/\Q (.ref x) H2) (y.E σ)): wpAny (model X.prog X.w) X.A (call (.ref C) us) (EP y.cx p2 σ Q) y.xe s:=by
 have hq:=h (s.heap.objs.size+1) s.heap.objs.size (I.aL.fresh<|yS _) (I.aL.fresh<|zr _)<|zB<|Nat.lt_succ_self _;have I2:=Inv.made (C:=C) I;have r2:Vals (V.ref (s.heap.objs.size+1)::(vs++qA)) (Value.ref (s.heap.objs.size+1)::(us++ds)):=.cons rfl<|r.append hd;have hl:(Value.ref (s.heap.objs.size+1)::us++ds).length=ps.length:=by have e:=r2.length;rw[F.len _ _ _ _ hq]at e;exact e.symm
 refine wpAny_call<|Hv (f:=f) I.pN M.makes M.init (beq_iff_eq.mp M.fn)<|yT (F.run _ X.stack _ _ {Value.ref (s.heap.objs.size+1)::us,[]} (Value.ref (s.heap.objs.size+1)::(us++ds)) _ _ (y.E σ) (hr.make C us []) (I2.Tr.make C us []) (hb _ (Value.ref (s.heap.objs.size+1)::us) I2.pN hl) r2 hq) λr s' Ha=>?_;cases r with|error e=>exact y.ok.call p2 σ _ _ e s' I2 Ha|ok fl=>cases fl with|ret u=>(obtain⟨v,H',I3,rv,ev,q3⟩:=I2.after Ha;subst ev;exact{rv,{V.ref<|s.heap.objs.size+1,H',I3,rfl,q3}})|next=>exact False.elim Ha|brk=>exact False.elim Ha|cont=>exact False.elim Ha
theorem Ik{t:TA}(M:Mk X.K C f)(F:bI X.prog X.w X.K X.mg X.base (fE X.prog X.w X.mg) k f fd ps sp)(hr:bW (k+1) X.A)(hg:Gl X x)(hm:X.mg x=some (.ref C))(hb:Binds X.K fd ps ds)(hd:Vals qA ds) (ha:PA y.cx (e::es) t) (qB:(x==("__debug__": Str))=false) (he:starEach (e::es) X.env=(false,eval e X.env)::starEach es X.env) (dN:(backTo pos<|starEach es X.env).any (·.1)=false): PE y.cx (.Call (.Name x p) (e::es) [] pos) (λσ H Q=>t σ H λvs H1=>∀x dx,H1 x=none->H1 dx=none->dx≠x->sp (.ref x::(vs++qA)) (upd (upd H1 dx<|.own x) x<|.ins C dx []) (λv H2=>v=.av/\Q (.ref x) H2) (y.E σ)):=by intro p2 s σ H Q I h;refine wpAny_Call_Name_kw<|qQ I hg hm ?_ qB;refine callWith_K (h₀:=X.base) I.ok.mod.RK M.kp (bt (ha pos p2 s σ H _ I h) λus s1 ⟨vs,H1,I1,r,q⟩=>{I1.pN,?_}) he dN;exact FU M F hr hb hd I1 r q
end
section
variable{K:Frag}{X:Cx}{k:Nat}{f C:Addr}{fd:FuncData}{ps:List Str}{sp:kO}{Ai:List D}{qA:List V}{ds:List Value}{x m:Str}{p pos apos:Pos}{e o:Expr}{es:List Expr}
structure R1(K:Frag)(Ai:List D)(qA:List V)(ds:List Value):Prop where
 v:Vals qA ds
 d:∀H,RvAll K H Ai qA
theorem d0:R1 K [] [] []:={.nil,λ_=>bD}
theorem d1:R1 K [.av] [.av] [.none]:={.cons rfl .nil,λ_=>aY jG bD}
def NK(sp:kO)(Ai:List D)(t:jq):TD:=λσ S R Z=>t σ S (λds S1=>sp (ds++Ai) S1 R Z) Z
theorem cf{t:jq}(F:bI X.prog X.w K X.mg X.base (fE X.prog X.w X.mg) k f fd ps<|q8 K sp)(hr:bW k X.A)(hm:X.mg x=some (.ref f))(hk:keepIn K (.ref f)=true)(hb:Binds K fd ps ds)(hd:R1 K Ai qA ds)(ha:DA K X (e::es) t) (hg:autoParam (Gl X x) qQJ) (qB:autoParam ((x==("__debug__": Str))=false) qQZ) (he:autoParam (starEach (e::es) X.env=(false,eval e X.env)::starEach es X.env) qQJ) (dN:autoParam ((backTo pos<|starEach es X.env).any (·.1)=false) qQJ) (hK:autoParam (X.K=K) qQJ): DE K X (.Call (.Name x p) (e::es) [] pos) (NK sp Ai t):=by
 subst hK
 exact⟨λy=>(Ii F hr hg hm hk hb hd.v (ha.of y) qB he dN).mono <| by rintro τ H Q ⟨σ,S,R,Z,aB,hS,q,hR,hZ⟩;exact
  ⟨σ,S,_,Z,aB,hS,q,λes S1 xs H1 r1 v1 s1 k1=>⟨es++Ai,S1,R,Z,v1.app<|hd.d _,s1,r1,hR.kp k1,hZ.kp k1⟩,hZ⟩⟩
inductive MeR (C:Addr) (m:Str) (x:D) (S:au) (p:Prop):Prop where
 |mk (a:Addr) (fs:List<|Str×D) (e1:x=.ref a) (e2:S a=some (.ins C fs)) (e3:fs.lookup m=none) (r:p)
def Ei(C:Addr)(m:Str)(sp:kO)(Ai:List D)(ta:TD)(t:jq):TD:=λσ S R Z=>ta σ S (λx S1=>MeR C m x S1<|t σ S1 (λds S2=>sp (x::(ds++Ai)) S2 R Z) Z) Z
theorem Zd{t:jq}(he:DE K X o ta)(c:qW K C)(hm:Meth K C m f)(F:bI X.prog X.w K X.mg X.base (fE X.prog X.w X.mg) k f fd ps<|q8 K sp)(hr:bW k X.A)(hb:Binds K fd ps ds)(hd:R1 K Ai qA ds)(ha:DA K X (e::es) t)
  (x6:autoParam (starEach (e::es) X.env=(false,eval e X.env)::starEach es X.env) qQJ) (dN:autoParam ((backTo pos<|starEach es X.env).any (·.1)=false) qQJ)
  (ht:autoParam (eval (.Call (.Attribute o m apos) (e::es) [] pos) X.env=(do
   let ov <-eval o X.env
   standAt apos.atName
   let (f,first) <-holding [ov] (getMethod ov m pl)
   callWith pos f first (backTo pos<|starEach (e::es) X.env) (backToKw pos<|keywordEach [] X.env))) qQJ) (hK:autoParam (X.K=K) qQJ):
  DE K X (.Call (.Attribute o m apos) (e::es) [] pos) (Ei C m sp Ai ta t):=by
 subst hK
 exact⟨λy=>(Ij (he.of y) c hm F hr hb hd.v (ha.of y) x6 dN ht).mono <| by rintro τ H Q ⟨σ,S,R,Z,aB,hS,q,hR,hZ⟩;exact
  ⟨σ,S,_,Z,aB,hS,q,by
   rintro d S1 x H1 ⟨a,fs,e1,e2,e3,r1⟩ v1 s1 k1
   subst e1
   obtain⟨dx,vs,e4,t4⟩:=s1.ins e2
   exact{a,dx,vs,v1.ref,e4,(t4.look m).2 e3,σ,S1,_,Z,aB.ts k1,s1,r1,λes S2 xs H2 r2 v2 s2 k2=>{_,S2,R,Z,aY (Rv.ts k2 _ v1)<|v2.app<|hd.d _,s2,r2,hR.kp<|k1.trans k2,hZ.kp<|k1.trans k2},hZ.kp k1},hZ⟩⟩
theorem Ze(he:DE K X o ta)(c:qW K C)(hm:Meth K C m f)(F:bI X.prog X.w K X.mg X.base (fE X.prog X.w X.mg) k f fd ps<|q8 K sp)(hr:bW k X.A)(hb:Binds K fd ps ds)(hd:R1 K Ai qA ds)
  (ht:autoParam (eval (.Call (.Attribute o m apos) [] [] pos) X.env=(do
   let ov <-eval o X.env
   standAt apos.atName
   let (f,first) <-holding [ov] (getMethod ov m pl)
   callWith pos f first (backTo pos<|starEach [] X.env) (backToKw pos<|keywordEach [] X.env))) qQJ) (hK:autoParam (X.K=K) qQJ):
  DE K X (.Call (.Attribute o m apos) [] [] pos) (Ei C m sp Ai ta LO):=by
 subst hK
 exact⟨λy=>(FT (he.of y) c hm F hr hb hd.v ht).mono <| by rintro τ H Q ⟨σ,S,R,Z,aB,hS,q,hR,hZ⟩;exact
  ⟨σ,S,_,Z,aB,hS,q,by
   rintro d S1 x H1 ⟨a,fs,e1,e2,e3,r1⟩ v1 s1 k1
   subst e1
   obtain⟨dx,vs,e4,t4⟩:=s1.ins e2
   exact{a,dx,vs,v1.ref,e4,(t4.look m).2 e3,_,S1,R,Z,aY v1<|hd.d _,s1,r1,hR.kp k1,hZ.kp k1},hZ⟩⟩
def UG(C:Addr)(sp:kO)(Ai:List D)(t:jq):TD:=λσ S R Z=>t σ S (λds S1=>∀x,S1 x=none->sp (.ref x::(ds++Ai)) (S1.set x<|.ins C []) (λd S2=>d=.av/\R (.ref x) S2) Z) Z
theorem mk{t:jq}(M:Mk K C f)(F:bI X.prog X.w K X.mg X.base (fE X.prog X.w X.mg) k f fd ps<|q8 K sp)(hr:bW (k+1) X.A)(hm:X.mg x=some (.ref C))(hb:Binds K fd ps ds)(hd:R1 K Ai qA ds)(ha:DA K X (e::es) t) (hg:autoParam (Gl X x) qQJ) (qB:autoParam ((x==("__debug__": Str))=false) qQZ) (he:autoParam (starEach (e::es) X.env=(false,eval e X.env)::starEach es X.env) qQJ) (dN:autoParam ((backTo pos<|starEach es X.env).any (·.1)=false) qQJ) (hK:autoParam (X.K=K) qQJ): DE K X (.Call (.Name x p) (e::es) [] pos) (UG C sp Ai t):=by
 subst hK
 exact⟨λy=>(Ik M F hr hg hm hb hd.v (ha.of y) qB he dN).mono <| by rintro τ H Q ⟨σ,S,R,Z,aB,hS,q,hR,hZ⟩;exact
  ⟨σ,S,_,Z,aB,hS,q,λes S1 xs H1 r1 v1 s1 k1 x dx hx hdx ne=>by
   have LV:upd H1 dx (.own x) x=none:=by rw[aw ne.symm];exact hx
   have k2:Kp X.K H1 (upd (upd H1 dx<|.own x) x<|.ins C dx []):=(Kp.new hdx).trans<|Kp.new LV
   exact{_,_,_,Z,aY (iH x)<|RvAll.ts k2 _<|v1.app<|hd.d _,(s1.grow hdx).new (c:=.ins C []) LV {dx,[],aF,.nil},r1 x<|s1.fresh hx,by rintro d S2 v H2 ⟨e,r2⟩ v2 s2 k3;exact by subst e;exact{v2.av,hR _ _ _ _ r2 (iH x) s2<|(k1.trans k2).trans k3},(hZ.kp k1).kp k2},hZ⟩⟩
inductive FlR (C:Addr) (f:Str) (x:D) (S:au) (R:KD):Prop where
 |mk (a:Addr) (fs:List<|Str×D) (d:D) (e1:x=.ref a) (e2:S a=some (.ins C fs)) (e3:fs.lookup f=some d) (r:R d S)
def Zg(C:Addr)(f:Str)(ta:TD):TD:=λσ S R Z=>ta σ S (λx S1=>FlR C f x S1 R) Z
theorem fl{f:Str}{ta:TD}(c:qW K C)(n:jB K C f)(he:DE K X e ta)(hb:autoParam (attributeBase e f X.env (eval e X.env)=eval e X.env) qQJ)(hK:autoParam (X.K=K) qQJ):DE K X (.Attribute e f pos) (Zg C f ta):=by
 subst hK
 exact⟨λy=>(Ph (X:=y.cx) (he.of y) hb).mono <| by rintro τ H Q ⟨σ,S,R,Z,aB,hS,q,hR,hZ⟩;exact
  ⟨σ,S,_,Z,aB,hS,q,by
   rintro d S1 x H1 ⟨a,fs,y,e1,e2,e3,r1⟩ v1 s1 k1
   subst e1
   obtain⟨dx,vs,e4,t4⟩:=s1.ins e2
   obtain⟨v,e5,r5⟩:=(t4.look f).1 y e3
   exact{a,C,dx,vs,v,v1.ref,e4,c,n,e5,(hR.kp k1).now s1 r1 r5},hZ⟩⟩
end
structure u9 where
 nx:SD->au->Prop
 rt:KD
 bk:SD->au->Prop:=λ_ _=>False
 ct:SD->au->Prop:=λ_ _=>False
abbrev mT:=u9->SD->au->(SD->KX)->Prop
def NL(K:Frag)(H:Hp)(R:SD->au->Prop)(Q:St->Hp->Prop):Prop:=∀σ S τ H',R σ S->iJ K H' σ τ->Rs K S H'->Kp K H H'->Q τ H'
structure WS(K:Frag)(H:Hp)(De:u9)(Dv:Ends):Prop where
 nx:NL K H De.nx Dv.nx
 rt:Cn K H De.rt Dv.rt
 bk:NL K H De.bk Dv.bk
 ct:NL K H De.ct Dv.ct
def Aj(K:Frag)(H:Hp)(Z:SD->KX)(E:St->XK):Prop:=∀σ τ C S H',Z σ C S->iJ K H' σ τ->Rs K S H'->Kp K H H'->E τ (.ref C) none H'
section
variable{K:Frag}{H H1:Hp}{De:u9}{Dv:Ends}{Z:SD->KX}{E:St->XK}{σ:SD}{τ:St}{S:au}
theorem NL.kp(h:NL K H R Q)(k:Kp K H H1):NL K H1 R Q:=λσ S τ H' r a b c=>h σ S τ H' r a b<|k.trans c
theorem WS.kp(h:WS K H De Dv)(k:Kp K H H1):WS K H1 De Dv:={h.nx.kp k,h.rt.kp k,h.bk.kp k,h.ct.kp k}
theorem Aj.kp(h:Aj K H Z E)(k:Kp K H H1):Aj K H1 Z E:=λσ τ C S H' r a b c=>h σ τ C S H' r a b<|k.trans c
theorem Aj.at(h:Aj K H Z E)(r:iJ K H σ τ):FR K H (Z σ) (E τ):=λC S H' z s k=>h σ τ C S H' z (r.ts k) s k
theorem Aj.on(h:Aj K H Z E)(k:Kp K H H1)(r:iJ K H1 σ τ):FR K H1 (Z σ) (E τ):=(h.kp k).at r
end
def Tl(K:Frag)(E:St->XK)(t:mT):TS:=λDv τ H=>∃σ S De Z,iJ K H σ τ/\Rs K S H/\t De σ S Z/\WS K H De Dv/\Aj K H Z E
structure DS(K:Frag)(X:Cx)(b:Bool)(st:Stmt)(t:mT):Prop where
 of:∀y:Ev X b,PS y.cx st<|Tl K y.E t
structure Hb(K:Frag)(X:Cx)(b:Bool)(st:List Stmt)(t:mT):Prop where
 of:∀y:Ev X b,DU y.cx st<|Tl K y.E t
theorem PS.mono{t t':TS}(h:PS X e t)(i:∀D τ H,t' D τ H->t D τ H):PS X e t':=λpins s τ H D I q=>h pins s τ H D I<|i D τ H q
theorem DU.mono{t t':TS}(h:DU X e t)(i:∀D τ H,t' D τ H->t D τ H):DU X e t':=λpins s τ H D I q=>h pins s τ H D I<|i D τ H q
section
variable{K:Frag}{X:Cx}{b:Bool}{pos:Pos}
def UH:mT:=λDe σ S _=>De.nx σ S
def Zh(t u:mT):mT:=λDe σ S Z=>t {De with nx:=λaI S'=>u De aI S' Z} σ S Z
theorem s0:Hb K X b [] UH:=⟨λy=>(KO (X:=y.cx)).mono <| by rintro D τ H ⟨σ,S,De,Z,aB,hS,q,hD,hZ⟩;exact hD.nx _ _ _ _ q aB hS<|.refl _⟩
theorem sc{st:Stmt}{r:List Stmt}{t u:mT}(h1:DS K X b st t)(h2:Hb K X b r u):Hb K X b (st::r) (Zh t u):=
 ⟨λy=>(Hj (h1.of y)<|h2.of y).mono <| by rintro D τ H ⟨σ,S,De,Z,aB,hS,q,hD,hZ⟩;exact
  ⟨σ,S,_,Z,aB,hS,q,⟨λxS S1 Zi H1 r1 a b c=>⟨xS,S1,De,Z,a,b,r1,hD.kp c,hZ.kp c⟩,hD.rt,hD.bk,hD.ct⟩,hZ⟩⟩
theorem s1{st:Stmt}{t:mT}(h:DS K X b st t):Hb K X b [st] t:=⟨λy=>KP<|h.of y⟩
def UI(t:TD):mT:=λDe σ S Z=>t σ S (λ_ S1=>De.nx σ S1)<|Z σ
theorem se{t:TD}(h:DE K X e t)(hs:autoParam (swapsWith e none pos.line X.env=pure false) qQJ):DS K X b (.Expr e pos) (UI t):=⟨λy=>(KQ (X:=y.cx) (h.of y) hs).mono <| by rintro D τ H ⟨σ,S,De,Z,aB,hS,q,hD,hZ⟩;exact{σ,S,_,_,aB,hS,q,λd S1 v H1 r1 _ s1 k1=>hD.nx _ _ _ _ r1 (aB.ts k1) s1 k1,hZ.at aB}⟩
def Zj(t:TD):mT:=λDe σ S Z=>t σ S De.rt<|Z σ
theorem sr{t:TD}(h:DE K X e t):DS K X b (.Return (some e) pos) (Zj t):=⟨λy=>(OW<|h.of y).mono <| by rintro D τ H ⟨σ,S,De,Z,aB,hS,q,hD,hZ⟩;exact{σ,S,_,_,aB,hS,q,hD.rt,hZ.at aB}⟩
def dIf(c:mE)(t u:mT):mT:=λDe σ S Z=>c σ S (λb S1=>if b=true then t De σ S1 Z else u De σ S1 Z)<|Z σ
theorem si{t u:mT}(hc:DT K X c tc)(ha:Hb K X b a t)(hb:Hb K X b a' u):DS K X b (.If c a a' pos) (dIf tc t u):=
 ⟨λy=>(SQ (hc.of y) (ha.of y)<|hb.of y).mono <| by rintro D τ H ⟨σ,S,De,Z,aB,hS,q,hD,hZ⟩;exact
  ⟨σ,S,_,_,aB,hS,q,λc S1 H1 r1 s1 k1=>by
   cases c with
   |true=>rw[if_pos rfl]at r1⊢;exact{σ,S1,De,Z,aB.ts k1,s1,r1,hD.kp k1,hZ.kp k1}
   |false=>rw[if_neg zd]at r1⊢;exact{σ,S1,De,Z,aB.ts k1,s1,r1,hD.kp k1,hZ.kp k1},hZ.at aB⟩⟩
abbrev xV:=D->SD->au->(SD->au->Prop)->Prop
def Tg(K:Frag)(g:xV):TG:=λv τ H Q=>∃d σ S R,Rv K H d v/\iJ K H σ τ/\Rs K S H/\g d σ S R/\NL K H R Q
structure DG(K:Frag)(X:Cx)(e:Expr)(g:xV):Prop where
 of:∀Y:Cx,Y.K=X.K->Y.N=X.N->Y.env=X.env->Y.fn=X.fn->Y.calm=X.calm->PG Y e (Tg K g)
theorem PG.mono{t t':TG}(h:PG X e t)(i:∀v τ H Q,t' v τ H Q->t v τ H Q):PG X e t':=λpins s τ H v u Q I r q=>h pins s τ H v u Q I r<|i v τ H Q q
def WT(i:Nat):xV:=λd σ S R=>R (σ.set i<|some d) S
theorem gn(hN:X.N.Nodup)(hi:autoParam (X.N[i]?=some x) qQJ)(hx:autoParam (Loc X.env.scope x) qJK)(hf:autoParam (X.fn x=true\/X.env.scope.names.lookup x=some .local) qQ8):DG K X (.Name x pos) (WT i):=⟨λY _ e2 e3 e4 _=>(qR (X:=Y) (by rw[e2];exact hN) (by rw[e2];exact hi) (by rw[e3];exact hx)<|by rw[e3,e4];exact hf).mono <| by rintro v τ H Q ⟨d,σ,S,R,rv,aB,hS,q,hR⟩;exact hR _ S _ H q (aB.set i rv) hS<|.refl _⟩
abbrev FV:=List D->SD->au->(SD->au->Prop)->Prop
def Tgs(K:Frag)(g:FV):Nj:=λvs τ H Q=>∃ds σ S R,RvAll K H ds vs/\iJ K H σ τ/\Rs K S H/\g ds σ S R/\NL K H R Q
structure WU(K:Frag)(X:Cx)(es:List Expr)(g:FV):Prop where
 of:∀Y:Cx,Y.K=X.K->Y.N=X.N->Y.env=X.env->Y.fn=X.fn->Y.calm=X.calm->Nk Y es (Tgs K g)
theorem Nk.mono{t t':Nj}(h:Nk X e t)(i:∀v τ H Q,t' v τ H Q->t v τ H Q):Nk X e t':=λpins s τ H v u Q I r q=>h pins s τ H v u Q I r<|i v τ H Q q
def NM:FV:=λds σ S R=>ds=[]/\R σ S
def Cu(g:xV)(u:FV):FV:=λds σ S R=>∃d r,ds=d::r/\g d σ S λxS S1=>u r xS S1 R
theorem g0:WU K X [] NM:=⟨λY _ _ _ _ _=>(DY (X:=Y)).mono <| by rintro vs τ H Q ⟨ds,σ,S,R,rv,aB,hS,⟨e,q⟩,hR⟩;exact by subst e;exact{rv.nil,hR _ _ _ _ q aB hS<|.refl _}⟩
theorem gc(h1:DG K X e g)(h2:WU K X es u)(hs:autoParam (∀env:Env,(assignEach (e::es) env).map (·.2)=assign e env::(assignEach es env).map (·.2)) qQ0):WU K X (e::es) (Cu g u):=⟨λY a b c d f=>(rK (h1.of Y a b c d f) (h2.of Y a b c d f)<|hs _).mono <| by rintro vs τ H Q ⟨ds,σ,S,R,rv,aB,hS,⟨d,r,e,q⟩,hR⟩;subst e;obtain⟨y,ys,e1,r1,r2⟩:=rv.cons;exact{y,ys,e1,d,σ,S,_,r1,aB,hS,q,λxS S1 Zi H1 q1 a b c=>{r,xS,S1,R,RvAll.ts c _ r2,a,b,q1,hR.kp c}}⟩
def NN(n:Nat)(g:FV):xV:=λd σ S R=>∃ds,d=.tup ds/\ds.length=n/\g ds σ S R
theorem gt(h:WU K X es g)(hn:autoParam (∀env:Env,(assignEach es env).length=n) qQ0)(x6:autoParam (∀env:Env,(assignEach es env).findIdx? (·.1)=none) qQ0)(hK:autoParam (X.K=K) qQJ)(hc:autoParam (X.calm=true) qQJ):DG K X (.Tuple es j pos) (NN n g):=⟨λY a b c d f=>(Hk (X:=Y) (by rw[f];exact hc) (h.of Y a b c d f) (hn _)<|x6 _).mono <| by rintro v τ H Q ⟨d,σ,S,R,rv,aB,hS,⟨ds,e,hl,q⟩,hR⟩;subst e;obtain⟨p,xs,e1,e2,t⟩:=rv.tup;exact{p,xs,e1,.of e2,by rw[t.len];exact hl,ds,σ,S,R,t,aB,hS,q,hR}⟩
def UJ(i:Nat)(t:TD):mT:=λDe σ S Z=>t σ S (λd S1=>De.nx (σ.set i<|some d) S1)<|Z σ
theorem bO{t:TD}(hN:X.N.Nodup)(h:DE K X e t)(hi:autoParam (X.N[i]?=some x) qQJ)(hx:autoParam (Loc X.env.scope x) qJK)(hs:autoParam (swapsWith e (some<|.Name x pos') pos.line X.env=pure false) qQJ) (hf:autoParam (X.fn x=true\/X.env.scope.names.lookup x=some .local) qQ8):DS K X b (.Assign [.Name x pos'] e pos) (UJ i t):=⟨λy=>(O0 (X:=y.cx) (i:=i) hN hi hx (h.of y) hs hf).mono <| by rintro D τ H ⟨σ,S,De,Z,aB,hS,q,hD,hZ⟩;exact{σ,S,_,_,aB,hS,q,λd S1 v H1 r1 v1 s1 k1=>hD.nx _ _ _ _ r1 ((aB.ts k1).set i v1) s1 k1,hZ.at aB}⟩
def Zk(t:TD)(g:xV):mT:=λDe σ S Z=>t σ S (λd S1=>g d σ S1 De.nx)<|Z σ
theorem sa{t:TD}(h:DE K X e t)(hg:DG K X tg g)(hs:autoParam (swapsWithSole [tg] e pos.line X.env=pure false) qQJ)(hw:autoParam (swappedStores [tg] e X.env=pure none) qQJ)(h1:autoParam ((assignEach [tg] X.env).map (·.2)=[assign tg X.env]) qQJ): DS K X b (.Assign [tg] e pos) (Zk t g):=⟨λy=>(Hl (X:=y.cx) (h.of y) (hg.of _ rfl rfl rfl rfl rfl) hs hw h1).mono <| by rintro D τ H ⟨σ,S,De,Z,aB,hS,q,hD,hZ⟩;exact{σ,S,_,_,aB,hS,q,λd S1 v H1 r1 v1 s1 k1=>{d,σ,S1,_,v1,aB.ts k1,s1,r1,hD.nx.kp k1},hZ.at aB}⟩
def Zl(td ty tv:TD):mT:=λDe σ S Z=>tv σ S (λv S1=>td σ S1 (λx S2=>ty σ S2 (λy S3=>∃a kvs k,x=.ref a/\S3 a=some (.cO kvs)/\Cs y=some k/\kvs.length<sizeLine/\De.nx σ (S3.set a<|.cO<|dput kvs k v))<|Z σ)<|Z σ)<|Z σ
theorem sd{o i value:Expr}{td ty tv:TD}{pos':Pos}(hu:X.A.units+64<cLine)(ho:DE K X o td)(hi:DE K X i ty)(hv:DE K X value tv)(hs:autoParam (swapsWith value (some<|.Subscript o i pos') pos.line X.env=pure false) qQJ):DS K X b (.Assign [.Subscript o i pos'] value pos) (Zl td ty tv):=
 ⟨λy=>(Lg (X:=y.cx) (by show X.A.units+1<cLine;lia) (ho.of y) (hi.of y) (hv.of y) hs).mono <| by rintro D τ H ⟨σ,S,De,Z,aB,hS,q,hD,hZ⟩;exact
  ⟨σ,S,_,_,aB,hS,q,λv S1 vv H1 r1 v1 s1 k1=>⟨σ,S1,_,_,aB.ts k1,s1,r1,λx S2 xv H2 r2 v2 s2 k2=>⟨σ,S2,_,_,aB.ts<|k1.trans k2,s2,r2,by
   rintro y S3 yv H3 ⟨a,kvs,k,e1,e2,e3,hl,r3⟩ v3 s3 k3
   subst e1
   obtain⟨vs,e4,t⟩:=s3.cO e2
   have kk:=s3.iI (o:=.dK<|putK vs k vv) e2
   refine{a,_,(Rv.ts k3 _ v2).ref,by rw[lV e3 v3];exact HD.k e4<|by rw[t.len];exact hl,?_}
   exact hD.nx _ _ _ _ r3 (aB.ts<|((k1.trans k2).trans k3).trans kk) (s3.put (c:=.cO _) e2 {_,aF,(t.put k<|Rv.ts (k2.trans k3) _ v1).ts kk})<|((k1.trans k2).trans k3).trans kk,hZ.on (k1.trans k2)<|aB.ts<|k1.trans k2⟩,hZ.on k1<|aB.ts k1⟩,hZ.at aB⟩⟩
end
section
variable{X:Cx}{pins:List (Addr×Obj)}{σ:St}{H:Hp}{s:Shared}{A:Around}{E:Value->Shared->Prop}{a:Addr}{kvs:List (Key×V)}{k:Key}{u:Value}
theorem Qh(I:Inv X pins σ H s)(e:H a=some (.dK kvs))(ry:RelV (kV k) u)(rz:RelV z r)(hl:kvs.length<sizeLine) (h1:∀v w' s',gv kvs k=some v->Inv X pins σ H s'->RelV v w'->Q w' s') (h2:gv kvs k=none->∀s',Inv X pins σ (upd H a<|.dK<|putK kvs k z) s'->Q r s'): wpAny (model X.prog X.w) A (call (.builtin "dict.setdefault") [.ref a,u,r]) Q E s:=by
 obtain⟨zz,hd,vs,rel,dd⟩:=Eb I.aL e;have hp:=pR kvs k z;refine call_meetsIn PySem.F.slot_dict_setdefault dd.typeIs PySem.F.entry_dict_setdefault (PySem.F.args_dict_setdefault_3 _ _ _) (PySem.kt_meets_setdefault (aH X.prog X.w) a (jC ry) hd r) {vs,dd,by rw[<-rel.length];exact zz,λw' hw=>?_,λhn h' Nt hs=>?_};cases q:gv kvs k with|none=>(have:=gu.none_of (o:=valueAt vs k) (by rw[<-q];exact rel.val k);rw[this]at hw;cases hw)|some v=>obtain⟨w2,UK,rw2⟩:=gu.some_of (v:=v) (o:=valueAt vs k) (by rw[<-q];exact rel.val k);rw[UK]at hw;cases hw;exact h1 v _ _ q (I.tok _) rw2
 cases q:gv kvs k with|some v=>(obtain⟨w2,UK,rw2⟩:=gu.some_of (v:=v) (o:=valueAt vs k) (by rw[<-q];exact rel.val k);rw[UK]at hn;cases hn)|none=>have he:∃q,h'.get? a=some q:=(by obtain⟨q,_,_,hq,_⟩:=Nt;exact⟨q,hq⟩);exact h2 q _<|v8 I (by rw[e];exact True.intro) hs he<|BU (by lia) hd (rel.put k rz) Nt
end
section
variable{X:Cx}{o e f:Expr}{apos aO:Pos}{td ty tx:TE}
def UL(td ty tx:TE):TE:=λσ H Q=>td σ H λx H1=>∃a,x=.ref a/\RO H1 a/\ty σ H1 λy H2=>tx σ H2 λz H3=>∃kvs k,H3 a=some (.dK kvs)/\y=kV k/\kvs.length<sizeLine/\(∀v,gv kvs k=some v->Q v H3)/\(gv kvs k=none->Q z (upd H3 a<|.dK<|putK kvs k z))
theorem Il(ho:PE X o td)(he:PE X e ty)(hf:PE X f tx)(m:M2 X o "setdefault" apos e f aO):PE X (.Call (.Attribute o "setdefault" apos) [e,f] [] aO) (UL td ty tx):=by intro pins s σ H Q I h;refine wpAny_Call_method m.base m.G7 m.line PySem.F.plainAttrs_dict PySem.F.slot_dict_setdefault PySem.F.type_dict_setdefault<|bt (ho pins s σ H _ I h) λu s1 ⟨x,H1,I1,rx,a,ex,d,q1⟩=>?_;subst ex;obtain rfl:u=Value.ref a:=rx;obtain⟨t1,t2,_⟩:=v9 I1 d;refine{t1,t2,?_};rw[m.trees];refine Calls.callWith_builtin rfl<|Calls.evalArgs_plain<|yE<|bt (he pins s1 σ H1 _ I1 q1) λiv s2 ⟨y,H2,I2,ry,q2⟩=>yE<|bt (hf pins s2 σ H2 _ I2 q2) λfv s3 ⟨z,H3,I3,rz,kvs,k,ea,ey,hl,q3,q4⟩=>Calls.spliced_nil ?_;subst ey;exact Qh I3 ea ry rz hl (λv w' s4 l I4 rP=>{v,H3,I4,rP,q3 v l}) λl s4 I4=>{z,_,I4,rz,q4 l}
end
section
variable{K:Frag}{X:Cx}{b:Bool}{o e f:Expr}{apos aO pos:Pos}{td ty tx:TD}
theorem wk(hS:Rs K S H)(e:S a=some (.cO kvs)):RO H a:=by obtain⟨vs,e1,_⟩:=hS.cO e;exact .inl {vs,.inl e1}
def UM(td ty:TD):TD:=λσ S R Z=>td σ S (λx S1=>∃a kvs,x=.ref a/\S1 a=some (.cO kvs)/\ty σ S1 (λy S2=>∃kvs k,S2 a=some (.cO kvs)/\Cs y=some k/\R ((bZ kvs k).getD .av) S2) Z) Z
theorem Im(hS:Rs K S H)(e:S a=some (.cO kvs))(r:Rv K H d v):∃o,oq H a (kV k) o/\Rv K H ((bZ kvs k).getD d) (o.getD v):=by obtain⟨o,g,h1,h2⟩:=qZ (k:=k) hS e;refine{o,g,?_};cases q:bZ kvs k with|none=>(rw[q]at h1;cases o with|none=>exact r|some _=>cases h1)|some d'=>obtain⟨v',rfl,r'⟩:=h2 d' q;exact r'
theorem mg1(hu:X.A.units+64<cLine)(ho:DE K X o td)(he:DE K X e ty)(m:autoParam (M1 X o "get" apos e aO) qQ4):DE K X (.Call (.Attribute o "get" apos) [e] [] aO) (UM td ty):=
 ⟨λy=>(HG (X:=y.cx) (by show X.A.units+1<cLine;lia) (ho.of y) (he.of y) ⟨m.base,m.G7,m.line,m.trees⟩).mono <| by rintro τ H Q ⟨σ,S,R,Z,aB,hS,q,hR,hZ⟩;exact
  ⟨σ,S,_,Z,aB,hS,q,by
   rintro x S1 xv H1 ⟨a,kvs,e1,e2,r1⟩ v1 s1 k1
   subst e1
   exact⟨a,v1.ref,wk s1 e2,σ,S1,_,Z,aB.ts k1,s1,r1,by
    rintro y S2 yv H2 ⟨kvs,k,e3,e4,r2⟩ v2 s2 k2
    obtain⟨o,g,r⟩:=Im (k:=k) s2 e3 jG
    exact{o,by rw[lV e4 v2];exact g,(hR.kp<|k1.trans k2).now s2 r2 r},hZ.kp k1⟩,hZ⟩⟩
def UN(td ty tx:TD):TD:=λσ S R Z=>td σ S (λx S1=>∃a kvs,x=.ref a/\S1 a=some (.cO kvs)/\ty σ S1 (λy S2=>tx σ S2 (λz S3=>∃kvs k,S3 a=some (.cO kvs)/\Cs y=some k/\R ((bZ kvs k).getD z) S3) Z) Z) Z
theorem mg2(hu:X.A.units+64<cLine)(ho:DE K X o td)(he:DE K X e ty)(hf:DE K X f tx)(m:autoParam (M2 X o "get" apos e f aO) qQ4):DE K X (.Call (.Attribute o "get" apos) [e,f] [] aO) (UN td ty tx):=
 ⟨λy=>(HH (X:=y.cx) (by show X.A.units+1<cLine;lia) (ho.of y) (he.of y) (hf.of y) ⟨m.base,m.G7,m.line,m.trees⟩).mono <| by rintro τ H Q ⟨σ,S,R,Z,aB,hS,q,hR,hZ⟩;exact
  ⟨σ,S,_,Z,aB,hS,q,by
   rintro x S1 xv H1 ⟨a,kvs,e1,e2,r1⟩ v1 s1 k1
   subst e1
   exact⟨a,v1.ref,wk s1 e2,σ,S1,_,Z,aB.ts k1,s1,r1,λy S2 yv H2 r2 v2 s2 k2=>⟨σ,S2,_,Z,aB.ts<|k1.trans k2,s2,r2,by
    rintro z S3 zv H3 ⟨kvs,k,e3,e4,r3⟩ v3 s3 k3
    obtain⟨o,g,r⟩:=Im (k:=k) s3 e3 v3
    exact{o,by rw[lV e4 v2];exact g,(hR.kp<|(k1.trans k2).trans k3).now s3 r3 r},hZ.kp<|k1.trans k2⟩,hZ.kp k1⟩,hZ⟩⟩
def UO(td ty:TD):TD:=λσ S R Z=>td σ S (λx S1=>∃a kvs,x=.ref a/\S1 a=some (.cO kvs)/\ty σ S1 (λy S2=>∃kvs k d,S2 a=some (.cO kvs)/\Cs y=some k/\bZ kvs k=some d/\R d (S2.set a<|.cO<|Af kvs k)) Z) Z
theorem mp1(ho:DE K X o td)(he:DE K X e ty)(m:autoParam (M1 X o "pop" apos e aO) qQ4):DE K X (.Call (.Attribute o "pop" apos) [e] [] aO) (UO td ty):=
 ⟨λy=>(HJ (X:=y.cx) (ho.of y) (he.of y) ⟨m.base,m.G7,m.line,m.trees⟩).mono <| by rintro τ H Q ⟨σ,S,R,Z,aB,hS,q,hR,hZ⟩;exact
  ⟨σ,S,_,Z,aB,hS,q,by
   rintro x S1 xv H1 ⟨a,kvs,e1,e2,r1⟩ v1 s1 k1
   subst e1
   exact⟨a,v1.ref,wk s1 e2,σ,S1,_,Z,aB.ts k1,s1,r1,by
    rintro y S2 yv H2 ⟨kvs,k,d,e3,e4,e5,r2⟩ v2 s2 k2
    obtain⟨vs,e6,t⟩:=s2.cO e3
    obtain⟨v,e7,r7⟩:=(t.val k).1 d e5
    have kk:=s2.iI (o:=.dK<|pQ vs k) e3
    exact{vs,k,v,e6,lV e4 v2,e7,hR _ _ _ _ r2 (Rv.ts kk _ r7) (s2.put (c:=.cO _) e3 {_,aF,(t.drop k).ts kk})<|(k1.trans k2).trans kk},hZ.kp k1⟩,hZ⟩⟩
def UP(td ty tx:TD):TD:=λσ S R Z=>td σ S (λx S1=>∃a kvs,x=.ref a/\S1 a=some (.cO kvs)/\ty σ S1 (λy S2=>tx σ S2 (λz S3=>∃kvs k,S3 a=some (.cO kvs)/\Cs y=some k/\kvs.length<sizeLine/\(∀d,bZ kvs k=some d->R d S3)/\(bZ kvs k=none->R z (S3.set a<|.cO<|dput kvs k z))) Z) Z) Z
theorem ms2(ho:DE K X o td)(he:DE K X e ty)(hf:DE K X f tx)(m:autoParam (M2 X o "setdefault" apos e f aO) qQ4):DE K X (.Call (.Attribute o "setdefault" apos) [e,f] [] aO) (UP td ty tx):=
 ⟨λy=>(Il (X:=y.cx) (ho.of y) (he.of y) (hf.of y) ⟨m.base,m.G7,m.line,m.trees⟩).mono <| by rintro τ H Q ⟨σ,S,R,Z,aB,hS,q,hR,hZ⟩;exact
  ⟨σ,S,_,Z,aB,hS,q,by
   rintro x S1 xv H1 ⟨a,kvs,e1,e2,r1⟩ v1 s1 k1
   subst e1
   exact⟨a,v1.ref,wk s1 e2,σ,S1,_,Z,aB.ts k1,s1,r1,λy S2 yv H2 r2 v2 s2 k2=>⟨σ,S2,_,Z,aB.ts<|k1.trans k2,s2,r2,by
    rintro z S3 zv H3 ⟨kvs,k,e3,e4,hl,r3,r4⟩ v3 s3 k3
    obtain⟨vs,e6,t⟩:=s3.cO e3
    have kk:=s3.iI (o:=.dK<|putK vs k zv) e3
    have hR3:=hR.kp<|(k1.trans k2).trans k3
    refine{vs,k,e6,lV e4<|Rv.ts k3 _ v2,by rw[t.len];exact hl,λv hv=>?_,λhn=>?_}
    ·cases q:bZ kvs k with
     |none=>rw[(t.val k).2 q]at hv;cases hv
     |some d =>
      obtain⟨v',e7,r7⟩:=(t.val k).1 d q
      rw[e7]at hv;cases hv
      exact hR3.now s3 (r3 d q) r7
    ·cases q:bZ kvs k with
     |some d=>obtain⟨v',e7,r7⟩:=(t.val k).1 d q;rw[e7]at hn;cases hn
     |none=>exact hR3 _ _ _ _ (r4 q) (Rv.ts kk _ v3) (s3.put (c:=.cO _) e3 {_,aF,(t.put k v3).ts kk}) kk,hZ.kp<|k1.trans k2⟩,hZ.kp k1⟩,hZ⟩⟩
noncomputable def Cv(f:Str)(d:D):List (Str×D)->List (Str×D)|[]=>[(f,d)]| (g,x)::r=>if g=f then (g,d)::r else (g,x)::Cv f d r
theorem bY.Cv{H:Hp}{f:Str}{d:D}{v:V}(rd:Rv K H d v):∀{ks:List (Str×D)}{vs:List (Str×V)},bY K H ks vs->bY K H (Cv f d ks) (putF f v vs)|_,_,.nil=>.cons ⟨rfl,rd⟩ .nil| (g,x)::r,(g',y)::r',.cons h t=>by obtain⟨e,h⟩:=h;dsimp only at e;subst e;show bY K H (if g=f then (g,d)::r else (g,x)::L2.Cv f d r) (if g=f then (g,v)::r' else (g,y)::putF f v r');by_cases q:g=f;rw[if_pos q,if_pos q];exact .cons ⟨rfl,rd⟩ t;rw[if_neg q,if_neg q];exact .cons ⟨rfl,h⟩<|bY.Cv rd t
def UQ(C:Addr)(f:Str)(ta tv:TD):mT:=λDe σ S Z=>tv σ S (λy S1=>ta σ S1 (λx S2=>∃a fs,x=.ref a/\S2 a=some (.ins C fs)/\fs.length<1000/\De.nx σ (S2.set a<|.ins C<|Cv f y fs))<|Z σ)<|Z σ
theorem sf{C:Addr}{f:Str}{value:Expr}{ta tv:TD}{pos':Pos}(c:qW K C)(n:jB K C f)(ha:DE K X o ta)(hv:DE K X value tv)(hs:autoParam (swapsWith value (some<|.Attribute o f pos') pos.line X.env=pure false) qQJ)(hK:autoParam (X.K=K) qQJ): DS K X b (.Assign [.Attribute o f pos'] value pos) (UQ C f ta tv):=by
 subst hK
 exact⟨λy=>(Pj (X:=y.cx) (ha.of y) (hv.of y) hs).mono <| by rintro D τ H ⟨σ,S,De,Z,aB,hS,q,hD,hZ⟩;exact
  ⟨σ,S,_,_,aB,hS,q,λy S1 yv H1 r1 v1 s1 k1=>⟨σ,S1,_,_,aB.ts k1,s1,r1,by
   rintro x S2 xv H2 ⟨a,fs,e1,e2,hl,r2⟩ v2 s2 k2
   subst e1
   obtain⟨dx,vs,e4,t4⟩:=s2.ins e2
   have kk:=s2.iI (o:=.ins C dx<|putF f yv vs) e2
   exact{a,C,dx,vs,v2.ref,e4,c,n,by rw[t4.len];exact hl,hD.nx _ _ _ _ r2 (aB.ts<|(k1.trans k2).trans kk) (s2.put (c:=.ins C _) e2 {dx,_,aF,(bY.Cv (Rv.ts k2 _ v1) t4).ts kk})<|(k1.trans k2).trans kk},hZ.on k1<|aB.ts k1⟩,hZ.at aB⟩⟩
def Qi(C:Addr)(t:jq):mT:=λ_ σ S Z=>t σ S (λds S1=>ds.length<=sizeLine/\Z σ C S1)<|Z σ
end
section
variable{K:Frag}{X:Cx}{C:Addr}{x:Str}{e:Expr}{es:List Expr}{np aO pos:Pos}
theorem FW{t:TA}{y:Ev X true}(hc:X.calm=true)(c:XC X.K C)(hg:Gl X x)(hm:X.mg x=some (.ref C))(ha:PA y.cx (e::es) t)(qB:(x==("__debug__": Str))=false) (he:starEach (e::es) X.env=(false,eval e X.env)::starEach es X.env) (dN:(backTo aO<|starEach es X.env).any (·.1)=false): PS y.cx (.Raise (some<|.Call (.Name x np) (e::es) [] aO) none pos) (λ_ σ H=>t σ H λvs H1=>vs.length<=sizeLine/\y.E σ (.ref C) none H1):=by intro pins s σ H D I h;obtain⟨bm,N,nm,q,bs,hdct,sn,sub,ab,col,dd,k0,k1,k2,k3,k5,mN,hC,hN,WL,T⟩:=c.at I.mod.RK;have mK:bm.contains (.type "BaseException")=true:=T.hasType (by decide);refine wpAny_Raise_call_subT (C:=C) (nm:=nm) (q:=q) (N:=N) (bs:=bs) (bm:=bm) (hdct:=hdct) (sn:=sn) (sub:=sub) (ab:=ab) (col:=col) (dd:=dd) (k0:=k0) (k1:=k1) (k2:=k2) (k3:=k3) (k5:=k5) PySem.F.excBase_ValueError (mN:=mN) mK (I.ok.hd hc) (by show((backTo aO<|starEach (e::es) X.env).any (·.1))=false;rw[he];show(false||(backTo aO<|starEach es X.env).any (·.1))=false;rw[dN];rfl) WL<|qQ I hg hm {rfl,?_} qB;have h1:=ha aO pins s σ H _ I h;have WV:starEach (e::es) y.cx.env=(false,eval e X.env)::starEach es X.env:=he;rw[WV]at h1⊢;exact Calls.evalArgs_plain<|bt h1 <| by rintro us s2 ⟨vs,H2,I2,r,z,q2⟩;exact{rfl,by show us.length<=sizeLine;rw[<-r.length];exact z,I2.bk _ _ hC,hN.keeps I2.bk,T.keeps I2.bk,λh' a hx=>y.ok.own rfl pins σ H2 s2 h' a _ _ I2 hx q2}
theorem sA{t:jq}(c:XC K C)(hm:X.mg x=some (.ref C))(ha:DA K X (e::es) t)(hg:autoParam (Gl X x) qQJ)(qB:autoParam ((x==("__debug__": Str))=false) qQZ) (he:autoParam (starEach (e::es) X.env=(false,eval e X.env)::starEach es X.env) qQJ) (dN:autoParam ((backTo aO<|starEach es X.env).any (·.1)=false) qQJ) (hc:autoParam (X.calm=true) qQJ) (hK:autoParam (X.K=K) qQJ): DS K X true (.Raise (some<|.Call (.Name x np) (e::es) [] aO) none pos) (Qi C t):=by subst hK;exact⟨λy=>(FW (y:=y) hc c hg hm (ha.of y) qB he dN).mono λD τ H ⟨σ,S,De,Z,aB,hS,q,hD,hZ⟩=>{σ,S,_,_,aB,hS,q,λds S1 vs H1 ⟨hl,r1⟩ v1 s1 k1=>{by rw[v1.len];exact hl,hZ.at aB C S1 H1 r1 s1 k1},hZ.at aB}⟩
end
structure q9 where
 xs:List D
 ok:au->Prop
def UR(K:Frag)(H0:Hp)(J:It)(I:q9):Prop:=∀i S H,Kp K H0 H->Rs K S H->I.ok S->(∀d,I.xs[i]?=some d->J.go i H/\∀x H',J.SS i H x H'->Rv K H' d x/\Kp K H H'/\Rs K S H')/\(I.xs.length<=i->J.stop i H)
abbrev Bu:=SD->au->(q9->au->Prop)->KX->Prop
def Ti(K:Frag)(E:St->XK)(t:Bu):TI:=λτ H R=>∃σ S RI Z,iJ K H σ τ/\Rs K S H/\t σ S RI Z/\(∀I S' J H',RI I S'->UR K H' J I->Rs K S' H'->Kp K H H'->R J H')/\FR K H Z (E τ)
structure DI(K:Frag)(X:Cx)(tg it:Expr)(t:Bu):Prop where
 of:∀{b:Bool}(y:Ev X b),PI y.cx tg it<|Ti K y.E t
theorem PI.mono{t t':TI}(h:PI X tg it t)(i:∀τ H R,t' τ H R->t τ H R):PI X tg it t':=λpins s τ H R I q=>h pins s τ H R I<|i τ H R q
section
variable{K:Frag}{X:Cx}{tg l:Expr}
def Zm(t:TD):Bu:=λσ S R Z=>t σ S (λx S1=>∃ds,we S1 x ds/\R {ds,λS=>we S x ds} S1) Z
theorem il{t:TD}(h:DE K X l t)(hK:autoParam (X.K=K) qQJ):DI K X tg l (Zm t):=by subst hK;exact⟨λy=>(KZ (X:=y.cx)<|h.of y).mono <| by rintro τ H R ⟨σ,S,RI,Z,aB,hS,q,hR,hZ⟩;exact{σ,S,_,Z,aB,hS,q,by rintro x S1 v H1 ⟨ds,h1,r1⟩ v1 s1 k1;obtain⟨a,xs,rfl,hq,t⟩:=h1.at s1 v1;refine{a,rfl,⟨xs,hq⟩,hR _ S1 _ H1 r1 (λi S2 H2 k2 s2 WW=>?_) s1 k1};obtain⟨a',Qj,e',Ha,t'⟩:=we.at WW s2<|Rv.ts k2 _ v1;cases e';refine{λd hd=>?_,λhl=>{Qj,Ha,by rw[t'.len];exact hl}};obtain⟨v,e1,r⟩:=t'.get hd;refine{⟨Qj,v,Ha,e1⟩,λx' H' ⟨e2,e3⟩=>?_};subst e2;have:=e3 Qj Ha;rw[e1]at this;cases this;exact{r,.refl _,s2},hZ}⟩
def US(t:TD):Bu:=λσ S R Z=>t σ S (λx S1=>∃ds,(x=.tup ds\/x=.kt ds)/\R {ds,λ_=>True} S1) Z
theorem Ql{H:Hp}{x:D}{ds:List D}{v:V}(h:x=.tup ds\/x=.kt ds)(r:Rv K H x v):∃a xs,v=.ref a/\(∀H',Kp K H H'->jn K H' a xs)/\RvAll K H ds xs:=by rcases h with rfl|rfl;obtain⟨a,xs,rfl,q,t⟩:=r.tup;exact{a,xs,rfl,λH' k=>.of<|k.t _ _ q,t};obtain⟨a,xs,rfl,q,t⟩:=r.kt;exact{a,xs,rfl,λH' k=>.inr q,t}
theorem Km{t:TD}(h:DE K X l t)(hK:autoParam (X.K=K) qQJ):DI K X tg l (US t):=by subst hK;exact⟨λy=>(O6 (X:=y.cx)<|h.of y).mono <| by rintro τ H R ⟨σ,S,RI,Z,aB,hS,q,hR,hZ⟩;exact{σ,S,_,Z,aB,hS,q,by rintro x S1 v H1 ⟨ds,h1,r1⟩ v1 s1 k1;obtain⟨a,xs,rfl,hq,t⟩:=Ql h1 v1;refine{a,rfl,{xs,hq _<|.refl _},hR _ S1 _ H1 r1 (λi S2 H2 k2 s2 _=>?_) s1 k1};have R3:=hq H2 k2;refine{λd hd=>?_,λhl=>{xs,R3,by rw[t.len];exact hl}};obtain⟨v,e1,r⟩:=(RvAll.ts k2 _ t).get hd;refine{⟨xs,v,R3,e1⟩,λx' H' ⟨e2,e3⟩=>?_};subst e2;have:=e3 xs R3;rw[e1]at this;cases this;exact{r,.refl _,s2},hZ}⟩
noncomputable def dQ(lo:Int)(n:Nat):List D:=(List.range n).map λi=>D.int<|lo+(i:Nat)
theorem b_{lo:Int}{n:Nat} : (dQ lo n).length=n:=by unfold dQ;rw[za,List.length_range]
theorem cP{lo:Int}{n i:Nat}{d:D}(h:(dQ lo n)[i]?=some d):i<n/\d=.int (lo+i):=by unfold dQ at h;rw[zk]at h;by_cases q:i<n;rw[List.getElem?_range q]at h;exact{q,(zR h).symm};rw[List.getElem?_eq_none<|by rw[List.length_range];omega]at h;cases h
theorem Qm{H0:Hp}{lo:Int}{n:Nat} : UR K H0 (WA lo n) {dQ lo n,λ_=>True}:=λi S H k s _=>{λd hd=>by obtain⟨h1,rfl⟩:=cP hd;exact{h1,by rintro x H' ⟨e1,e2⟩;exact by subst e1 e2;exact{aS _,.refl _,s}},λhl=>by rw[b_]at hl;exact hl}
def Zn(t:jq):Bu:=λσ S R Z=>t σ S (λds S1=>∃j:Int,ds=[.int j]/\-(2^62)<=j/\j<2^62/\R {dQ 0 j.toNat,λ_=>True} S1) Z
theorem NO{t:jq}(hm:X.mg "range"= none)(ha:DA K X [a] t)(hg:autoParam (Gl X "range") qQJ)(hs:autoParam (starEach [a] X.env=[(false,eval a X.env)]) qQJ):DI K X tg (.Call (.Name "range" p) [a] [] pos) (Zn t):=⟨λy=>(Fj (X:=y.cx) hg hm (ha.of y) hs).mono <| by rintro τ H R ⟨σ,S,RI,Z,aB,hS,q,hR,hZ⟩;exact{σ,S,_,Z,aB,hS,q,by rintro ds S1 vs H1 ⟨j,e,h1,h2,r1⟩ v1 s1 k1;subst e;obtain⟨v,rfl,r⟩:=v1.one;exact{j,by rw[r.int],h1,h2,hR _ S1 _ H1 r1 Qm s1 k1},hZ}⟩
end
section
variable{K:Frag}{X:Cx}{tg iter:Expr}{pos:Pos}
def Zo(ti:Bu)(g:xV)(tb:mT):mT:=λDe σ S Z=>ti σ S (λI S1=>∃P:Nat->SD->au->Prop,P 0 σ S1/\(∀i σ S,P i σ S->I.ok S)/\(∀i d σ S,I.xs[i]?=some d->P i σ S->g d σ S λqS S2=>tb {De with nx:=P<|i+1,ct:=P<|i+1,bk:=De.nx} qS S2 Z)/\∀σ S,P I.xs.length σ S->De.nx σ S)<|Z σ
theorem Ko(hi:DI K X tg iter ti)(hg:DG K X tg g)(hb:Hb K X true body tb)(hs:autoParam (∀x,foldedSetIterable iter X.env x=pure x) qQ0)(hc:autoParam (X.calm=true) qQJ):DS K X true (.For tg iter body [] pos) (Zo ti g tb):=
 ⟨λy=>(O7 (X:=y.cx) (y.ok.loop rfl) hc (hi.of y) (hg.of _ rfl rfl rfl rfl rfl) (hb.of y) hs).mono <| by rintro D τ H ⟨σ,S,De,Z,aB,hS,q,hD,hZ⟩;exact
  ⟨σ,S,_,_,aB,hS,q,by
   rintro I S1 J H1 ⟨P,p0,Zp,Zr,pend⟩ hJ s1 k1
   refine{λi m τ H=>m=I.xs.length-i/\i<=I.xs.length/\∃σ S,iJ K H σ τ/\Rs K S H/\P i σ S/\Kp K H1 H,!{zT _,σ,S1,aB.ts k1,s1,p0,.refl _},?_}
   rintro i m τ2 H2 ⟨rfl,UT,qS,S2,a2,s2,p2,k2⟩
   have ok:=hJ i S2 H2 k2 s2<|Zp _ _ _ p2
   by_cases eO:i<I.xs.length
   ·obtain⟨go,yl⟩:=ok.1 _ (zf eO)
    refine .inr {go,λRX H'=>i+1<=I.xs.length/\∃σ S,iJ K H' σ RX/\Rs K S H'/\P (i+1) σ S/\Kp K H1 H',λaI H' h'=>{_,by omega,rfl,h'},λx H' hy=>?_}
    obtain⟨rx,k3,s3⟩:=yl x H' hy
    refine{_,qS,S2,_,rx,a2.ts k3,s3,Zr i _ qS S2 (zf eO) p2,λWX S4 τ4 H4 r4 a4 s4 k4=>?_}
    have kk:=(k2.trans k3).trans k4
    exact{WX,S4,_,Z,a4,s4,r4,{λQn S5 Zs H5 r5 a5 s5 k5=>{eO,Qn,S5,a5,s5,r5,kk.trans k5},hD.rt.kp<|k1.trans kk,(hD.nx.kp<|k1.trans kk),λQn S5 Zs H5 r5 a5 s5 k5=>{eO,Qn,S5,a5,s5,r5,kk.trans k5}},hZ.kp<|k1.trans kk}
   ·have e:i=I.xs.length:=by omega
    subst e
    exact .inl {ok.2<|zr _,hD.nx _ _ _ _ (pend _ _ p2) a2 s2<|k1.trans k2},hZ.at aB⟩⟩
end
noncomputable def lg(σ:SD)(src:List<|Option Nat):SD:=src.map λo=>match o with|some j=>(σ[j]?).join|none=>none
theorem iJ.pick{K:Frag}{H:Hp}{σ:SD}{τ:St}(h:iJ K H σ τ):∀src:List (Option Nat),iJ K H (lg σ src) (pick τ src)|[]=>.nil|o::r=>.cons (λd e=>by cases o with|none=>(cases e)|some j=>dsimp only at e⊢;cases q:σ[j]? with|none=>(rw[q]at e;cases e)|some o'=>rw[q]at e;obtain rfl:o'=some d:=e;obtain⟨v,e1,r1⟩:=h.get q;exact{v,by rw[e1];rfl,r1})<|iJ.pick h r
def Zf:KX:=λ_ _=>False
def u_(σ:SD)(src:List<|Option Nat)(g:xV)(tc:mE)(te:TD)(R:KD)(I:q9)(S1:au):Prop:=∃P:Nat->List D->au->Prop,P 0 [] S1/\(∀i out S,P i out S->I.ok S)/\(∀i d out S,I.xs[i]?=some d->P i out S->out.length<sizeLine/\g d (lg σ src) S λfw S3=>tc fw S3 (λb S4=>if b=true then te fw S4 (λv S5=>P (i+1) (out++[v]) S5) Zf else P (i+1) out S4) Zf)/\∀out S2,P I.xs.length out S2->∀p,S2 p=none->R (.ref p) (S2.set p<|.lst out)
def Ej(ti:Bu)(src:List<|Option Nat)(g:xV)(tc:mE)(te:TD):TD:=λσ S R Z=>ti σ S (λI S1=>u_ σ src g tc te R I S1) Z
theorem FR.f{K:Frag}{H:Hp}{e:XK} : FR K H Zf e:=λ_ _ _ z=>z.elim
theorem T.comp{K:Frag}{E E':St->XK}{ti:Bu}{src:List<|Option Nat}{g:TG}{gd:xV}{tc:mE}{te:TD}{τ:St}{H:Hp}{Q:VK}(hg:∀v τ H Q,Tg K gd v τ H Q->g v τ H Q) (h:T K E (Ej ti src gd tc te) τ H Q):HM (Ti K E ti) src g (Tt K E' tc) (T K E' te) τ H Q:=by
 obtain⟨σ,S,R,Z,aB,hS,q,hR,hZ⟩:=h;refine{σ,S,_,Z,aB,hS,q,λI S1 J H1 ⟨P,p0,Zp,Zr,pend⟩ hJ s1 k1=>?_,hZ};refine{λi m out H=>m=I.xs.length-i/\i<=I.xs.length/\∃ds S,RvAll K H ds out/\Rs K S H/\P i ds S/\Kp K H1 H,!{zT _,[],S1,bD,s1,p0,.refl _},?_};rintro i m out H2 ⟨rfl,UT,ds,S2,v2,s2,p2,k2⟩;have ok:=hJ i S2 H2 k2 s2<|Zp _ _ _ p2;by_cases eO:i<I.xs.length;obtain⟨go,yl⟩:=ok.1 _<|zf eO;obtain⟨hz,st⟩:=Zr i _ ds S2 (zf eO) p2;refine .inr {go,by rw[v2.len];exact hz,λx H' hy=>?_};obtain⟨rx,k3,s3⟩:=yl x H' hy;refine hg _ _ _ _ {_,_,S2,_,rx,(((aB.ts k1).ts k2).ts k3).pick src,s3,st,λWX S4 τ4 H4 r4 a4 s4 k4=>?_};refine{WX,S4,_,Zf,a4,s4,r4,λc S5 H5 r5 s5 k5=>?_,.f};cases c with|true=>rw[if_pos rfl]at r5⊢;exact{WX,S5,_,Zf,a4.ts k5,s5,r5,λd S6 v H6 r6 v6 s6 k6=>{_,by omega,rfl,eO,ds++[d],S6,(RvAll.ts (((k3.trans k4).trans k5).trans k6) _ v2).app<|aY v6 bD,s6,r6,(((k2.trans k3).trans k4).trans k5).trans k6},.f}|false=>rw[if_neg zd]at r5⊢;exact{_,by omega,rfl,eO,ds,S5,RvAll.ts ((k3.trans k4).trans k5) _ v2,s5,r5,((k2.trans k3).trans k4).trans k5}
 have e:i=I.xs.length:=by omega
 subst e;exact .inl {ok.2<|zr _,λp hp=>(hR.kp<|k1.trans k2).new s2 hp (pend _ _ p2 p) v2}
noncomputable def Ev.none(X:Cx)(h:X.xe=λ_ _=>False):Ev X false:={X.pn,X.xe,λ_=>E0,{by rintro p2 τ H s e s' _ ⟨_,_,_,_,_,_,_,_,_,z⟩;exact z.elim,λe=>(by cases e),λe=>(by cases e)}}
section
variable{K:Frag}{X:Cx}{b:Bool}{N:List Str}{src:List (Option Nat)}{scope:Scope}{tg iter elt:Expr}{ifs:List Expr}{pos:Pos}{ti:Bu}{g:TG}{gd:xV}{tc:mE}{te:TD}
structure WY(K:Frag)(X:Cx)(ifs:List Expr)(t:mE):Prop where
 of:∀{b:Bool}(y:Ev X b),RP y.cx ifs<|Tt K y.E t
def mU:mE:=λ_ S R _=>R true S
theorem sC:WY K X [] mU:=⟨λy pins s τ H Q I ⟨σ,S,R,Z,aB,hS,q,hR,hZ⟩=>Lj pins s τ H Q I<|hR true S H q hS<|.refl _⟩
theorem if1{t:mE}(h:DT K X c t):WY K X [c] t:=⟨λy=>Lk<|h.of y⟩
theorem vd(S:bM X N src scope)(hit:DI K X tg iter ti)(hg:∀C s H ex pn,PG (i_ X N scope C s H ex pn) tg g)(hx:BV g src)(Zt:∀v τ H Q,Tg K gd v τ H Q->g v τ H Q) (hi:∀C s H ex pn,WY K (i_ X N scope C s H ex pn) ifs tc) (he:∀C s H ex pn,DE K (i_ X N scope C s H ex pn) elt te) (hs:autoParam (∀x,foldedSetIterable iter X.env x=pure x) qQ0) (hc:autoParam (X.calm=true) qQJ):DE K X (.ListComp elt [{tg,iter,ifs,0}] scope pos) (Ej ti src gd tc te):=⟨λy=>(Ln (X:=y.cx) (tc:=Tt K (λ_=>E0) tc) (te:=T K (λ_=>E0) te) ⟨S.kind,S.gQ,S.loc,S.Br,S.len,S.src⟩ hc (hit.of y) hg hx (λC s H ex pn=>(hi C s H ex pn).of<|.none _ rfl) (λC s H ex pn=>(he C s H ex pn).of<|.none _ rfl) hs).mono λ_ _ _ h=>h.comp Zt⟩
theorem Kq(hN:X.N.Nodup)(S:bM X N src scope)(hit:DI K X tg iter ti)(hg:∀C s H ex pn,PG (i_ X N scope C s H ex pn) tg g)(hx:BV g src)(Zt:∀v τ H Q,Tg K gd v τ H Q->g v τ H Q) (hi:∀C s H ex pn,WY K (i_ X N scope C s H ex pn) ifs tc) (he:∀C s H ex pn,DE K (i_ X N scope C s H ex pn) elt te) (Yy:autoParam (X.N[i]?=some x) qQJ) (y6:autoParam (X.env.scope.names.lookup x=some .local) qQJ) (Yz:autoParam (swapsWith (.ListComp elt [{tg,iter,ifs,0}] scope pos) (some<|.Name x pos') Lo.line X.env=pure true) qQJ) (hs:autoParam (∀x,foldedSetIterable iter X.env x=pure x) qQ0) (hc:autoParam (X.calm=true) qQJ):DS K X b (.Assign [.Name x pos'] (.ListComp elt [{tg,iter,ifs,0}] scope pos) Lo) (UJ i<|Ej ti src gd tc te):=⟨λy=>(BW (X:=y.cx) (i:=i) (tc:=Tt K (λ_=>E0) tc) (te:=T K (λ_=>E0) te) hN Yy y6 ⟨S.kind,S.gQ,S.loc,S.Br,S.len,S.src⟩ hc (hit.of y) hg hx (λC s H ex pn=>(hi C s H ex pn).of<|.none _ rfl) (λC s H ex pn=>(he C s H ex pn).of<|.none _ rfl) Yz hs).mono <| by rintro D τ H ⟨σ,S,De,Z,aB,hS,q,hD,hZ⟩;exact T.comp Zt {σ,S,_,_,aB,hS,q,λd S1 v H1 r1 v1 s1 k1=>hD.nx _ _ _ _ r1 ((aB.ts k1).set i v1) s1 k1,hZ.at aB}⟩
theorem aV:∀v τ H Q,Tg K (WT i) v τ H Q->i9 i v τ H Q:=by rintro v τ H Q ⟨d,σ,S,R,rv,aB,hS,q,hR⟩;exact hR _ S _ H q (aB.set i rv) hS<|.refl _
end
structure wm(K:Frag)(x qual:Str)(st:Stmt)(f:Addr)(fd:FuncData):Prop where
 ex:∃(oc:Value)(od:Option Addr)(dV kV doc pm:Value)(an:Option Addr)(g_ ct:Value)(Pn:Array (Option Value)),
  fd=fnOf x qual (bp st) (bh st) (ae st) dV kV doc pm an g_ ct/\K.lookup f=some {oc,od,.func fd,Pn}/\codeIn K g_ qual=true
noncomputable def jK(N:List Str)(ds:List D):SD:=ds.map some++List.replicate (N.length-ds.length) none
section
variable{i:Nat}{P:Program}{w:World}{K:Frag}{mg:Str->Option Value}{base:Heap}
theorem wm.okD{x qual:Str}{st:Stmt}{f:Addr}{fd:FuncData}{N ps:List Str}{k:Nat}{sp:kO}(F:wm K x qual st f fd)(S:gx N ps<|ae st)(len:∀ds S R Z,sp ds S R Z->ds.length=ps.length) (mI:∀(g_:Value)(A:Around)(outer:List Env)(s:Shared)(H:Hp)(E:XK)(ds:List D)(S:au)(R:KD)(Z:KX),bW k (A.deeper<|envOfC qual (ae st) s.heap.objs.size f g_)->sp ds S R Z->∃t,Hb K (kM (fE P w mg) P w K mg base N qual (ae st) f g_ A outer s H E) true (bh st) t/\t {nx:=λ_ S'=>R .av S',rt:=R} (jK N ds) S λ_=>Z):bI P w K mg base (fE P w mg) (k+1) f fd ps (q8 K sp):=by
 obtain⟨oc,od,dV,kV,doc,pm,an,g_,ct,Pn,rfl,lk,t9⟩:=F.ex;have dN:ps.length<=N.length:=by have:=congrArg List.length S.pre;rw[ym]at this;lia
 refine Nq lk t9 S (by rintro vs H Q E ⟨ds,S',R,Z,v,_,h,_⟩;exact by rw[v.len];exact len _ _ _ _ h) λA outer s H vs Q E hr ⟨ds,S',R,Z,v,hS,h,hR,hZ⟩=>?_;obtain⟨t,ht,q⟩:=mI g_ A outer s H E ds S' R Z hr h;have L:dq (kM (fE P w mg) P w K mg base N qual (ae st) f g_ A outer s H E) E:=u6;let y:Ev (kM (fE P w mg) P w K mg base N qual (ae st) f g_ A outer s H E) true:={_,(kM (fE P w mg) P w K mg base N qual (ae st) f g_ A outer s H E).xe,λ_=>E,{λp2 τ H1 s1 e s' I h=>Ny L p2 τ H1 s1 e s' I h,λ_ p2 τ H1 s1 h' a cls args I hx he=>pS L I hx he,λ_=>PassesOwn.leaving}};refine{Tl K (λ_=>E) t,ht.of y,jK N ds,S',_,λ_=>Z,?_,hS,q,{λσ S1 τ H1 r a b c=>hR.kp c |>.now b r jG,hR,λ_ _ _ _ z=>z.elim,λ_ _ _ _ z=>z.elim},λσ τ C S1 H1 z a b c=>hZ C S1 H1 z b c};unfold jK start;refine(sv v).app ?_;rw[v.len];exact su _ _<|by rw[List.length_replicate]
theorem bI.Qo(F:bI P w K mg base (fE P w mg) k f fd ps<|q8 K sp)(h:∀ds S R Z,WD ds S R Z->sp ds S R Z):bI P w K mg base (fE P w mg) k f fd ps (q8 K WD):=F.imp <| by rintro vs H Q E ⟨ds,S,R,Z,a,b,c,d⟩;exact{ds,S,R,Z,a,b,h _ _ _ _ c,d}
theorem bI.calm(F:bI P w K mg base (fE P w mg) k f fd ps sp):bI P w K mg base WH k f fd ps λvs H Q _=>sp vs H Q E0:=by refine{λvs H Q E h=>F.len vs H Q E0 h,λA outer s H args us vs Q E hr e0 hb r h=>yT (F.run A outer s H args us vs Q E0 hr e0 hb r h) λres s' q=>?_};cases res with|error e=>(obtain⟨_,_,_,_,_,_,_,_,_,z⟩:=q;exact z.elim)|ok fl=>cases fl<;>exact q
noncomputable def u9.less(De:u9)(i:Nat):u9:={nx:=λσ S=>De.nx (σ.set i none) S,rt:=De.rt,bk:=λσ S=>De.bk (σ.set i none) S,ct:=λσ S=>De.ct (σ.set i none) S}
end
theorem ve{P:Program}{w:World} : ∀{ss:List Str}{vs:List Value},vs.length=ss.length->(∀(j:Nat)(v:Value),vs[j]?=some v->∃x,ss[j]?=some x/\keyIs (.inr x) v=true)->StrsAre vs ss|[],[],_,_=>.nil|[],_::_,h,_=>by simp at h|_::_,[],h,_=>by simp at h|x::ss,v::vs,h,k=>by obtain⟨x',e,q⟩:=k 0 v rfl;cases e;rcases bB q with⟨i,t,e,_⟩|⟨y,t,e,rfl⟩;cases e;cases e;exact .cons x t<|ve (P:=P) (w:=w) (by simpa using h) λj v e=>k (j+1) v<|by simpa using e
theorem vf:∀{vs:List Value}{ss:List Str},StrsAre vs ss->Vals (ss.map V.str) vs|_,_,.nil=>.nil|_,_,.cons y t h=>.cons ⟨t,rfl⟩<|vf h
theorem KV.Zu{κ:Type}{kvs:List<|κ×V}{vs:List<|κ×Value}(h:KV kvs vs):vs.map (·.1)=kvs.map (·.1):=by unfold KV at h;induction h with|nil=>rfl|cons r t ih=>rw[zI,zI,ih,r.1]
theorem Io{prog:Program}{w:World}{A:Around}{E:Value->Shared->Prop}{s:Shared}{T:String}{r d:Addr}{n:Nat}{P:Nat->Value->Prop}{OK:Heap->Prop}{R:List Value->Shared->Prop}(K:PySem.W.KdlSrc prog w T r d n P OK)(hh:A.handled=none)(aL:OK s.heap)(hn:n<=sizeLine) (h:∀(h':Heap) (tk:Nat) (acc:Array Value),(∀b o,s.heap.get? b=some o->h'.get? b=some o)->s.heap.objs.size<=h'.objs.size->ItemsOf P acc n->R acc.toList {s with heap:=h',toks:=tk}): wpAny (model prog w) A (collect<|.ref r) R E s:=by have eO:=K.there _ aL;unfold collect;refine zc<|wpAny_runValue<|yP entry_proto_collect' ?_;rw[Around.under_plainId PySem.F.plain_proto_collect _];show wpAny _ A.in1 (newList [] >>=λl=>again<|.builtin "list.__iadd__" {[l,.ref r],[]}) _ _ s;refine zc<|yG ?_;refine zA {plainId_quiet PySem.F.plain_list_iadd _,yP entry_list_iadd' ?_};rw[Around.under_plainId PySem.F.plain_list_iadd _];have UU:(s.heap.push {cls:=.type "list",data:=.seq ([]:List Value).toArray}).get? s.heap.objs.size=some {cls:=.type "list",data:=.seq #[]}:=zj _ rfl;show wpAny _ A.in1 (Builtin.List.listExtendWith (.ref s.heap.objs.size) (.ref r)<|.ref s.heap.objs.size) _ _ _;have key:=PySem.W.kdl_extend (A:=A) (s:={s with heap:=s.heap.push {cls:=.type "list",data:=.seq ([]:List Value).toArray}}) (R:=λ(q:Result) (s':Shared)=>∃(h':Heap) (tk:Nat) (Al:Array Value) (c':Nat),q=.ok (.ret<|.ref s.heap.objs.size)/\s'={s with heap:=h',toks:=tk}/\(∀b o,s.heap.get? b=some o->h'.get? b=some o)/\h'.get? s.heap.objs.size=some {cls:=.type "list",dict:=none,data:=.seq Al c',slots:=#[]}/\ItemsOf P Al n) K hh (K.keep _ _ aL λb _ o e=>zb _ e) s.heap.objs.size (yn eO.1) (yn eO.2) (.ref s.heap.objs.size) 0 UU (λh' tk Al c' hk q_ rY=>{h',tk,Al,c',rfl,rfl,λb o e=>hk b o (zB<|zw e)<|zb _ e,q_,rY}) hn;refine yF key (λfin s' x=>?_) λe s' x=>?_;{cases fin with|done f=>(obtain⟨h',tk,Al,c',e,rfl,hk,q_,rY⟩:=x;cases e;show wpAny _ A (load s.heap.objs.size >>=_) _ _ _;exact zc<|wpAny_load q_<|zA<|h h' tk Al hk (yw<|zw q_) rY)|again c₁=>refine{x.1,yT x.2 λq bV y=>?_};obtain⟨h',tk,Al,c',rfl,rfl,hk,q_,rY⟩:=y;show wpAny _ A (load s.heap.objs.size >>=_) _ _ _;exact zc<|wpAny_load q_<|zA<|h h' tk Al hk (yw<|zw q_) rY};obtain⟨_,_,_,_,e',_⟩:=x;cases e'
theorem wo{X:Cx}(hc:X.calm=true):fe X (.builtin "sorted") (λxs H Q=>∃(a:Addr)(kvs:List (Key×V))(ss:List Str),xs=[.ref a]/\H a=some (.dK kvs)/\kvs.map (·.1)=ss.map Sum.inr/\kvs.length<64/\∀Ek,Ek.Perm ss->sortedS Ek=true->∀l,H l=none->Q (.ref l) (upd H l<|.lst<|Ek.map V.str)):=by
 intro pins s σ H xs us Q I r h;obtain⟨a,kvs,ss,rfl,e,hk,hl,q⟩:=h;obtain⟨u,rfl,ru⟩:=vals1 r;cases ru;obtain⟨z,hd,vs,rel,dd⟩:=Eb I.aL e;obtain⟨ep,WZ⟩:=dd.dictAt;have hlen:vs.length<64:=by rw[<-rel.length];exact hl
 have hh:=I.ok.hd hc;refine PySem.Calls.call_function_entry kind_sorted plain_sorted entry_sorted (args_sorted1 _) ?_;unfold Builtin.«sorted»;refine zc (m:=checkCount "sorted" 1 1 _)<|zA ?_;refine zc<|Io (A:=X.A.in1) (PySem.W.kdl_dict (knd:=aH X.prog X.w) (kvs:=vs) (ep:=ep) hd) hh WZ (by rw[ye];omega) λh' tk acc NP hB rY=>?_;have Pz:acc.toList.length=vs.length:=by rw[yr];exact rY.1
 refine zc<|wpAny_newList ?_ (by rw[Pz,ye];omega);have hS:StrsAre acc.toList ss:=by have hkv:=rel.Zu;refine ve (P:=X.prog) (w:=X.w) (by rw[Pz,<-rel.length];have:=congrArg List.length hk;simpa using this) λj v ev=>?_;obtain⟨k,x,e1,e2⟩:=rY.2 j v (by rw[<-Array.getElem?_toList];exact ev);have e3:(vs.map (·.1))[j]?=some k:=(by rw[zk,e1];rfl);rw[hkv,hk,zk]at e3;cases q2:ss[j]? with|none=>(rw[q2]at e3;cases e3)|some y=>rw[q2]at e3;cases e3;exact⟨y,rfl,e2⟩
 have G6:(h'.push<|seqObj "list" acc.toList.toArray 0).get? h'.objs.size=some (seqObj "list" acc.toList.toArray 0):=zj _ rfl;show wpAny _ _ _ _ _ {s with heap:=h'.push<|seqObj "list" acc.toList.toArray 0,toks:=tk};refine zc<|yI<|yL slot_list_sort {_,G6,rfl} entry_list_sort (list_sort_treeK (s:={s with heap:=h'.push<|seqObj "list" acc.toList.toArray 0,toks:=tk}) strKind_oneLt G6 hS.keysOf (λoz oA rest e=>keyKind_strs<|by rw[<-e];exact hS) (by rw[Pz];exact hlen) λdP hp hs=>!⟨?_⟩)<|args_list_sort _;refine zA !⟨?_⟩;obtain⟨Ek,h1,h2,h3⟩:=sorted_out_str hS hp hs;obtain⟨e1,Iq⟩:=sortedHeap_at (vs:=acc.toList) (n:=0) (out:=(arrOf dP).map (·.2)) G6;have UW:Ek.length<=sizeLine:=by rw[h2.length_eq,ye];have:=congrArg List.length hk;rw[za,za]at this;omega
 refine{.ref h'.objs.size,_,I.laid (a:=h'.objs.size) (o:=.lst<|Ek.map V.str) (λb u hb=>?_) hB {by rw[za];exact UW,_,e1,vf h1,Iq},rfl,q Ek h2 h3 _<|I.aL.fresh hB};have eO:=zw<|NP b u hb;rw[sortedHeap_old (zB eO)<|by rw[ya];exact Nat.lt_succ_of_lt eO,zb _<|NP b u hb]
section
variable{K:Frag}
def LW:List D->au->KD->Prop:=λds S R=>∃(a:Addr)(kvs:List (Key×D))(ss:List Str),ds=[.ref a]/\S a=some (.cO kvs)/\kvs.map (·.1)=ss.map Sum.inr/\kvs.length<64/\∀Ek,Ek.Perm ss->sortedS Ek=true->∀p,S p=none->R (.ref p) (S.set p<|.lst<|Ek.map D.str)
theorem bY.keys{κ:Type}{H:Hp}{ks:List<|κ×D}{vs:List<|κ×V}(h:bY K H ks vs):vs.map (·.1)=ks.map (·.1):=by unfold bY at h;induction h with|nil=>rfl|cons r t ih=>rw[zI,zI,ih,r.1]
theorem sD:jd K (.builtin "sorted") LW:=by rintro X hK hc pins s σ H xs us Q I rx ⟨ds,S,R,r,hS,⟨a,kvs,ss,e,e1,hk,hl,h⟩,hR⟩;subst e;obtain⟨v,rfl,r1⟩:=r.one;obtain⟨vs,e2,t⟩:=hS.cO e1;exact wo hc pins s σ H _ us Q I rx {a,vs,ss,by rw[r1.ref],e2,by rw[t.keys];exact hk,by rw[t.len];exact hl,λEk p1 p2 l hl=>hR.new hS hl (h Ek p1 p2 l)<|wd Ek}
end
def NQ(K:Frag)(a:Addr)(n:Nat):It:={λi H=>∃xs x,kz K H a xs/\xs.length=n/\i<n/\xs[n-1-i]?=some x,λi H x H'=>H'=H/\∀xs,kz K H a xs->xs.length=n->xs[n-1-i]?=some x,λi _=>n<=i}
theorem Ir{P:Program}{w:World}{K:Frag}{tg:Expr}(a it:Addr)(n:Nat):Turn P w K tg (NQ K a n) [it] it (λi h=>i<=n/\h.IsRevIter it a ((n:Int)-1-(i:Int))) where
 mem:=by simp
 obj:=λi h st b hb=>by
  have e:b=it:=by simpa using hb
  subst e
  obtain⟨_,o,e,c,d⟩:=st
  exact{o,e,λv z=>by rw[d]at z;cases z}
 keep:=λi h h' st k=>{st.1,st.2.at λo e=>k it (by simp) o e}
 item:=by
  intro X hP hw hK hc i pins s σ H E I hf st hg
  subst hP hw hK
  obtain⟨xs,x,hq,hn,hi,hx⟩:=hg
  obtain⟨ay,rv,p,hz⟩:=I.list hq
  obtain⟨u,hu,ru⟩:=rv.get hx
  obtain⟨f0,f1,f2,f3,f4,f5⟩:=hf it<|by simp
  have e:(n:Int)-1-(i:Int)=((n-1-i:Nat):Int):=by lia
  have hit:=st.2
  rw[e]at hit
  refine wpAny_pyNext_rev_item hit p.isList (x:=u) (by simpa using hu) λh' dP sb=>?_
  have I1:Inv X pins σ H {s with heap:=h'}:=I.turned (t':=s.toks) (λb o hb e=>(sb.2 b hb).trans e) f0 f1 f3 f4 f5
  obtain⟨o,e1,c,d⟩:=id dP
  refine{u,rfl,uS (s:={s with heap:=h'}) e1 c d (by decide) {x,H,I1,ru,{rfl,λys hy _=>by rw[I.x5 hy hq];exact hx},{hi,?_},λb hb=>(hf b hb).1}}
  have e2:(n:Int)-1-((i+1:Nat):Int)=((n-1-i:Nat):Int)-1:=by lia
  rw[e2];exact dP
 done:=by
  intro X hP hw hK hc i pins s σ H E I hf st hg
  subst hP hw hK
  obtain⟨f0,f1,f2,f3,f4,f5⟩:=hf it<|by simp
  have hg:n<=i:=hg
  have e:(n:Int)-1-(i:Int) = -1:=by have:=st.1;lia
  have hit:=st.2
  rw[e]at hit
  exact wpAny_pyNext_rev_end (I.ok.hd hc) hit λh' eb=>{rfl,I.turned (t':=s.toks) (λb o hb e=>eb b o hb e) f0 f1 f3 f4 f5}
 self:=λ_ _ _ _ _ st h=>wpAny_pyIter_revIter st.2 h
def Zv(K:Frag)(ta:TA):TI:=λσ H R=>ta σ H λvs H1=>∃a xs,vs=[.ref a]/\kz K H1 a xs/\R (NQ K a xs.length) H1
theorem Qp{X:Cx}{tg a:Expr}{ta:TA}{p pos:Pos}(hg:Gl X "reversed")(hm:X.mg "reversed"= none)(ha:PA X [a] ta)(hs:starEach [a] X.env=[(false,eval a X.env)]):PI X tg (.Call (.Name "reversed" p) [a] [] pos) (Zv X.K ta):=by
 intro pins s σ H R I h;refine Call_<|gN I hg hm boot_reversed<|PyProof.Rows.callWith_type1 (bt (ha pos pins s σ H _ I h) λus s1 ⟨vs,H1,I1,r1,q1⟩=>?_) hs rfl;obtain⟨l,xs,e,q,hR⟩:=q1;subst e;obtain⟨u,rfl,ru⟩:=vals1 r1;cases ru;obtain⟨ay,rv,pl,hz⟩:=I1.list q;have hn:ay.toArray.size=xs.length:=by rw[zp,rv.length]
 refine call_reversed_list pl.isList ?_;rw[hn];have st:(s1.heap.push<|revObj l<|(xs.length:Int)-1).IsRevIter s1.heap.objs.size l ((xs.length:Int)-1-((0:Nat):Int)):={_,zj _ rfl,rfl,by show Data.fields _=Data.fields _;simp};have I2:Inv X pins σ H1 {s1 with heap:=s1.heap.push<|revObj l<|(xs.length:Int)-1}:=I1.kept (t':=s1.toks) λb o e=>zb _ e;refine wpAny_pyIter_revIter st {_,_,_,_,H1,rfl,I2,Ir l s1.heap.objs.size xs.length,{zT _,st},λb hb=>?_,hR};have hb:b=s1.heap.objs.size:=by simpa using hb
 subst hb;exact I1.qz (zr _)<|I1.aL.fresh<|zr _
section
variable{K:Frag}{X:Cx}{tg:Expr}
def UX(t:jq):Bu:=λσ S R Z=>t σ S (λds S1=>∃x es,ds=[x]/\we S1 x es/\R {es.reverse,λS=>we S x es} S1) Z
theorem irv{t:jq}(hm:X.mg "reversed"= none)(ha:DA K X [a] t)(hg:autoParam (Gl X "reversed") qQJ)(hs:autoParam (starEach [a] X.env=[(false,eval a X.env)]) qQJ)(hK:autoParam (X.K=K) qQJ):DI K X tg (.Call (.Name "reversed" p) [a] [] pos) (UX t):=by subst hK;exact⟨λy=>(Qp (X:=y.cx) hg hm (ha.of y) hs).mono <| by rintro τ H R ⟨σ,S,RI,Z,aB,hS,q,hR,hZ⟩;exact{σ,S,_,Z,aB,hS,q,by rintro ds S1 vs H1 ⟨x,es,e,h1,r1⟩ v1 s1 k1;subst e;obtain⟨v,rfl,r⟩:=v1.one;obtain⟨a,xs,rfl,hq,t⟩:=h1.at s1 r;refine{a,xs,rfl,hq,hR _ S1 _ H1 r1 (λi S2 H2 k2 s2 WW=>?_) s1 k1};obtain⟨a',Qj,e',Ha,t'⟩:=we.at WW s2<|Rv.ts k2 _ r;cases e';have hl:xs.length=es.length:=t.len;have hl':Qj.length=es.length:=t'.len;refine{λd hd=>?_,λh=>by rw[yC]at h;show xs.length<=i;lia};have hi:i<es.length:=(by have:=(ze.mp hd).1;rwa [yC]at this);rw[List.getElem?_reverse hi]at hd;obtain⟨v,e1,r⟩:=t'.get hd;rw[<-hl]at e1;refine{{Qj,v,Ha,by lia,by lia,e1},λx' H' ⟨e2,e3⟩=>?_};subst e2;have:=e3 Qj Ha (by lia);rw[e1]at this;cases this;exact{r,.refl _,s2},hZ}⟩
noncomputable def cH(xs ys:List D):List D:=List.zipWith (λa b=>D.tup [a,b]) xs ys
def UY(t:jq):Bu:=λσ S R Z=>t σ S (λds S1=>∃xs ys,ds=[.tup xs,.tup ys]/\xs.length=ys.length/\R {cH xs ys,λ_=>True} S1) Z
theorem rf:∀v τ H Q,Tg K (NN 2<|Cu (WT i)<|Cu (WT j) NM) v τ H Q->KY K 2 (rJ (i9 i)<|rJ (i9 j) KR) v τ H Q:=by rintro v τ H Q ⟨d,σ,S,R,rv,aB,hS,⟨ds,e,hl,a,r,e1,b,r',e2,e3,q⟩,hR⟩;subst e e1 e2 e3;obtain⟨p,xs,rfl,hp,t⟩:=rv.tup;obtain⟨v1,v2,rfl,r1,r2⟩:=t.two;exact{p,_,rfl,.of hp,rfl,v1,[v2],rfl,v2,[],rfl,rfl,hR _ S _ H q ((aB.set i r1).set j r2) hS<|.refl _}
end
section
variable{K:Frag}{X:Cx}{b:Bool}{pos:Pos}
def UZ(tl ti tv:TD):mT:=λDe σ S Z=>tv σ S (λv S1=>tl σ S1 (λx S2=>ti σ S2 (λy S3=>∃a es i j,x=.ref a/\y=.int i/\S3 a=some (.lst es)/\Hx es.length i=some j/\De.nx σ (S3.set a<|.lst<|es.set j v))<|Z σ)<|Z σ)<|Z σ
theorem sls{o i value:Expr}{tl ti tv:TD}{pos':Pos}(ho:DE K X o tl)(hi:DE K X i ti)(hv:DE K X value tv)
  (ha:autoParam (∀v,assign (.Subscript o i pos') X.env v=(do
   let ov <-holding [v] (eval o X.env)
   let iv <-holding [v,ov] (eval i X.env)
   standAt pos'
   holding [v,ov,iv] (setItem ov iv v)
   release [v,ov,iv] [])) qQ0)
  (hs:autoParam (swapsWithSole [.Subscript o i pos'] value pos.line X.env=pure false) qQJ) (hw:autoParam (swappedStores [.Subscript o i pos'] value X.env=pure none) qQJ) (h1:autoParam ((assignEach [.Subscript o i pos'] X.env).map (·.2)=[assign (.Subscript o i pos') X.env]) qQJ):
  DS K X b (.Assign [.Subscript o i pos'] value pos) (UZ tl ti tv):=
 ⟨λy=>(Hl (X:=y.cx) (hv.of y) (OY (ho.of y) (hi.of y) set_list ha) hs hw h1).mono <| by rintro D τ H ⟨σ,S,De,Z,aB,hS,q,hD,hZ⟩;exact
  ⟨σ,S,_,_,aB,hS,q,λv S1 vv H1 r1 v1 s1 k1=>⟨σ,S1,_,_,aB.ts k1,s1,r1,λx S2 xv H2 r2 v2 s2 k2=>⟨σ,S2,_,_,aB.ts<|k1.trans k2,s2,r2,by
   rintro y S3 yv H3 ⟨a,es,i,j,e1,e2,e3,e4,r3⟩ v3 s3 k3
   subst e1 e2
   obtain⟨xs,e5,t⟩:=s3.lst e3
   have kk:=s3.iI (o:=.lst<|xs.set j vv) e3
   refine{a,xs,i,j,(Rv.ts k3 _ v2).ref,v3.int,e5,by rw[t.len];exact e4,?_}
   exact hD.nx _ _ _ _ r3 (aB.ts<|((k1.trans k2).trans k3).trans kk) (s3.put (c:=.lst _) e3 {_,aF,RvAll.ts kk _<|t.set j<|Rv.ts (k2.trans k3) _ v1})<|((k1.trans k2).trans k3).trans kk,hZ.on (k1.trans k2)<|aB.ts<|k1.trans k2⟩,hZ.on k1<|aB.ts k1⟩,hZ.at aB⟩⟩
noncomputable def fG(z:Str):List D:=z.cps.toList.map λc=>D.str ⟨#[c]⟩
def NR(t:TD):Bu:=λσ S R Z=>t σ S (λx S1=>∃z,x=.str z/\R {fG z,λ_=>True} S1) Z
theorem Qq{t:TD}(h:DE K X l t):DI K X tg l (NR t):=⟨λy=>(PN (X:=y.cx)<|h.of y).mono <| by rintro τ H R ⟨σ,S,RI,Z,aB,hS,q,hR,hZ⟩;exact⟨σ,S,_,Z,aB,hS,q,by
 rintro x S1 v H1 ⟨z,e,r1⟩ v1 s1 k1;subst e;refine{z,v1.str,hR _ S1 _ H1 r1 (λi S2 H2 k2 s2 _=>{λd hd=>?_,λhl=>?_}) s1 k1};unfold fG at hd;rw[zk,Array.getElem?_toList]at hd;cases q:z.cps[i]? with|none=>(rw[q]at hd;cases hd)|some c=>rw[q]at hd;cases hd;refine{(Array.getElem?_eq_some_iff.mp q).1,λx' H' ⟨e1,c',e2,e3⟩=>?_};rw[q]at e2;cases e2;subst e1 e3;exact{fF _,.refl _,s2}
 unfold fG at hl;rw[za,yr]at hl;exact hl,hZ⟩⟩
def LX(t:TD):TD:=λσ S R Z=>t σ S (λx S1=>∃ss:List Str,we S1 x (ss.map D.str)/\ss.length<4000/\R (.int (jb ss).length) S1) Z
theorem lse{t:TD}(h:DE K X e t)(hm:X.mg "len"= none)(hm':X.mg "set"= none)(hp:autoParam (isPlain e=true) qQJ)(hg:autoParam (Gl X "len") qQJ)(Zw:autoParam (Gl X "set") qQJ)(he:autoParam (starEach [e] X.env=[(false,eval e X.env)]) qQJ) (he2:autoParam (starEach [Expr.Call (.Name "set" p') [e] [] pos'] X.env=[(false,eval (.Call (.Name "set" p') [e] [] pos') X.env)]) qQJ) (hK:autoParam (X.K=K) qQJ) (hc:autoParam (X.calm=true) qQJ): DE K X (.Call (.Name "len" p) [.Call (.Name "set" p') [e] [] pos'] [] pos) (LX t):=by subst hK;refine⟨λy=>(yW (X:=y.cx) (FL (X:=y.cx) rfl rfl) hg hm aE (YA (uY (X:=y.cx) (FK (X:=y.cx) rfl rfl rfl hc) Zw hm' PY (YA (h.of y) BL hp) (by decide) (by decide) he rfl) BL rfl) (by decide) (by decide) he2 rfl).mono λτ H Q ⟨σ,S,R,Z,aB,hS,q,hR,hZ⟩=>?_⟩;refine{σ,S,_,Z,aB,hS,q,λx S1 v H1 ⟨ss,h1,hl,r1⟩ v1 s1 k1=>?_,hZ};obtain⟨a,xs,rfl,hq,t⟩:=h1.at s1 v1;rw[t.strs]at hq;exact{a,ss,rfl,hq,hl,λl hl=>{l,ss,rfl,aF,hR _ _ _ _ r1 (aS _) (s1.grow hl)<|k1.trans<|.new hl}}
end
theorem eE:bootBuiltins "sorted"= some (.builtin "sorted"):=by trivial
def Sub(S S':au):Prop:=∀b c,S b=some c->S' b=some c
theorem Sub.refl(S:au):Sub S S:=λ_ _ h=>h
theorem Sub.trans(a:Sub S S1)(b:Sub S1 S2):Sub S S2:=λp c h=>b p c<|a p c h
theorem Sub.new(h:S p=none):Sub S (S.set p c):=λb c' hb=>by rw[ag<|ib hb h];exact hb
theorem Rs.sub{K:Frag}{S S':au}{H:Hp}(h:Rs K S' H)(s:Sub S S'):Rs K S H:=λa c e=>h a c<|s a c e
inductive Fo (S':au) (p:au->Prop):Prop where
 |mk (S:au) (h:Sub S S') (r:p S):Fo S' p
theorem fo(h:p S):Fo S p:={S,.refl S,h}
section
variable{P:Program}{w:World}{K:Frag}{mg:Str->Option Value}{base:Heap}
theorem wm.ok{x qual:Str}{st:Stmt}{f:Addr}{fd:FuncData}{N ps:List Str}{k:Nat}{sp:kO}(F:wm K x qual st f fd)(S:gx N ps<|ae st)(len:∀ds S R Z,sp ds S R Z->ds.length=ps.length) (mI:∀(g_:Value)(A:Around)(outer:List Env)(s:Shared)(H:Hp)(E:XK)(ds:List D)(S:au)(R:KD)(Z:KX),bW k (A.deeper<|envOfC qual (ae st) s.heap.objs.size f g_)->sp ds S R Z->∃t,Hb K (kM (fE P w mg) P w K mg base N qual (ae st) f g_ A outer s H E) true (bh st) t/\t {nx:=λ_ S'=>Fo S'<|R .av,rt:=λd S'=>Fo S'<|R d} (jK N ds) S λ_ C S'=>Fo S'<|Z C):bI P w K mg base (fE P w mg) (k+1) f fd ps (q8 K sp):=by
 have F2:bI P w K mg base (fE P w mg) (k+1) f fd ps (q8 K λds S R' Z'=>∃R Z,sp ds S R Z/\R'=(λd S'=>Fo S'<|R d)/\Z'=λC S'=>Fo S'<|Z C):=by refine F.okD S (by rintro ds S R Z ⟨R0,Z0,h,_⟩;exact len _ _ _ _ h) λg_ A outer s H E ds S R Z hr ⟨R0,Z0,h,e1,e2⟩=>?_;subst e1 e2;exact mI g_ A outer s H E ds S R0 Z0 hr h
 refine F2.imp <| by rintro vs H Q E ⟨ds,S,R,Z,v,hS,h,hR,hZ⟩;exact{ds,S,_,_,v,hS,⟨R,Z,h,rfl,rfl⟩,by rintro d S' u H' ⟨S2,sb,r⟩ rv rs kp;exact hR d S2 u H' r rv (rs.sub sb) kp,by rintro C S' H' ⟨S2,sb,r⟩ rs kp;exact hZ C S2 H' r (rs.sub sb) kp}
end
section
variable{K:Frag}{X:Cx}{b:Bool}
def U0(t:mT):mT:=λDe σ S Z=>∃P:SD->au->Prop,t {De with nx:=λaI S'=>Fo S'<|P aI} σ S Z/\∀aI S',P aI S'->De.nx aI S'
theorem Bv{st:Stmt}{t:mT}(h:DS K X b st t):DS K X b st (U0 t):=⟨λy=>(h.of y).mono <| by rintro D τ H ⟨σ,S,De,Z,aB,hS,⟨P,q,hP⟩,hD,hZ⟩;exact{σ,S,_,Z,aB,hS,q,{by rintro xS S1 Zi H1 ⟨S2,sb,r1⟩ a b c;exact hD.nx _ _ _ _ (hP _ _ r1) a (b.sub sb) c,hD.rt,hD.bk,hD.ct},hZ}⟩
def dFo(t:TD):TD:=λσ S R Z=>t σ S (λd S'=>Fo S'<|R d) Z
theorem wq{t:TD}(h:DE K X e t):DE K X e (dFo t):=⟨λy=>(h.of y).mono <| by rintro τ H Q ⟨σ,S,R,Z,aB,hS,q,hR,hZ⟩;exact{σ,S,_,Z,aB,hS,q,by rintro d S' v H' ⟨S2,sb,r⟩ rv rs kp;exact hR d S2 v H' r rv (rs.sub sb) kp,hZ}⟩
theorem pT(nd:N.Nodup)(h0:autoParam (N[0]?=some a) qQJ)(hx:autoParam (∀C s H ex pn,Loc (i_ X N scope C s H ex pn).env.scope a/\(i_ X N scope C s H ex pn).env.scope.names.lookup a=some .local) qJQ): ∀C s H ex pn,PG (i_ X N scope C s H ex pn) (.Name a p) (i9 0):=λC s H ex pn=>qR (i:=0) nd h0 (hx C s H ex pn).1<|.inr (hx C s H ex pn).2
theorem W0(nd:N.Nodup)(h0:autoParam (N[0]?=some a) qQJ)(h1:autoParam (N[1]?=some c) qQJ) (hx:autoParam (∀C s H ex pn,Loc (i_ X N scope C s H ex pn).env.scope a/\(i_ X N scope C s H ex pn).env.scope.names.lookup a=some .local) qJQ) (hy:autoParam (∀C s H ex pn,Loc (i_ X N scope C s H ex pn).env.scope c/\(i_ X N scope C s H ex pn).env.scope.names.lookup c=some .local) qJQ) (hl:∀env:Env,(assignEach [.Name a p,.Name c p'] env).length=2/\(assignEach [.Name a p,.Name c p'] env).findIdx? (·.1)=none/\(assignEach [.Name a p,.Name c p'] env).map (·.2)=assign (.Name a p) env::(assignEach [.Name c p'] env).map (·.2)/\(assignEach [.Name c p'] env).map (·.2)=assign (.Name c p') env::(assignEach [] env).map (·.2):=by intro _;exact⟨rfl,rfl,rfl,rfl⟩) (hK:autoParam (X.K=K) qQJ) (hc:autoParam (X.calm=true) qQJ): ∀C s H ex pn,PG (i_ X N scope C s H ex pn) (.Tuple [.Name a p,.Name c p'] j p2) (KY K 2<|rJ (i9 0)<|rJ (i9 1) KR):=λC s H ex pn=>by subst hK;have e:=hl (i_ X N scope C s H ex pn).env;exact Hk (X:=i_ X N scope C s H ex pn) hc (rK (qR (i:=0) nd h0 (hx C s H ex pn).1<|.inr (hx C s H ex pn).2) (rK (qR (i:=1) nd h1 (hy C s H ex pn).1<|.inr (hy C s H ex pn).2) DY e.2.2.2) e.2.2.1) e.1 e.2.1
end
theorem sE:∀{ss:List Str}{ay:List Value},Vals (ss.map V.str) ay->StrsAre ay ss|[],_,.nil=>.nil|z::ss,_,.cons r t=>by obtain⟨tk,rfl⟩:=r;exact .cons z tk<|sE t
end L2
namespace HT
open PySem PySem.Spec PyProof.Rows
end HT
namespace L2
open PySem PySem.Spec PyProof.Rows
inductive Iu (S:au):List D->List PyData->Prop where
 |nil:Iu S [] []
 |cons {d:D}{p:PyData}{ds:List D}{ps:List PyData} : Dl S d p->Iu S ds ps->Iu S (d::ds) (p::ps)
section
variable{K:Frag}
noncomputable def El(p:Str×D):D:=.tup [.str p.1,p.2]
noncomputable def fH(l:List<|Str×D):List (Key×D):=l.foldl (λc p=>dput c (.inr p.1) p.2) []
theorem Em:∀{kvs:List (Str×D)}{ys:List V},RvAll K H (kvs.map El) ys->∃kv:List (Str×V),Prs H ys kv/\∀c c',bY K H c c'->bY K H (kvs.foldl (λc p=>dput c (.inr p.1) p.2) c) (kv.foldl (λc p=>putK c (.inr p.1) p.2) c')|[],ys,h=>(by rw[h.nil];exact{[],{rfl,λi x p e=>(by cases i<;>cases e)},λc c' h=>h})|p::kvs,ys,h=>by obtain⟨y,ys,rfl,r1,r2⟩:=h.cons;obtain⟨b,zs,rfl,hb,tz⟩:=Rv.tup<|show Rv K H (.tup [.str p.1,p.2]) y from r1;obtain⟨v,u,rfl,rv,ru⟩:=tz.two;have ev:=rv.str;subst ev;obtain⟨kv,⟨hl,hp⟩,hf⟩:=Em r2;refine{(p.1,u)::kv,{by rw[zQ,zQ,hl],λi x q e1 e2=>?_},λc c' h=>hf _ _<|h.put (.inr p.1) ru};cases i with|zero=>(cases e1;cases e2;exact⟨b,rfl,hb⟩)|succ i=>exact hp i x q e1 e2
def U1:List D->au->KD->Prop:=λds S R=>∃kvs:List (Str×D),ds=[.tup<|kvs.map El]/\∀p,S p=none->R (.ref p) (S.set p<|.cO<|fH kvs)
theorem Iv:jd K (.type "dict") U1:=by rintro X hK hc pins s σ H xs us Q I rx ⟨ds,S,R,r,hS,⟨kvs,e,h⟩,hR⟩;subst hK e;obtain⟨v,rfl,r1⟩:=r.one;obtain⟨a,ys,rfl,q,t⟩:=r1.tup;obtain⟨kv,hp,hf⟩:=Em t;refine B8 hc pins s σ H _ us Q I rx {a,ys,kv,rfl,q,hp,λl hl=>?_};have kn:Kp X.K H (upd H l<|.dK<|Ed kv):=.new hl;exact hR _ _ _ _ (h l<|hS.fresh hl) (iH l) (hS.new (c:=.cO<|fH kvs) hl {_,aF,(hf [] [] .nil).ts kn}) kn
theorem Am(kvs:List<|Key×D)(k k':Key)(d:D):bZ (dput kvs k d) k'=if k'=k then some d else bZ kvs k':=by
 unfold dput;by_cases hk:(kvs.any λkv=>decide<|kv.1=k)=true;rw[if_pos hk];unfold bZ;induction kvs with|nil=>(cases hk)|cons r kvs ih=>rw[zI,z0,z0];by_cases e:r.1=k;rw[if_pos e];by_cases e2:k'=k;rw[if_pos e2,show decide (r.1=k')=true from zu (e.trans e2.symm)];rfl;rw[if_neg e2,show decide (r.1=k')=false from zq λq=>e2<|q.symm.trans e];by_cases c_:(kvs.any λkv=>decide<|kv.1=k)=true;have:=ih c_;rw[if_neg e2]at this;exact this;have em:kvs.map (λkv=>if kv.1=k then (kv.1,d) else kv)=kvs:=(by(conv=>rhs;rw[<-List.map_id kvs]);refine zU λx hx=>?_;rw[if_neg λq=>c_<|List.any_eq_true.mpr {x,hx,zu q}];rfl);rw[em];rw[if_neg e];have c_:(kvs.any λkv=>decide<|kv.1=k)=true:=(by rw[yQ,zq e,yU]at hk;exact hk);by_cases e3:r.1=k';rw[zu e3,if_neg λq=>e<|e3.trans q];rw[zq e3];exact ih c_
 rw[if_neg hk];unfold bZ;rw[List.find?_append];have hn:∀x∈kvs,x.1≠k:=λx hx q=>hk<|List.any_eq_true.mpr {x,hx,zu q};by_cases e:k'=k;subst e;rw[if_pos rfl,List.find?_eq_none.mpr λx hx=>by simp[hn x hx]];simp;rw[if_neg e];have:([(k,d)].find? λkv=>decide<|kv.1=k')=none:=by rw[z0,show decide (k=k')=false from zq λq=>e q.symm];rfl
 rw[this,Option.or_none]
theorem vg(l:List<|Str×D)(z:Str):(bZ (fH l)<|.inr z).isSome=l.any λp=>decide (p.1=z):=by
 have all:∀(l:List (Str×D))(c:List (Key×D)),(bZ (l.foldl (λc p=>dput c (.inr p.1) p.2) c)<|.inr z).isSome=((bZ c<|.inr z).isSome||l.any λp=>decide<|p.1=z):=by intro l;induction l with|nil=>intro c;simp|cons p l ih=>intro c;rw[yO,ih,Am,yQ];by_cases e:p.1=z;rw[if_pos<|by rw[e],zu e];simp;rw[if_neg λq=>e (yN q).symm,zq e];simp
 exact(all l []).trans<|by rfl
def U4(a:Addr)(kvs:List<|Str×V):xU:=λx y S R=>∃z,x=.str z/\y=.ref a/\R (.bl (kvs.lookup z).isSome) S
theorem Zx{X:Cx}{a b:Expr}{ta tb:TD}{pos:Pos}{w:World}{ad:Addr}{kvs:List<|Str×V}(d:Kl w K ad kvs)(ha:DE K X a ta)(hb:DE K X b tb)(hw:autoParam (X.w=w) qQJ)(hm:autoParam (behindInMarks .In b=false) qQ2)(hK:autoParam (X.K=K) qQJ): DE K X (.Compare a [.In] [b] pos) (Qd (U4 ad kvs) ta tb):=by refine⟨λy=>(D5 (X:=y.cx) (r:=Lr K<|U4 ad kvs) ?_ (ha.of y) (hb.of y) hm).mono λ_ _ _ h=>h.op⟩;rintro pins s σ H x y' v u Q I rx ry ⟨d',e,S,R,r1,r2,hS,⟨z,e1,e2,h⟩,hR⟩;subst e1 e2;exact HX (X:=y.cx) hw hK pins s σ H x y' v u Q I rx ry {z,ad,kvs,r1.str,r2.ref,d,hR.now hS h<|bJ _}
end
structure U5(k:Nat)(A:Around):Prop where
 dp:A.depth+3*k+5<recursionLimit
 un:A.units+16*k+200<cLine
structure FnH(P:Program)(w:World)(K:Frag)(mg:Str->Option Value)(base:Heap)(k:Nat)(f:Addr)(fd:FuncData)(ps:List Str)(sp:kO):Prop where
 len:∀ds S R Z,sp ds S R Z->ds.length=ps.length
 run:∀(A:Around)(outer:List Env)(s:Shared)(H:Hp)(args:Args)(us:List Value)(vs:List V)(Q:VK),U5 k A->x9 P w K mg base A outer s H->BindsTo s fd args (ps.zip us)->Vals vs us->q8 K sp vs H Q E0 ->
  codeAny (model P w) A (.call (.ref f) args) (CR (fE P w mg) outer P w H s Q E0) s
def PEg(pre:Nat)(X:Cx)(e:Expr)(t:TE):Prop:=∀(pins:List (Addr×Obj))(s:Shared)(σ:St)(H:Hp)(Q:VK),Inv X pins σ H s->pre<=s.toks->t σ H Q->wpAny (model X.prog X.w) X.A (eval e X.env) (λu s'=>EP X pins σ Q u s'/\1<=s'.toks) X.xe s
structure DEg(pre:Nat)(K:Frag)(X:Cx)(e:Expr)(t:TD):Prop where
 of:∀{b:Bool}(y:Ev X b),PEg pre y.cx e<|T K y.E t
theorem Zy{a b:Str}(h:a.cps.toList=b.cps.toList):a=b:=by obtain⟨⟨x⟩⟩:=a;obtain⟨⟨y⟩⟩:=b;cases h;rfl
end L2
namespace HT
open PySem PySem.Spec PyProof.Rows
end HT
namespace L2
open PySem PySem.Spec PyProof.Rows
section
variable{K:Frag}{X:Cx}
def U6:G_:=λx ds S R=>∃a es fs,x=.ref a/\ds=[.tup fs]/\S a=some (.lst es)/\es.length+fs.length<=sizeLine/\R .av (S.set a<|.lst<|es++fs)
theorem FX:NG K "list.extend" U6:=by rintro X hK pins s σ H x xs v us Q I rx rs ⟨d,ds,S,R,r1,r2,hS,⟨a,es,fs,e1,e2,e3,hl,h⟩,hR⟩;subst e1 e2;obtain⟨w0,rfl,q2⟩:=r2.one;obtain⟨zs,e5,t⟩:=hS.lst e3;obtain⟨p,ys,rfl,q,t2⟩:=q2.tup;exact Cq pins s σ H x _ v us Q I rx rs {a,p,zs,ys,r1.ref,rfl,e5,q,by rw[t.len,t2.len];exact hl,hR.put hS e3 h jG<|t.app t2}
end
section
variable{K:Frag}{X:Cx}{E:XK}
structure DEx(K:Frag)(X:Cx)(E:XK)(e:Expr)(t:TD):Prop where
 of:∀(y:Ev X true),y.E=(λ_=>E)->dq y.cx E->PE y.cx e (T K y.E t)
structure DAx(K:Frag)(X:Cx)(E:XK)(es:List Expr)(t:jq):Prop where
 of:∀(y:Ev X true),y.E=(λ_=>E)->dq y.cx E->PA y.cx es (Ta K y.E t)
structure DSx(K:Frag)(X:Cx)(E:XK)(b:List Stmt)(t:mT):Prop where
 of:∀(y:Ev X true),y.E=(λ_=>E)->dq y.cx E->DU y.cx b (Tl K y.E t)
variable{N:List Str}{src:List (Option Nat)}{scope:Scope}{tg iter elt:Expr}{ifs:List Expr}{ti:Bu}{g:TG}{gd:xV}{tc:mE}{te:TD}
end
open PySem.Builtin PySem.Builtin.Str
structure M3(X:Cx)(o:Expr)(m:Str)(apos:Pos)(e f g:Expr)(aO:Pos):Prop where
 base:attributeBase o m X.env (eval o X.env)=eval o X.env
 G7:((backTo aO<|starEach [e,f,g] X.env).all (λx=>!x.1)&&(backToKw aO<|keywordEach [] X.env).all (λx=>x.1.isSome)
  && decide (([e,f,g]:List Expr).length+([]:List Keyword).length+(if ([]:List Keyword).isEmpty then 0 else 1)<30))=true
 line:(apos.endLine==aO.line)=true
 trees:backTo aO (starEach [e,f,g] X.env)=[(false,eval e X.env),(false,eval f X.env),(false,eval g X.env)]
section
variable{X:Cx}{t:TE}
def PAg(pre:Nat)(X:Cx)(es:List Expr)(t:TA):Prop:=∀(pos:Pos)(pins:List (Addr×Obj))(s:Shared)(σ:St)(H:Hp)(Q:List V->Hp->Prop),Inv X pins σ H s->pre<=s.toks->t σ H Q->wpAny (model X.prog X.w) X.A (spliced<|backTo pos<|starEach es X.env) (AP X pins σ Q) X.xe s
end
section
variable{K:Frag}{X:Cx}
structure DAg(pre:Nat)(K:Frag)(X:Cx)(es:List Expr)(t:jq):Prop where
 of:∀{b:Bool}(y:Ev X b),PAg pre y.cx es<|Ta K y.E t
end
structure Gh(a₀:Array Keyed)(g:Nat->Nat)(xs:Array Keyed):Prop where
 at_:∀k,k<a₀.size->xs[k]?=a₀[g k]?
 lt:∀k,k<a₀.size->g k<a₀.size
 inj:∀i j,i<a₀.size->j<a₀.size->g i=g j->i=j
def Log(κ:KeyKind)(a₀:Array Keyed)(i j:Nat):Prop:=κ.klt (KK κ a₀ i) (KK κ a₀ j)\/(KK κ a₀ i=KK κ a₀ j/\i<j)
def Cw(κ:KeyKind)(a₀:Array Keyed)(g:Nat->Nat)(k:Nat):Prop:=∀i j,i<j->j<k->Log κ a₀ (g i) (g j)
def W2(κ:KeyKind)(a₀:Array Keyed)(g:Nat->Nat)(k:Nat):Prop:=∀i j,i<j->j<k->Log κ a₀ (g j) (g i)
def FY(g:Nat->Nat)(m n:Nat):Prop:=∀k,m<=k->k<n->g k=k
noncomputable def Iw(g:Nat->Nat)(i j k:Nat):Nat:=if i<=k/\k<j then g (i+j-1-k) else g k
noncomputable def LY(g:Nat->Nat)(src l k:Nat):Nat:=if k=l then g src else if l<k/\k<=src then g (k-1) else g k
section
variable{κ:KeyKind}{a₀ xs:Array Keyed}{g:Nat->Nat}
theorem Log.kle(h:Log κ a₀ i j):κ.kle (KK κ a₀ i) (KK κ a₀ j):=by rcases h with h|⟨h,_⟩;exact KeyOrd.kle_of_klt h;rw[h];exact KeyOrd.kle_refl _
theorem NS(h:κ.kle (KK κ a₀ i)<|KK κ a₀ j)(hl:i<j):Log κ a₀ i j:=by cases q:κ.blt (KK κ a₀ i) (KK κ a₀ j) with|true=>exact .inl q|false=>exact .inr {KeyOrd.kle_antisymm h q,hl}
theorem Gh.low(h:Gh a₀ g xs)(t:FY g m a₀.size)(hm:m<=a₀.size)(hi:i<m):g i<m:=by refine Nat.lt_of_not_le λq=>?_;have h1:=h.lt i (by lia);have h2:=h.inj (g i) i h1 (by lia)<|t (g i) q h1;lia
theorem Gh.key(h:Gh a₀ g xs)(hk:k<a₀.size):KK κ xs k=KK κ a₀ (g k):=KK_congr<|h.at_ k hk
theorem Gh.mirror(h:Gh a₀ g xs)(hs:xs.size=a₀.size)(hj:j<=a₀.size):Gh a₀ (Iw g i j) (mirror xs i j<|(j-i)/2) where
 at_:=λk hk=>by
  rw[getElem?_mirror_all<|by lia]
  unfold Iw
  by_cases q:i<=k/\k<j
  ·rw[if_pos q,if_pos q];exact h.at_ _<|by lia
  ·rw[if_neg q,if_neg q];exact h.at_ _ hk
 lt:=λk hk=>by
  unfold Iw
  by_cases q:i<=k/\k<j
  ·rw[if_pos q];exact h.lt _<|by lia
  ·rw[if_neg q];exact h.lt _ hk
 inj:=λa b ha hb e=>by
  unfold Iw at e
  by_cases q:i<=a/\a<j<;>by_cases r:i<=b/\b<j
  ·rw[if_pos q,if_pos r]at e;have:=h.inj _ _ (by lia) (by lia) e;lia
  ·rw[if_pos q,if_neg r]at e;have:=h.inj _ _ (by lia) (by lia) e;lia
  ·rw[if_neg q,if_pos r]at e;have:=h.inj _ _ (by lia) (by lia) e;lia
  ·rw[if_neg q,if_neg r]at e;exact h.inj _ _ ha hb e
theorem Gh.bubble(h:Gh a₀ g xs)(hs:xs.size=a₀.size)(hl:l<=src)(hj:src<a₀.size):Gh a₀ (LY g src l) (bubble xs src<|src-l) where
 at_:=λk hk=>by
  rw[getElem?_bubble (by lia) _<|by lia,show src-(src-l)=l by lia]
  unfold LY
  by_cases q:k=l
  ·rw[if_pos q,if_pos q];exact h.at_ _ hj
  ·rw[if_neg q,if_neg q]
   by_cases r:l<k/\k<=src
   ·rw[if_pos r,if_pos r];exact h.at_ _<|by lia
   ·rw[if_neg r,if_neg r];exact h.at_ _ hk
 lt:=λk hk=>by
  unfold LY
  by_cases q:k=l
  ·rw[if_pos q];exact h.lt _ hj
  ·rw[if_neg q]
   by_cases r:l<k/\k<=src
   ·rw[if_pos r];exact h.lt _<|by lia
   ·rw[if_neg r];exact h.lt _ hk
 inj:=λa b ha hb e=>by
  unfold LY at e
  repeat' split at e
  all_goals (have:=h.inj _ _ (by lia) (by lia) e;lia)
theorem iK(h:i<=k/\k<j):Iw g i j k=g (i+j-1-k):=by unfold Iw;rw[if_pos h]
theorem gA(h:¬(i<=k/\k<j)):Iw g i j k=g k:=by unfold Iw;rw[if_neg h]
end
section
variable{prog:Program}{w:World}{A:Around}{E:Value->Shared->Prop}{s:Shared}{a₀:Array Keyed}{κ:KeyKind}
theorem NT{st:SortSt}{g:Nat->Nat}{a top:Nat}{Q:AscSt->SortSt->Prop}(hO:κ.OneLt)(h0:KeysOf κ a₀)(ht:top<=a₀.size)(h1:1<=a)(h2:a<=top)(B:SBase a₀ st)(G:Gh a₀ g<|arrOf st)(T:FY g a a₀.size)(U:Cw κ a₀ g a) (h:∀n,a<=n->n<=top->Cw κ a₀ g n->(n=top\/κ.klt (KK κ a₀<|g n) (KK κ a₀<|g<|n-1))->Q (none,n) st):wpS (model prog w) A E s (ascLoop a top) Q st:=by
 unfold ascLoop;refine wpS_forRange (I:=λx c t=>t=st/\c=(none,x)/\Cw κ a₀ g x) ?_ ?_ ⟨rfl,rfl,U⟩;rintro x c t Hc LV ⟨rfl,rfl,V⟩;dsimp only;refine wpS_bind<|wpS_ltKK hO B h0 (by lia) (by lia) ?_;rw[G.key<|by lia,G.key<|by lia];cases q:κ.blt (KK κ a₀<|g x) (KK κ a₀<|g<|x-1) with|true=>exact wpS_pure (h x Hc (by lia) V<|.inr q)|false=>refine wpS_pure {rfl,rfl,λi j lW hj=>?_};rcases Nat.lt_or_ge j x with z|z;exact V i j lW z;obtain rfl:j=x:=(by lia);have lw:=G.low (m:=j) (λk hk c_=>T k (by lia) c_) (by lia) lW;rw[T j Hc<|by lia]at q⊢;refine NS ?_ lw;rcases Nat.lt_or_ge i (j-1) with y|y;exact KeyOrd.kle_trans (V i (j-1) y<|by lia).kle q;obtain rfl:i=j-1:=(by lia);exact q
 rintro c t ⟨rfl,rfl,V⟩;rw[show max a top=top by lia]at V⊢;exact h top h2 (zr _) V<|.inl rfl
theorem Iy{st:SortSt}{g:Nat->Nat}{n top:Nat}{Q:Option Nat->SortSt->Prop}(hO:κ.OneLt)(h0:KeysOf κ a₀)(ht:top<=a₀.size)(h1:1<=n)(h2:n<=top)(B:SBase a₀ st)(G:Gh a₀ g<|arrOf st)(T:FY g n a₀.size)(D:W2 κ a₀ g n) (h:∀m g' dP,SBase a₀ dP->Gh a₀ g' (arrOf dP)->FY g' m a₀.size->1<=m->m<=top->Cw κ a₀ g' m->Q (some m) dP):wpS (model prog w) A E s (tail3 n top) Q st:=by
 unfold tail3;refine wpS_bind<|wpS_reverse ?_;have B':SBase a₀ (setArr st<|mirror (arrOf st) 0 n<|(n-0)/2):=B.setArr<|mirror_perm _ _ _ _;have G':Gh a₀ (Iw g 0 n) (arrOf<|setArr st<|mirror (arrOf st) 0 n<|(n-0)/2):=G.mirror B.size (by lia);have T':FY (Iw g 0 n) n a₀.size:=λk hk c_=>by rw[gA<|by lia];exact T k hk c_
 refine wpS_bind<|NT hO h0 ht h1 h2 B' G' T' (λi j lW hj=>?_) λm U7 NU V _=>wpS_pure<|h m _ _ B' G' (λk hk c_=>T' k (by lia) c_) (by lia) NU V;rw[iK<|by lia,iK<|by lia];exact D _ _ (by lia)<|by lia
structure Kr(κ:KeyKind)(a₀:Array Keyed)(g:Nat->Nat)(x q:Nat):Prop where
 le:q+1<=x
 tl:FY g (x-(q+1)) a₀.size
 dn:∀i j,i<j->j<x->i<x-(q+1)->Log κ a₀ (g j) (g i)
 eq:∀i,x-(q+1)<=i->i<x->KK κ a₀ (g i)=KK κ a₀ (g<|x-1)
theorem Kr.full(F:Kr κ a₀ g x q)(hx:x<=a₀.size):W2 κ a₀ (Iw g (x-(q+1)) x) x:=λi j lW hj=>by have le:=F.le;by_cases hi:i<x-(q+1);rw[gA (k:=i)<|by lia];by_cases W3:j<x-(q+1);rw[gA<|by lia];exact F.dn i j lW hj hi;rw[iK<|by lia];exact F.dn i _ (by lia) (by lia) hi;rw[iK<|by lia,iK<|by lia];refine .inr {(F.eq _ (by lia)<|by lia).trans (F.eq _ (by lia)<|by lia).symm,?_};rw[F.tl _ (by lia)<|by lia,F.tl _ (by lia)<|by lia];lia
theorem Kr.NV(F:Kr κ a₀ g x 0):W2 κ a₀ g x:=λi j lW hj=>F.dn i j lW hj<|by lia
theorem Kr.next(D:W2 κ a₀ g x)(T:FY g x a₀.size)(hx:x<a₀.size)(h1:1<=x)(hl:κ.klt (KK κ a₀<|g x)<|KK κ a₀<|g<|x-1):Kr κ a₀ g (x+1) 0 where
 le:=by lia
 tl:=λk hk c_=>T k (by lia) c_
 dn:=λi j lW hj hi=>by
  by_cases W3:j<x
  ·exact D i j lW W3
  ·obtain rfl:j=x:=by lia
   refine .inl ?_
   by_cases q:i=j-1
   ·rw[q];exact hl
   ·exact KeyOrd.klt_of_klt_of_kle hl (D i (j-1) (by lia)<|by lia).kle
 eq:=λi hi hj=>by rw[show i=x+1-1 by lia]
theorem Qr{st:SortSt}{g:Nat->Nat}{n top:Nat}{Q:DescSt->SortSt->Prop}(hO:κ.OneLt)(h0:KeysOf κ a₀)(ht:top<=a₀.size)(h1:1<=n)(h2:n<=top)(B:SBase a₀ st)(G:Gh a₀ g<|arrOf st)(F:Kr κ a₀ g n 0) (h:∀m q g' dP,SBase a₀ dP->Gh a₀ g' (arrOf dP)->n<=m->m<=top->Kr κ a₀ g' m q->Q (none,m,q) dP):wpS (model prog w) A E s (descLoop n top) Q st:=by
 unfold descLoop;refine wpS_forRange (I:=λx c t=>∃q g',c=(none,x,q)/\SBase a₀ t/\Gh a₀ g' (arrOf t)/\Kr κ a₀ g' x q) ?_ ?_ {0,g,rfl,B,G,F};rintro x c t Hc LV ⟨q,g',rfl,B',G',F'⟩;have le:=F'.le;dsimp only;refine wpS_bind<|wpS_ltKK hO B' h0 (by lia) (by lia) ?_;rw[G'.key<|by lia,G'.key<|by lia];cases hl:κ.blt (KK κ a₀<|g' x) (KK κ a₀<|g'<|x-1) with|true=>(simp only[if_true];by_cases hq:q>0;rw[if_pos hq];refine wpS_bind<|wpS_reverse<|wpS_pure {0,_,rfl,B'.setArr<|mirror_perm _ _ _ _,G'.mirror B'.size<|by lia,?_};refine .next (F'.full<|by lia) (λk hk c_=>?_) (by lia) (by lia) ?_;rw[gA<|by lia];exact F'.tl k (by lia) c_;rw[gA<|by lia,iK<|by lia,F'.eq (x-(q+1)+x-1-(x-1)) (by lia)<|by lia];exact hl;rw[if_neg hq];obtain rfl:q=0:=(by lia);exact wpS_pure {0,g',rfl,B',G',.next F'.NV (λk hk c_=>F'.tl k (by lia) c_) (by lia) (by lia) hl})|false=>simp only[Bool.false_eq_true,if_false];refine wpS_bind<|wpS_ltKK hO B' h0 (by lia) (by lia) ?_;rw[G'.key<|by lia,G'.key<|by lia];cases hg:κ.blt (KK κ a₀<|g'<|x-1) (KK κ a₀<|g' x) with|true=>exact wpS_pure (h x q g' t B' G' Hc (by lia) F')|false=>have e:KK κ a₀ (g' x)=KK κ a₀ (g'<|x-1):=KeyOrd.kle_antisymm hg hl;refine wpS_pure {q+1,g',rfl,B',G',{by lia,λk hk c_=>F'.tl k (by lia) c_,λi j lW hj hi=>?_,λi hi hj=>?_}};by_cases W3:j<x;exact F'.dn i j lW W3 (by lia);obtain rfl:j=x:=(by lia);have:=F'.dn i (j-1) (by lia) (by lia) (by lia);rcases this with z|⟨_,z⟩;exact .inl (by rw[e];exact z);rw[F'.tl (j-1) (by lia)<|by lia]at z;have:=G'.low (m:=j-(q+1)) F'.tl (by lia) (i:=i) (by lia);lia;rw[show x+1-1=x by lia];by_cases UT:i=x;rw[UT];rw[e];exact F'.eq i (by lia)<|by lia
 rintro c t ⟨q,g',rfl,B',G',F'⟩;rw[show max n top=top by lia]at F'⊢;exact h top q g' t B' G' h2 (zr _) F'
theorem Iz{st:SortSt}{g:Nat->Nat}{n top:Nat}{Q:Option Nat->SortSt->Prop}(hO:κ.OneLt)(h0:KeysOf κ a₀)(ht:top<=a₀.size)(h2:n+1<=top)(B:SBase a₀ st)(G:Gh a₀ g<|arrOf st)(F:Kr κ a₀ g (n+1) 0) (h:∀m g' dP,SBase a₀ dP->Gh a₀ g' (arrOf dP)->FY g' m a₀.size->1<=m->m<=top->Cw κ a₀ g' m->Q (some m) dP):wpS (model prog w) A E s (descPart n top) Q st:=by
 unfold descPart;refine wpS_bind<|wpS_lift<|wpAny_rule {rfl,?_};refine wpS_bind<|Qr hO h0 ht (by lia) h2 B G F λm q g' dP B' G' U7 NU F'=>?_;have le:=F'.le;dsimp only;by_cases hq:q>0;rw[if_pos hq];refine wpS_bind<|wpS_reverse<|Iy hO h0 ht (by lia) NU (B'.setArr<|mirror_perm _ _ _ _) (G'.mirror B'.size<|by lia) (λk hk c_=>?_) (F'.full<|by lia) h;rw[gA<|by lia];exact F'.tl k (by lia) c_;rw[if_neg hq];obtain rfl:q=0:=by lia
 exact Iy hO h0 ht (by lia) NU B' G' (λk hk c_=>F'.tl k (by lia) c_) F'.NV h
theorem U8{st:SortSt}{g:Nat->Nat}{top:Nat}{Q:Option Nat->SortSt->Prop}(hO:κ.OneLt)(h0:KeysOf κ a₀)(ht:top<=a₀.size)(h1:1<=top)(B:SBase a₀ st)(G:Gh a₀ g<|arrOf st)(T:FY g 0 a₀.size) (h:∀m g' dP,SBase a₀ dP->Gh a₀ g' (arrOf dP)->FY g' m a₀.size->1<=m->m<=top->Cw κ a₀ g' m->Q (some m) dP):wpS (model prog w) A E s (countRun' 0 top) Q st:=by
 rw[countRun0_eq];refine wpS_bind<|NT hO h0 ht (zr 1) h1 B G (λk hk c_=>T k (by lia) c_) (λi j lW hj=>by lia) λn NW Nn U hor=>?_;dsimp only;have Tn:∀m,FY g m a₀.size:=λm k hk c_=>T k (by lia) c_;by_cases NX:n=top;rw[if_pos<|by simpa using NX];exact wpS_pure<|h n g st B G (Tn n) NW Nn U;rw[if_neg<|by simpa using NX];have eO:=hor.resolve_left NX;by_cases W4:n>1;rw[if_pos W4];refine wpS_bind<|wpS_ltKK hO B h0 (by lia) (by lia) ?_;rw[G.key<|by lia,G.key<|by lia];cases hr:κ.blt (KK κ a₀<|g 0) (KK κ a₀<|g<|n-1) with|true=>exact wpS_pure (h n g st B G (Tn n) NW Nn U)|false=>simp only[Bool.false_eq_true,if_false];have all:∀k,k<n->KK κ a₀ (g k)=KK κ a₀ (g<|n-1):=λk hk=>(by have a1:κ.kle (KK κ a₀<|g 0) (KK κ a₀<|g k):=(by by_cases z:k=0;rw[z];exact KeyOrd.kle_refl _;exact(U 0 k (by lia) hk).kle);have a2:κ.kle (KK κ a₀<|g k) (KK κ a₀<|g<|n-1):=(by by_cases z:k=n-1;rw[z];exact KeyOrd.kle_refl _;exact(U k (n-1) (by lia)<|by lia).kle);exact KeyOrd.kle_antisymm a2<|KeyOrd.kle_trans hr a1);refine wpS_bind<|wpS_reverse<|Iz hO h0 ht (by lia) (B.setArr<|mirror_perm _ _ _ _) (G.mirror B.size<|by lia) ?_ h;refine .next (λi j lW hj=>?_) (λk hk c_=>by rw[gA<|by lia];exact T k (by lia) c_) (by lia) (by lia) ?_;rw[iK<|by lia,iK<|by lia];refine .inr {(all _<|by lia).trans (all _<|by lia).symm,?_};rw[T _ (by lia)<|by lia,T _ (by lia)<|by lia];lia;rw[gA<|by lia,iK<|by lia,all (0+n-1-(n-1))<|by lia];exact eO
 rw[if_neg W4];obtain rfl:n=1:=by lia
 exact Iz hO h0 ht (by lia) B G (.next (λi j lW hj=>by lia) (Tn 1) (by lia) (by lia) eO) h
theorem U9{st:SortSt}{g:Nat->Nat}{n ok:Nat}{Q:Bool->SortSt->Prop}(hO:κ.OneLt)(h0:KeysOf κ a₀)(hn:n<=a₀.size)(aL:ok<=n)(B:SBase a₀ st)(G:Gh a₀ g<|arrOf st)(T:FY g ok a₀.size)(U:Cw κ a₀ g ok) (h:∀g' dP,SBase a₀ dP->Gh a₀ g' (arrOf dP)->Cw κ a₀ g' n->Q true dP):wpS (model prog w) A E s (binarySort' 0 n ok) Q st:=by
 rw[binarySort'_eq];simp only[Nat.zero_add];refine wpS_bind<|wpS_mono (wpS_forRange (I:=λk c t=>c=(none,())/\∃g',SBase a₀ t/\Gh a₀ g' (arrOf t)/\FY g' k a₀.size/\Cw κ a₀ g' (min k n)) (Q:=λc t=>c=(none,())/\∃g',SBase a₀ t/\Gh a₀ g' (arrOf t)/\Cw κ a₀ g' n) ?_ ?_ ?_) ?_;rintro k c t sF c_ ⟨rfl,g',B',G',T',V⟩;rw[show min k n=k by lia]at V;have hk:k<a₀.size:=by lia
 refine wpS_bind<|wpS_mono (wpS_forRange (I:=λx c t2=>t2=t/\∃l r,c=(none,l,r)/\l<=r/\r<=k/\r-l<=k-x/\(∀i,i<l->κ.kle (KK κ a₀<|g' i) (KK κ a₀<|g' k))/\(∀i,r<=i->i<k->κ.klt (KK κ a₀<|g' k) (KK κ a₀<|g' i))) (Q:=λc t2=>t2=t/\∃l r,c=(none,l,r)/\l<=k/\(∀i,i<l->κ.kle (KK κ a₀<|g' i) (KK κ a₀<|g' k))/\(∀i,l<=i->i<k->κ.klt (KK κ a₀<|g' k) (KK κ a₀<|g' i))) ?_ ?_ ?_) ?_;rintro x c t2 _ hxk ⟨rfl,l,r,rfl,IA,Zz,hm,lo,hi⟩;dsimp only;by_cases W5:l>=r;rw[if_pos W5];obtain rfl:l=r:=by lia
 exact wpS_pure ⟨rfl,l,l,rfl,Zz,lo,hi⟩;rw[if_neg W5];refine wpS_bind<|wpS_ltKK hO B' h0 hk (by lia) ?_;rw[G'.key hk,G'.key<|by lia];cases hl:κ.blt (KK κ a₀<|g' k) (KK κ a₀<|g'<|(l+r)/2) with|true=>refine wpS_pure {rfl,l,(l+r)/2,rfl,by lia,by lia,by lia,lo,λi a b=>?_};by_cases z:i=(l+r)/2;rw[z];exact hl;exact KeyOrd.klt_of_klt_of_kle hl (V _ _ (by lia) b).kle|false=>refine wpS_pure {rfl,(l+r)/2+1,r,rfl,by lia,by lia,by lia,λi a=>?_,hi};by_cases z:i=(l+r)/2;rw[z];exact hl;exact KeyOrd.kle_trans (V i ((l+r)/2) (by lia)<|by lia).kle hl
 rintro c t2 ⟨rfl,l,r,rfl,IA,Zz,hm,lo,hi⟩;obtain rfl:l=r:=by lia
 exact⟨rfl,l,l,rfl,Zz,lo,hi⟩;exact{rfl,0,k,rfl,by lia,by lia,by lia,λi hi=>by lia,λi a b=>by lia};rintro c t2 ⟨rfl,l,r,rfl,ZA,lo,hi⟩;show wpS _ _ _ _ (do moveDown' k l;pure (ForInStep.yield (none,()))) _ _;rw[moveDown'_eq];refine wpS_bind<|wpS_modify<|wpS_pure {rfl,_,B'.setArr<|bubble_perm _ _ _,G'.bubble B'.size ZA hk,λx Hc LV=>?_,?_};show LY g' k l x=x;unfold LY;rw[if_neg<|by lia,if_neg<|by lia];exact T' x (by lia) LV;rw[show min (k+1) n=k+1 by lia];have lw:∀i,i<k->g' i<k:=λi q=>G'.low T' (by lia) q;have ek:=T' k (zr _) hk;intro i j lW hj;show Log κ a₀ (LY g' k l i) (LY g' k l j);unfold LY;by_cases i1:i=l;rw[if_pos i1,if_neg<|by lia,if_pos<|by lia];exact .inl<|hi _ (by lia) (by lia);rw[if_neg i1];by_cases j1:j=l;rw[if_pos j1,if_neg<|by lia];have h1:=lo i (by lia);have h2:=lw i (by lia);rw[ek]at h1⊢;exact NS h1 h2;rw[if_neg j1];by_cases i2:l<i/\i<=k<;>by_cases j2:l<j/\j<=k;rw[if_pos i2,if_pos j2];exact V _ _ (by lia) (by lia);lia;rw[if_neg i2,if_pos j2];exact V _ _ (by lia) (by lia);rw[if_neg i2,if_neg j2];exact V _ _ (by lia) (by lia);rintro c t ⟨hc,g',B',G',T',V⟩;refine{hc,g',B',G',?_};rwa [show min (max (max ok 1) n) n=n by lia]at V;refine{rfl,g,B,G,λk hk c_=>T k (by lia) c_,λi j lW hj=>?_};exact U i j lW (by lia);rintro c t ⟨rfl,g',B',G',V⟩;exact wpS_pure<|h g' t B' G' V
def Qt(κ:KeyKind)(a₀:Array Keyed)(st:SortSt):Prop:=failedOf st=none/\pendingOf st=#[(0,a₀.size,0)]/\∃g,(arrOf st).size=a₀.size/\Gh a₀ g (arrOf st)/\Cw κ a₀ g a₀.size
theorem Qu{st:SortSt}{Q:Unit->SortSt->Prop}(hO:κ.OneLt)(h0:KeysOf κ a₀)(B:SBase a₀ st)(e0:arrOf st=a₀)(h2:2<=a₀.size)(Hd:a₀.size<64) (h:∀dP g,failedOf dP=none->(arrOf dP).size=a₀.size->Gh a₀ g (arrOf dP)->Cw κ a₀ g a₀.size->Q () dP):wpS (model prog w) A E s sortRuns' Q st:=by
 have G:Gh a₀ (λk=>k) (arrOf st):={λk _=>by rw[e0],λk hk=>hk,λ_ _ _ _ e=>e};have fin:∀(t:SortSt)(g:Nat->Nat),SBase a₀ t->Gh a₀ g (arrOf t)->Cw κ a₀ g a₀.size->Qt κ a₀ (setPending t<|(pendingOf t).push (0,a₀.size,0)):=λt g B' G' U=>{B'.failed,by show(pendingOf t).push _=_;rw[B'.pend];rfl,g,B'.size,G',U};rw[sortRuns'_eq];refine wpS_bind<|wpS_get ?_;dsimp only;have hm:minRun' a₀.size a₀.size 0=a₀.size:=by obtain⟨f,hf⟩:∃f,a₀.size=f+1:={a₀.size-1,by lia};have:minRun' (f+1) a₀.size 0=a₀.size:=(by rw[minRun'_succ,if_pos Hd];rfl);rwa [<-hf]at this
 simp only[B.size,hm];refine wpS_bind<|wpS_mono (wpS_forRange (I:=λx c t=>(x=0/\c=(none,0)/\t=st)\/(1<=x/\c=(none,a₀.size)/\Qt κ a₀ t)) (Q:=λc t=>c=(none,a₀.size)/\Qt κ a₀ t) ?_ ?_<|.inl ⟨rfl,rfl,rfl⟩) ?_;rintro x c t _ hx (⟨rfl,rfl,rfl⟩|⟨Hc,rfl,D⟩);dsimp only;rw[if_neg<|by lia];simp only[Nat.sub_zero,Nat.min_self,Nat.zero_add];refine wpS_bind<|U8 hO h0 (zr _) (by lia) B G (λ_ _ _=>rfl) λm g' t2 B2 G2 T2 U7 NU U2=>?_;dsimp only;by_cases eO:m<a₀.size;rw[if_pos eO];refine wpS_bind<|wpS_lift<|wpAny_rule {rfl,?_};refine wpS_bind<|U9 hO h0 (zr _) NU B2 G2 T2 U2 λg3 t3 B3 G3 U3=>?_;simp only[Bool.not_true,Bool.false_eq_true,if_false];refine wpS_bind<|wpS_get ?_;rw[show(pendingOf t3).back?=none by rw[B3.pend];rfl];dsimp only;exact wpS_bind<|wpS_modify<|wpS_pure<|.inr {by lia,rfl,fin t3 g3 B3 G3 U3};rw[if_neg eO];obtain rfl:m=a₀.size:=by lia
 refine wpS_bind<|wpS_get ?_;rw[show(pendingOf t2).back?=none by rw[B2.pend];rfl];dsimp only;exact wpS_bind<|wpS_modify<|wpS_pure<|.inr {by lia,rfl,fin t2 g' B2 G2 U2};dsimp only;rw[if_pos<|zr _];exact wpS_pure ⟨rfl,D⟩;rintro c t (⟨hx,_,_⟩|⟨_,hc,D⟩);lia;exact⟨hc,D⟩;rintro c t ⟨rfl,D⟩;dsimp only;obtain⟨d1,d2,g,d3,d4,d5⟩:=D;refine wpS_bind<|wpS_mono (wpS_forRange (I:=λ_ c t2=>t2=t/\c=(none,())) (Q:=λc t2=>t2=t/\c=(none,())) ?_ (λ_ _ z=>z) ⟨rfl,rfl⟩) ?_;rintro x c t2 _ _ ⟨rfl,rfl⟩;refine wpS_bind<|wpS_get ?_;rw[if_pos<|by rw[d2];exact zr 1];exact wpS_pure ⟨rfl,rfl⟩;rintro c t2 ⟨rfl,rfl⟩;exact wpS_pure<|h _ g d1 d3 d4 d5
end
noncomputable abbrev LZ(X:Cx)(qual:Str)(scope:Scope)(L f:Addr)(cv:Value):Env:=envX qual scope L f cv<|clOf X.env.cells scope.names
noncomputable def R4(X:Cx)(N:List Str)(qual:Str)(scope:Scope)(f:Addr)(cv:Value)(A:Around)(s:Shared)(H:Hp):Cx:={X with A:=A.deeper<|LZ X qual scope s.heap.objs.size f cv,N:=N,dF:=s,vX:=H,env:=LZ X qual scope s.heap.objs.size f cv,outer:=X.stack,stack:=LZ X qual scope s.heap.objs.size f cv::X.stack,ex:=[],fn:=λ_=>false,calm:=true,pn:=[],xe:=λ_ _=>False}
noncomputable abbrev Ao(X:Cx)(qual:Str)(params:Arguments)(body:Expr)(scope:Scope)(pm cv mF:Value):Obj:={cls:=.type "function",data:=.func<|kla_fn "<lambda>" qual params body scope (clOf X.env.cells scope.names) pm cv mF}
section
variable{X:Cx}{pins:List (Addr×Obj)}{σ:St}{H:Hp}{s:Shared}{N:List Str}{src:List (Option Nat)}{scope:Scope}{params:Arguments}{body:Expr}{qual p:Str}{pm cv mF u:Value}{f:Addr}{A:Around}{v:V}{te:TE}{Q:VK}
theorem L3(I:Inv X pins σ H s)(S:bM X N src scope)(L4:N[0]?=some p)(hp:scope.names.lookup p=some .local)(h0:src[0]?=some none)(xT:A.frames=some X.stack)(hh:A.handled=none)(r:RelV v u) (Qv:h₁.Ns s.heap.objs.size λx=>[(p,u)].reverse.lookup x) (old:∀b o,s.heap.get? b=some o->h₁.get? b=some o): Inv (R4 X N qual scope f cv A s H) [] ((pick σ src).set 0<|some v) H {s with heap:=h₁,toks:=tk}:=by
 have ja:∀x c,(clOf X.env.cells scope.names).lookup x=some c->X.env.cells.lookup x=some c:=rW X.env.cells scope.names [] (by intro x c h;simp at h);have K8:∀b:Addr,b∉(R4 X N qual scope f cv A s H).ex:=λb z=>absurd (show b∈([]:List Addr) from z) (by simp);have Br:∀x,scope.names.lookup x=some .free->∃c,(clOf X.env.cells scope.names).lookup x=some c:=λx hl=>by have hm:=yh hl;obtain⟨c,Li⟩:=I.ok.has x<|S.Br _ hm rfl;exact{c,jD X.env.cells scope.names [] x c (by intro x c h;simp at h) hm Li}
 refine{{I.ok.mod,S.kind,rfl,rfl,zr _,λx y c h1 h2=>I.ok.inj x y c (ja _ _ h1)<|ja _ _ h2,λx hk=>?_,λx c h=>(nomatch h),λ_=>hh,Around.frames_deeper xT,.inr ⟨rfl,rfl⟩,λb z=>absurd z<|K8 b,I.bs,zK I.ok.KJ I.sz,λb _ _=>K8 b,λb z=>absurd z<|K8 b,I.stack,I.qP},rfl,I.bare,Un.kept old,{_,Qv,λi x w e1 e2 e3=>?_},λx c e=>?_,I.aL.fresh<|zr _,λx c e=>I.gw x c<|ja x c e,λq hq=>absurd (show q∈([]:List (Addr×Obj)) from hq)<|by simp,I.aL.kept old,?_};have hk:scope.names.lookup x=some .cell\/scope.names.lookup x=some .free:=hk;rcases hk with hk|hk;exact absurd rfl<|S.gQ _<|yh hk;exact Br x hk;have e1:N[i]?=some x:=e1;by_cases hi:i=0;subst hi;rw[L4]at e1;cases e1;have hl:0<(pick σ src).length:=by unfold pick;rw[za];exact(ze.mp h0).1
 rw[List.getElem?_set_self hl]at e2;cases e2;exact{u,r,.inl {hp,by simp[yc]}};rw[List.getElem?_set_ne<|Ne.symm hi]at e2;unfold pick at e2;rw[zk]at e2;cases es:src[i]? with|none=>(rw[es]at e2;cases e2)|some o=>rw[es]at e2;cases o with|none=>(cases e2)|some j=>have e3:(σ[j]?).join=some w:=zR e2;have e4:σ[j]?=some (some w):=(by cases q:σ[j]? with|none=>(rw[q]at e3;cases e3)|some z=>rw[q]at e3;exact congrArg some e3);obtain⟨a1,a2,a3⟩:=S.src i j x es e1;obtain⟨m0,_,hl⟩:=I.loc;obtain⟨u',r',l⟩:=hl j x w a1 e4 a3;have hm:=yh a2;have hk:=S.Br _ hm rfl;rcases l with⟨k,_⟩|⟨_,c,Li,⟨o,ho,hd⟩⟩;rcases hk with hk|hk<;>(rw[k]at hk;cases hk);exact{u',r',.inr {.inr a2,c,jD X.env.cells scope.names [] x c (by intro x c h;simp at h) hm Li,o,old _ _ ho,hd}}
 obtain⟨w,o,ho,hd⟩:=I.cell x c<|ja x c e;exact{w,o,old _ _ ho,hd};show((pick σ src).set 0<|some v).length=N.length;unfold pick;rw[List.length_set,za,S.len]
theorem IB(I:Inv X pins σ H s)(S:bM X N src scope)(L4:N[0]?=some p)(hp:scope.names.lookup p=some .local)(h0:src[0]?=some none)(xT:A.frames=some X.stack)(hh:A.handled=none)(U_:A.depth<recursionLimit)(r:RelV v u) (ho:s.heap.get? f=some (Ao X qual params body scope pm cv mF)) (t9:s.heap.CodeRec cv qual) (L5:scope.isCoroutine=false) (Cy:scope.isGenerator=false) (hb:bindArgs (kla_fn "<lambda>" qual params body scope (clOf X.env.cells scope.names) pm cv mF) {[u],[]}=pure [(p,u)]) (he:PE (R4 X N qual scope f cv A s H) body te) (h:te ((pick σ src).set 0<|some v) H Q): codeAny (model X.prog X.w) A (.call (.ref f) {[u],[]}) (λq s'=>∃w,q=.ok (.ret w)/\CE X.stack X.prog X.w H s Q w s') s:=by refine PySem.W.kla_callFunE U_ ho rfl L5 Cy rfl t9 ?_;show wpAny _ _ (bindArgs (kla_fn "<lambda>" qual params body scope (clOf X.env.cells scope.names) pm cv mF) {[u],[]}) _ _ _;rw[hb];refine zA<|wpAny_newFunctionEnv S.gQ (λx hx=>?_) (λh₁ Qv Lw=>{I.nolimit.fresh _ Lw,?_}) S.kind;rw[zE.mp hx];exact hp;have old:∀b o,s.heap.get? b=some o->h₁.get? b=some o:=λb o e=>Lw.extBut b o (zB<|zw e)<|zb _ e;show codeAny _ _ (.expr body<|LZ X qual scope s.heap.objs.size f cv) _ _;refine PySem.W.kla_codeExpr<|yF (he [] _ _ H Q (L3 I S L4 hp h0 xT hh r Qv old) h) (by rintro w s' ⟨x,H',J,rv,q⟩;exact⟨w,rfl,x,H',J.os,J.bare,J.base,J.aL,rv,q⟩) λ_ _ z=>z.elim
end
@[reducible] def intK:KeyKind where
 α:=Int
 blt a b:=decide<|a<b
 irrefl a:=by simp
 trans a b c h1 h2:=by simp only[zY]at *;lia
 negTrans a b c h:=by simp only[zY]at *;lia
 total a b h1 h2:=by simp only[yi]at *;lia
 keyOf v:=match v with|.int x _=>some x|_=>none
 dflt:=0
theorem IC:intK.OneLt:=by intro prog w A E s x y a b Q ha hb h;cases x<;>simp only[intK,reduceCtorEq,Option.some.injEq]at ha;cases y<;>simp only[intK,reduceCtorEq,Option.some.injEq]at hb;cases ha;cases hb;exact oneLt_int h
structure W6(κ:KeyKind)(b:Bool)(key:Nat->κ.α)(n:Nat)(g:Nat->Nat):Prop where
 lt:∀k,k<n->g k<n
 inj:∀i j,i<n->j<n->g i=g j->i=j
 ord:∀i j,i<j->j<n->(if b=true then κ.klt (key<|g j) (key<|g i) else κ.klt (key<|g i) (key<|g j))\/(key (g i)=key (g j)/\g i<g j)
noncomputable def jf(κ:KeyKind)(us:List Value)(j:Nat):κ.α:=(κ.keyOf<|us.getD j .none).getD κ.dflt
theorem ID{us vs:List Value}(hl:us.length=vs.length){j:Nat}(hj:j<vs.length):(us.toArray.zip vs.toArray)[j]?=some (us.getD j .none,vs.getD j .none):=by have e:(us.zip vs)[j]?=some (us.getD j .none,vs.getD j .none):=List.getElem?_zip_eq_some.mpr {by show us[j]?=some (us.getD j .none);rw[zH,zf<|by lia];rfl,by show vs[j]?=some (vs.getD j .none);rw[zH,zf hj];rfl};rw[<-Array.getElem?_toList,ksk_zip,List.toList_toArray];exact e
theorem wu{κ:KeyKind}{us vs:List Value}(hl:us.length=vs.length){j:Nat}(hj:j<vs.length):KK κ (us.toArray.zip vs.toArray) j=jf κ us j:=by unfold KK jf;rw[ID hl hj]
theorem Ap{l m:List Value}{n:Nat}(h1:l.length=n)(h2:m.length=n)(h:∀k,k<n->l[k]?=m[k]?):l=m:=by apply List.ext_getElem?;intro k;by_cases hk:k<n;exact h k hk;rw[List.getElem?_eq_none<|by lia,List.getElem?_eq_none<|by lia]
section
variable{prog:Program}{w:World}{A:Around}{E:Value->Shared->Prop}{s:Shared}{a kS:Addr}{b:Bool}{us vs:List Value}{e e1:Nat}{P:PySem.Fin->Shared->Prop}{κ:KeyKind}
theorem En{st:SortSt}{keys:Array Value}(hk:s.heap.get? kS=some (seqObj "list" keys e))(ha:s.heap.get? a=some (seqObj "list" #[] e1))(Qw:kS≠a)(hz:keys.size<64)(Qx:(arrOf st).size<64)(T7:failedOf st=none) (h:∀h' c,(∀b o,b≠a->b≠kS->s.heap.get? b=some o->h'.get? b=some o)->h'.get? a=some (seqObj "list" (if b then ((arrOf st).map (·.2)).reverse else (arrOf st).map (·.2)) c)->P (.done<|.ret .none) {s with heap:=h'}): wpAny (model prog w) A (ksk_tail a b e1 (.ref kS) st) P E s:=by
 have s1:=yB s.heap kS<|Obj.mapSeq λ_=>(#[]:Array Value);have ZC:(s.heap.update kS<|Obj.mapSeq λ_=>(#[]:Array Value)).get? a=some (seqObj "list" #[] e1):=(s1.2 a Qw.symm).trans ha;have ur:∀o:Array Value,o=(if b then ((arrOf st).map (·.2)).reverse else (arrOf st).map (·.2))->o.size<64:=by rintro o rfl;cases b with|false=>rw[if_neg zd,Array.size_map];exact Qx|true=>rw[if_pos rfl,Array.size_reverse,Array.size_map];exact Qx
 generalize ho:(if b then ((arrOf st).map (·.2)).reverse else (arrOf st).map (·.2))=out at h ur;have ur:=ur out rfl;have s2:=yB (s.heap.update kS<|Obj.mapSeq λ_=>(#[]:Array Value)) a<|Obj.mapSeq λ_=>out;obtain⟨c2,ZD⟩:∃c2,((s.heap.update kS<|Obj.mapSeq λ_=>(#[]:Array Value)).update a<|Obj.mapSeq λ_=>out).get? a=some (seqObj "list" out c2):={_,get?_update_seq ZC λ_=>out};unfold ksk_tail;try dsimp only
 refine zc<|listUpdate_at hk rfl ?_ (by rw[ye];lia)<|zT _;refine zc<|wpAny_letGo ?_;refine zc<|seqEpoch_at ZC rfl ?_;rw[ho];refine zc<|listUpdate_at ZC rfl ?_ (zT _)<|zK (yw ur) (by rw[ye];lia);rw[T7];simp only[bne_self_eq_false,Bool.false_eq_true,if_false];exact zA<|h _ c2 (λb o h1 h2 q=>(s2.2 b h1).trans<|(s1.2 b h2).trans q) ZD
theorem IE{xs:Array Keyed}{g:Nat->Nat}(hl:us.length=vs.length)(hs:xs.size=vs.length) (G:Gh (if b=true then (us.toArray.zip vs.toArray).reverse else us.toArray.zip vs.toArray) g xs) (U:Cw κ (if b=true then (us.toArray.zip vs.toArray).reverse else us.toArray.zip vs.toArray) g vs.length): ∃g',W6 κ b (jf κ us) vs.length g'/\(if b then (xs.map (·.2)).reverse else xs.map (·.2)).toList=(List.range vs.length).map λk=>vs.getD (g' k) .none:=by
 have xW:(us.toArray.zip vs.toArray).size=vs.length:=by rw[Array.size_zip,zp,zp,hl,Nat.min_self]
 have zat:∀k,k<vs.length->(us.toArray.zip vs.toArray)[k]?=some (us.getD k .none,vs.getD k .none):=λk hk=>ID hl hk;cases b with|false=>rw[if_neg zd]at G U;refine{g,{λk hk=>by have:=G.lt k (by rw[xW];exact hk);rwa [xW]at this,λi j hi hj=>G.inj i j (by rw[xW];exact hi)<|by rw[xW];exact hj,λi j lW hj=>?_},?_};have h1:=G.lt i (by rw[xW];lia);have h2:=G.lt j (by rw[xW];lia);rw[xW]at h1 h2;have:=U i j lW hj;unfold Log at this;rw[wu hl h1,wu hl h2]at this;rw[if_neg zd];exact this;rw[if_neg zd];refine Ap (n:=vs.length) (by rw[yr,Array.size_map,hs]) (by simp) λk hk=>?_;have h1:=G.lt k (by rw[xW];lia);rw[xW]at h1;rw[Array.getElem?_toList,Array.getElem?_map,G.at_ k<|by rw[xW];exact hk,zat _ h1,zk,List.getElem?_range hk];rfl|true=>rw[if_pos rfl]at G U;have ua:(us.toArray.zip vs.toArray).reverse.size=vs.length:=(by rw[Array.size_reverse,xW]);have lt:∀k,k<vs.length->g k<vs.length:=λk hk=>(by have:=G.lt k (by rw[ua];exact hk);rwa [ua]at this);have rat:∀k,k<vs.length->(us.toArray.zip vs.toArray).reverse[k]?=(us.toArray.zip vs.toArray)[vs.length-1-k]?:=λk hk=>(by rw[Array.getElem?_reverse<|by rw[xW];exact hk,xW]);refine{λk=>vs.length-1-g (vs.length-1-k),{λk hk=>by have:=lt (vs.length-1-k) (by lia);lia,λi j hi hj e=>?_,λi j lW hj=>?_},?_};have h1:=lt (vs.length-1-i) (by lia);have h2:=lt (vs.length-1-j) (by lia);have:=G.inj (vs.length-1-i) (vs.length-1-j) (by rw[ua];lia) (by rw[ua];lia) (by lia);lia;have h1:=lt (vs.length-1-i) (by lia);have h2:=lt (vs.length-1-j) (by lia);have:=U (vs.length-1-j) (vs.length-1-i) (by lia) (by lia);unfold Log at this;have e1:KK κ (us.toArray.zip vs.toArray).reverse (g<|vs.length-1-i)=jf κ us (vs.length-1-g (vs.length-1-i)):=(KK_congr<|rat _ h1).trans<|wu hl (by lia);have e2:KK κ (us.toArray.zip vs.toArray).reverse (g<|vs.length-1-j)=jf κ us (vs.length-1-g (vs.length-1-j)):=(KK_congr<|rat _ h2).trans<|wu hl (by lia);rw[e1,e2]at this;rw[if_pos rfl];rcases this with z|⟨z1,z2⟩;exact .inl z;exact .inr {z1.symm,by lia};rw[if_pos rfl];refine Ap (n:=vs.length) (by rw[yr,Array.size_reverse,Array.size_map,hs]) (by simp) λk hk=>?_;have h1:=lt (vs.length-1-k) (by lia);rw[Array.getElem?_toList,Array.getElem?_reverse<|by rw[Array.size_map,hs];exact hk,Array.size_map,hs,Array.getElem?_map,G.at_ _<|by rw[ua];lia,rat _ h1,zat _<|by lia,zk,List.getElem?_range hk];rfl
theorem Qy(hO:κ.OneLt)(hk:s.heap.get? kS=some (seqObj "list" us.toArray e))(ha:s.heap.get? a=some (seqObj "list" #[] e1))(Qw:kS≠a)(hl:us.length=vs.length)(Hd:vs.length<64)(h0:∀u∈us,∃x,κ.keyOf u=some x) (W7:∀oz oA rest,us=oz::oA::rest->keyKind' (oz::oA::rest).toArray=pure oneType') (h:∀h' c g out,(∀b o,b≠a->b≠kS->s.heap.get? b=some o->h'.get? b=some o)->h'.get? a=some (seqObj "list" out c)->W6 κ b (jf κ us) vs.length g->out.toList=(List.range vs.length).map (λk=>vs.getD (g k) .none)->P (.done<|.ret .none) {s with heap:=h'}): wpAny (model prog w) A (ksk_end a b vs.toArray e1 (.ref kS) us.toArray) P E s:=by
 have xW:(us.toArray.zip vs.toArray).size=vs.length:=by rw[Array.size_zip,zp,zp,hl,Nat.min_self]
 have step:∀t:Sem PySem.Fin,wpAny (model prog w) A t P E s->wpAny (model prog w) A (if b=true then (do let _ <-rule "list.sort.reverse";t) else t) P E s:=by intro t ht;split;exact zc<|wpAny_rule ht;exact ht
 have hsz:(if b=true then (us.toArray.zip vs.toArray).reverse else us.toArray.zip vs.toArray).size=vs.length:=by cases b with|false=>exact xW|true=>rw[if_pos rfl,Array.size_reverse,xW]
 have keys:KeysOf κ (if b=true then (us.toArray.zip vs.toArray).reverse else us.toArray.zip vs.toArray):=λp hp=>by have hp:p∈us.zip vs:=(by have e2:(us.toArray.zip vs.toArray).toList=us.zip vs:=(by rw[ksk_zip]);cases b with|false=>rw[if_neg zd,e2]at hp;exact hp|true=>rw[if_pos rfl,Array.toList_reverse,e2]at hp;exact List.mem_reverse.mp hp);obtain⟨x,y⟩:=p;exact h0 _ (List.of_mem_zip hp).1
 unfold ksk_end;try dsimp only
 refine step _ ?_;by_cases h2:vs.toArray.size<2;{rw[if_pos h2,if_pos h2];refine zc<|zA ?_;rw[StateT.run_pure];refine zc<|zA ?_;(try dsimp only);rw[zp]at h2;refine En (st:=SortSt.mk' general' (if b=true then (us.toArray.zip vs.toArray).reverse else us.toArray.zip vs.toArray) #[] 7 none) hk ha Qw (by rw[zp];lia) (by show(if b=true then (us.toArray.zip vs.toArray).reverse else us.toArray.zip vs.toArray).size<64;lia) rfl λh' c k1 k2=>?_;obtain⟨g,g1,g2⟩:=IE (κ:=κ) (b:=b) (xs:=if b=true then (us.toArray.zip vs.toArray).reverse else us.toArray.zip vs.toArray) (g:=λk=>k) hl hsz {λ_ _=>rfl,λ_ hk=>hk,λ_ _ _ _ e=>e} (λi j lW hj=>by lia);exact h h' c g _ k1 k2 g1 g2};{rw[if_neg h2,if_neg h2];rw[zp]at h2;obtain⟨oz,oA,rest,eu⟩:∃oz oA rest,us=oz::oA::rest:=(by match us,hl with|[],hl=>simp at hl;lia|[_],hl=>simp at hl;lia|oz::oA::rest,_=>exact⟨oz,oA,rest,rfl⟩);have ek:keyKind' us.toArray=pure oneType':=(by rw[eu];exact W7 _ _ _ eu);rw[ek];refine zc<|zA ?_;refine zc<|yF (Qu (κ:=κ) hO (a₀:=if b=true then (us.toArray.zip vs.toArray).reverse else us.toArray.zip vs.toArray) (st:=SortSt.mk' oneType' (if b=true then (us.toArray.zip vs.toArray).reverse else us.toArray.zip vs.toArray) #[] 7 none) (Q:=λ_ dP=>failedOf dP=none/\(arrOf dP).size=vs.length/\∃g,Gh (if b=true then (us.toArray.zip vs.toArray).reverse else us.toArray.zip vs.toArray) g (arrOf dP)/\Cw κ (if b=true then (us.toArray.zip vs.toArray).reverse else us.toArray.zip vs.toArray) g vs.length) keys {Array.Perm.refl _,rfl,rfl,rfl} rfl (by lia) (by lia) λdP g q1 q2 q3 q4=>{q1,q2.trans hsz,g,q3,by rw[hsz]at q4;exact q4}) ?_ λ_ _ e=>e;rintro⟨⟨⟩,dP⟩ s' ⟨rfl,hf,Qz,g,G,U⟩;(try dsimp only);have Qz:(arrOf dP).size=vs.length:=Qz;refine En hk ha Qw (by rw[zp];lia) (by lia) hf λh' c k1 k2=>?_;obtain⟨g',g1,g2⟩:=IE (κ:=κ) hl Qz G U;exact h h' c g' _ k1 k2 g1 g2}
end
structure NY(X:Cx)(pins:List (Addr×Obj))(b:Addr):Prop where
 loc:b≠X.env.locals
 fs:b∉X.fs
 cell:∀x c,X.env.cells.lookup x=some c->c≠b
 pin:∀p∈X.pn++pins,p.1≠b
 new:X.dF.heap.objs.size<=b
section
variable{X:Cx}{pins:List (Addr×Obj)}{σ:St}{H:Hp}{s:Shared}
theorem Inv.W8(I:Inv X pins σ H s)(h:s.heap.objs.size<=b):NY X pins b:={yn<|zm I.lt h,I.SE h,λx c e=>by obtain⟨v,q⟩:=I.cell x c e;exact zB<|zm q.lt h,λp hp=>zB<|zm (zw (I.pin p hp).1) h,zK I.sz h}
theorem Inv.L6(I:Inv X pins σ H s)(kp:∀b o,b≠a->b≠k->s.heap.get? b=some o->h'.get? b=some o)(ha:H a=none)(hk:H k=none)(Aa:NY X pins a)(Ak:NY X pins k):Inv X pins σ H {s with heap:=h',toks:=t'}:=by have OM:∀b u,H b=some u->b≠a/\b≠k:=λb u e=>{λz=>(by rw[z,ha]at e;cases e),λz=>(by rw[z,hk]at e;cases e)};refine I.step (g':=s.gens) (d':=s.drawn) (ch:=[a,k]) (λb hb=>?_) (λb o _ _ hc e _=>kp b o (λz=>hc<|by simp[z]) (λz=>hc<|by simp[z]) e) (λb o _ _ hc e _=>{o.slots,kp b o (λz=>hc<|by simp[z]) (λz=>hc<|by simp[z]) e}) (λ_ _ _ _ n=>n) (λb o hc e=>{o,kp b o (λz=>hc<|by simp[z]) (λz=>hc<|by simp[z]) e}) (λ_ _ e=>e) (λ_ _ _ e=>e) (λb ps e=>{#[],by rw[e];simp}) (λm hm=>?_) (λb u e=>?_) I.bare;simp only[zh,zM,or_false]at hb;rcases hb with rfl|rfl;exact{.inr Aa.new,Aa.loc,Aa.cell,Aa.pin};exact{.inr Ak.new,Ak.loc,Ak.cell,Ak.pin};obtain⟨o,es,ep,ho,r⟩:=hm;exact{o,es,ep,kp _ o (Ne.symm Aa.loc) (Ne.symm Ak.loc) ho,r};refine(I.aL b u e).qx (λc v hc q=>?_) (λ_ q=>q) λ_ _ q=>q;rcases hc with z|z;rw[z]at q⊢;exact kp b v (OM b u e).1 (OM b u e).2 q;exact kp c v (OM c _ z).1 (OM c _ z).2 q
theorem Inv.Va(I:Inv X pins σ H s)(ha:H a=none)(A:NY X pins a)(new:br X.prog X.w (upd H a o) s.heap a o):Inv X pins σ (upd H a o) s:=by refine I.step (h':=s.heap) (g':=s.gens) (d':=s.drawn) (t':=s.toks) (ch:=[a]) (λb hb=>?_) (λb o _ _ hc e _=>e) (λb o _ _ hc e _=>⟨o.slots,e⟩) (λb u hc e n=>?_) (λb o hc e=>⟨o,e⟩) (λb xs e=>?_) (λb u v e=>?_) (λb ps e=>?_) (λm hm=>hm) (λb u e=>?_) I.bare;rw[zE.mp hb];exact{.inr A.new,A.loc,A.cell,A.pin};rw[aw λz=>hc<|by simp[z]];exact n;rw[aw<|aC e ha];exact e;rw[aw<|aC e ha];exact e;exact{#[],by rw[aw<|aC e ha,e];simp};by_cases hb:b=a;subst hb;rw[aF]at e;cases e;exact new;rw[aw hb]at e;exact(I.aL b u e).qx (λc v _ q=>q) (λc q=>by rw[aw<|aC q ha];exact q) λc xs q=>by rw[aw<|aC q ha];exact q
end
def IF(X:Cx)(pins:List<|Addr×Obj)(σ:St)(A:Around)(f:Addr)(xs:List V)(W:Nat->List V->Hp->Prop):Prop:=∀i x u ks s' H' more,Inv X (pins++more) σ H' s'->W i ks H'->xs[i]?=some x->RelV x u->codeAny (model X.prog X.w) A (.call (.ref f) {[u],[]}) (λq BN=>∃w,q=.ok (.ret w)/\CE X.stack X.prog X.w H' s' (λk H''=>W (i+1) (ks++[k]) H'') w BN) s'
structure NZ(κ:KeyKind)(us:List Value):Prop where
 all:∀u∈us,∃x,κ.keyOf u=some x
 kind:∀oz oA rest,us=oz::oA::rest->keyKind' (oz::oA::rest).toArray=pure oneType'
section
variable{X:Cx}{pins:List (Addr×Obj)}{σ:St}{H:Hp}{s:Shared}{A:Around}{E:Value->Shared->Prop}{xs:List V}{vs:List Value}{f:Addr}{b:Bool}{κ:KeyKind}{W:Nat->List V->Hp->Prop}
theorem FZ{P:PySem.Fin->Shared->Prop}(hO:κ.OneLt)(I:Inv X pins σ H s)(ha:s.heap.get? a=some (seqObj "list" #[] e1))(hk:s.heap.get? kS=some (seqObj "list" #[] 0))(Qw:kS≠a)(na:H a=none)(nk:H kS=none)(Aa:NY X pins a)(Ak:NY X pins kS) (hv:Vals xs vs) (Hd:vs.length<64) (T:IF X pins σ A f xs W) (w0:W 0 [] H) (G:∀ks us H',W vs.length ks H'->Vals ks us->ks.length=vs.length->NZ κ us) (h:∀s' H' ks us c g out,Inv X pins σ H' s'->H' a=none->s'.heap.get? a=some (seqObj "list" out c)->W vs.length ks H'->Vals ks us->ks.length=vs.length->W6 κ b (jf κ us) vs.length g->out.toList=(List.range vs.length).map (λk=>vs.getD (g k) .none)->P (.done<|.ret .none) s'): wpAny (model X.prog X.w) A (ksk_rest a (.ref f) b vs.toArray e1<|.ref kS) P E s:=by
 have nc:∀(k:Array Value) (n:Nat) (v:Option Value),(seqObj "list" k n).data≠.cell v:=λ_ _ _ z=>nomatch z;unfold ksk_rest;refine zc<|wpAny_rule ?_;rw[List.forIn_toArray];refine zc<|ksk_fold (λi s'=>∃ks kA e H',Inv X pins σ H' s'/\W i ks H'/\Vals ks kA.toList/\ks.length=i/\H' a=none/\H' kS=none/\s'.heap.get? a=some (seqObj "list" #[] e1)/\s'.heap.get? kS=some (seqObj "list" kA e)) vs 0 s {[],#[],0,H,I,w0,.nil,rfl,na,nk,ha,hk} ?_ ?_;rintro j x s' hx ⟨ks,kA,e,H',I',w',v',l',W9,ZE,ZF,HL⟩;simp only[Nat.zero_add]at l' w'⊢;have hj:j<vs.length:=(ze.mp hx).1;have hl:xs.length=vs.length:=hv.length;obtain⟨y,hy⟩:∃y,xs[j]?=some y:={_,zf<|by lia};obtain⟨u,hu,ru⟩:=hv.get hy;rw[hx]at hu;cases hu;have Ip:Inv X (pins++[(a,seqObj "list" #[] e1),(kS,seqObj "list" kA e)]) σ H' s':=by refine{I'.ok,I'.os,I'.bare,I'.base,I'.loc,I'.cell,I'.free,I'.gw,λp hp=>?_,I'.aL,I'.len};rcases zP.mp hp with hp|hp;exact I'.pin p<|yj _ hp;rcases zP.mp hp with hp|hp;exact I'.pin p<|zD _ hp;simp only[zh,zM,or_false]at hp;rcases hp with rfl|rfl;exact{ZF,W9,Aa.loc,Aa.fs,nc _ _};exact{HL,ZE,Ak.loc,Ak.fs,nc _ _}
 have hz:kA.size=j:=by have h1:ks.length=kA.toList.length:=v'.length;have h2:kA.toList.length=kA.size:=yr;lia
 refine zc<|wpAny_attempt<|wpAny_call<|yT (T j y x ks s' H' _ Ip w' hy ru) λr s2 hq=>?_;obtain⟨w,rfl,ce⟩:=hq;obtain⟨k,H2,I2,rk,w2⟩:=Ip.after ce;dsimp only;have pa:=I2.pin (a,seqObj "list" #[] e1)<|zD _<|zD _ (by simp);have pk:=I2.pin (kS,seqObj "list" kA e)<|zD _<|zD _ (by simp);have I3:Inv X pins σ H2 s2:={I2.ok,I2.os,I2.bare,I2.base,I2.loc,I2.cell,I2.free,I2.gw,λp hp=>I2.pin p<|by rcases zP.mp hp with z|z;exact yj _ z;exact zD _<|yj _ z,I2.aL,I2.len};have s1:=yB s2.heap kS (Obj.mapSeq (·.push w));obtain⟨c2,ZD⟩:∃c2,(s2.heap.update kS (Obj.mapSeq (·.push w))).get? kS=some (seqObj "list" (kA.push w) c2):={_,get?_update_seq pk.1 (·.push w)};refine zc<|listUpdate_at pk.1 rfl ?_ (by rw[ye];lia)<|zK (Nat.le_of_eq<|Array.size_push ..) (by rw[ye];lia);refine zA {rfl,ks++[k],kA.push w,c2,H2,I3.turned (t':=s2.toks) (it:=kS) (λb o hb q=>(s1.2 b hb).trans q) pk.2.1 Ak.loc (.inr Ak.new) Ak.cell Ak.pin,w2,?_,by simp[l'],pa.2.1,pk.2.1,(s1.2 a Qw.symm).trans pa.1,ZD};rw[show(kA.push w).toList=kA.toList++[w] by simp];exact v'.append<|.cons rk .nil;rintro s' ⟨ks,kA,e,H',I',w',v',l',W9,ZE,ZF,HL⟩;simp only[Nat.zero_add]at l' w';refine zc<|listItems_at HL rfl ?_;have eA:kA=kA.toList.toArray:=by simp
 have good:=G ks kA.toList H' w' v' l';have hl:kA.toList.length=vs.length:=by have h1:ks.length=kA.toList.length:=v'.length;lia
 rw[eA]at HL;show wpAny _ _ (ksk_end a b vs.toArray e1 (.ref kS) kA) _ _ _;rw[eA];refine Qy (κ:=κ) hO HL ZF Qw hl Hd good.all good.kind λh' c g out k1 k2 k3 k4=>?_;exact h _ H' ks kA.toList c g out (I'.L6 (t':=s'.toks) k1 W9 ZE Aa Ak) W9 k2 w' v' l' k3 k4
theorem vh(hO:κ.OneLt)(I:Inv X pins σ H s)(hl:kz X.K H l xs)(Hd:xs.length<64)(W_:argsOk "sorted" {[.ref l],kw})(L7:∀x,argsOk "list.sort" {[.ref x],kw})(ht:∀x,Builtin.«list.sort» {[.ref x],kw}=ksk_tree x (.ref f) b) (T:IF X pins σ A.in1.in1 f xs W) (w0:W 0 [] H) (G:∀ks us H',W xs.length ks H'->Vals ks us->ks.length=xs.length->NZ κ us) (h:∀H' ks us g D,W xs.length ks H'->Vals ks us->ks.length=xs.length->W6 κ b (jf κ us) xs.length g->H' D=none->Q (.ref D) (upd H' D<|.lst<|(List.range xs.length).map λk=>xs.getD (g k) .av)): wpAny (model X.prog X.w) A (call (.builtin "sorted") [.ref l] kw) (EP X pins σ Q) E s:=by
 obtain⟨vs,hv,pl,_⟩:=I.list hl;have R5:xs.length=vs.length:=hv.length;rw[R5]at Hd G h;refine call_function_entry_kw kind_sorted plain_sorted entry_sorted W_ ?_;unfold Builtin.«sorted»;refine zc (m:=checkCount "sorted" 1 1 _)<|zA ?_;refine zc<|collect_list pl.isList ?_ (by rw[ye];lia);refine zc<|wpAny_newList ?_ (by rw[ye];lia);have hsz:((s.heap.push<|seqObj "list" #[] 0).update s.heap.objs.size (Obj.mapSeq (·++vs.toArray))).objs.size=s.heap.objs.size+1:=by rw[Heap.size_update,size_push']
 have G6:(((s.heap.push<|seqObj "list" #[] 0).update s.heap.objs.size (Obj.mapSeq (·++vs.toArray))).push<|seqObj "list" vs.toArray 0).get? (s.heap.objs.size+1)=some (seqObj "list" vs.toArray 0):=by rw[<-hsz];exact zj _ rfl
 have keep:∀b o,s.heap.get? b=some o->(((s.heap.push<|seqObj "list" #[] 0).update s.heap.objs.size (Obj.mapSeq (·++vs.toArray))).push<|seqObj "list" vs.toArray 0).get? b=some o:=λb o q=>by have eO:b<s.heap.objs.size:=zw q;rw[Heap.get?_push_ne _ _ _<|by rw[hsz];exact zB<|Nat.lt_succ_of_lt eO,Heap.get?_update_ne _ _ _ _<|zB eO,Heap.get?_push_ne _ _ _<|zB eO];exact q
 show wpAny _ _ _ _ _ {s with heap:=((s.heap.push<|seqObj "list" #[] 0).update s.heap.objs.size (Obj.mapSeq (·++vs.toArray))).push<|seqObj "list" vs.toArray 0};rw[hsz];generalize hg:((s.heap.push<|seqObj "list" #[] 0).update s.heap.objs.size (Obj.mapSeq (·++vs.toArray))).push (seqObj "list" vs.toArray 0)=h1 at G6 keep⊢;have I1:Inv X pins σ H {s with heap:=h1}:=I.kept (t':=s.toks) keep;have Aa:NY X pins (s.heap.objs.size+1):=I.W8<|yS _;have na:H (s.heap.objs.size+1)=none:=I.aL.fresh<|yS _;generalize s.heap.objs.size+1=a at G6 Aa na⊢;refine zc<|yI<|wpAny_call_entry_kw slot_list_sort {_,G6,rfl} entry_list_sort ?_<|L7 _;show wpAny (model X.prog X.w) A.in1.in1 (Builtin.«list.sort» {[.ref a],kw}) _ _ _;rw[ht a];have s1:=yB h1 a<|Obj.mapSeq λ_=>(#[]:Array Value);obtain⟨e1,R6⟩:∃e1,(h1.update a<|Obj.mapSeq λ_=>(#[]:Array Value)).get? a=some (seqObj "list" #[] e1):={_,get?_update_seq G6 λ_=>#[]};have I2:Inv X pins σ H {s with heap:=h1.update a<|Obj.mapSeq λ_=>(#[]:Array Value)}:=Inv.turned (s:={s with heap:=h1}) (h':=h1.update a<|Obj.mapSeq λ_=>(#[]:Array Value)) (t':=s.toks) (it:=a) I1 (λb o hb q=>(s1.2 b hb).trans q) na Aa.loc (.inr Aa.new) Aa.cell Aa.pin;unfold ksk_tree;refine zc<|listItems_at G6 rfl ?_;refine zc<|listUpdate_at G6 rfl ?_ (by rw[zp,ye];lia)<|zT _;refine zc<|seqEpoch_at R6 rfl ?_;refine zc<|wpAny_newTuple ?_ (by show vs.length<=_;rw[ye];lia);refine zc<|wpAny_newList ?_<|zT _;refine yI ?_;generalize h1.update a (Obj.mapSeq λ_=>(#[]:Array Value))=h2 at R6 I2⊢;have k3:∀b u,h2.get? b=some u->((h2.push<|seqObj "tuple" vs.toArray 0).push<|seqObj "list" #[] 0).get? b=some u:=λb u q=>zb _<|zb _ q;have I3:Inv X pins σ H {s with heap:=(h2.push<|seqObj "tuple" vs.toArray 0).push<|seqObj "list" #[] 0}:=I2.kept (t':=s.toks) k3;have Cz:h2.objs.size<=(h2.push<|seqObj "tuple" vs.toArray 0).objs.size:=by rw[size_push'];exact yS _
 refine FZ (s:={s with heap:=(h2.push<|seqObj "tuple" vs.toArray 0).push<|seqObj "list" #[] 0}) (kS:=(h2.push<|seqObj "tuple" vs.toArray 0).objs.size) hO I3 (k3 _ _ R6) (zj _ rfl) (yn<|zm (zw R6) Cz) na (I2.aL.fresh Cz) Aa (I2.W8 Cz) hv Hd T w0 G λs' H' ks us c g out J n1 o1 w1 v1 l1 q1 q2=>{.none,rfl,?_};refine zA !{.ref a,_,J.Va (o:=.lst<|(List.range vs.length).map λk=>xs.getD (g k) .av) n1 Aa {?_,out.toList,c,?_,?_},rfl,h H' ks us g a w1 v1 l1 q1 n1};rw[za,List.length_range,ye];lia;rw[q2];have:∀(ns:List Nat),(∀k∈ns,g k<vs.length)->Vals (ns.map λk=>xs.getD (g k) .av) (ns.map λk=>vs.getD (g k) .none):=λns=>by induction ns with|nil=>exact λ_=>.nil|cons k ns ih=>intro hk;have ZG:=hk k zo;obtain⟨y,hy⟩:∃y,xs[g k]?=some y:={_,zf<|by lia};obtain⟨u,hu,ru⟩:=hv.get hy;refine .cons ?_<|ih λk c_=>hk k<|zi _ c_;show RelV (xs.getD (g k) .av) (vs.getD (g k) .none);rw[zH,hy,zH,hu];exact ru
 exact this _ λk hk=>q1.lt k<|zS.mp hk;rw[o1]
end
def Bm(mg:Str->Option Value)(base:Heap):Prop:=∃bm o,mg "__builtins__"= some (.ref bm)/\bm≠builtinsNs/\base.get? bm=some o/\o.cls=.type "module"/\o.dict=some builtinsNs/\o.data=.plain
structure ZH(K:Frag)(mg:Str->Option Value)(base:Heap)(c P:Addr):Prop where
 hd:codeHdIn K c P=true
 bm:Bm mg base
theorem CA{pos p2:Pos}{c cv:Value}(l:List Value)(h:TriplesOk l)(e:codeAmong pos (l++[rawInt p2.line,rawInt p2.col,c])=some cv):codeAmong pos l=some cv\/cv=c:=by fun_induction TriplesOk l with|case1=>(simp only[List.nil_append,rawInt,codeAmong]at e;split at e;cases e;exact .inr rfl;cases e)|case2 a t b u x rest ih=>simp only[List.cons_append,codeAmong]at e⊢;split at e;rename_i hc;rw[if_pos hc];exact .inl e;rename_i hc;rw[if_neg hc];exact ih h e|case3 l h1 h2=>exact h.elim
section
variable{X:Cx}{pins:List (Addr×Obj)}{σ:St}{H:Hp}{s:Shared}
theorem Inv.tab{h':Heap}{tk:Nat}{P c:Addr}{ps Ks:Array Value}{oc fo:Obj}(I:Inv X pins σ H s)(hP:H P=some (.qO ps))(hx:Heap.ExtBut P s.heap h')(h1:s.heap.objs.size<=c)(h2:c<h'.objs.size)(hc:h'.get? c=some oc)(hp:h'.get? P=some (tabObj<|ps++Ks)): Inv X pins σ (upd (upd H P<|.qO<|ps++Ks) c<|.lQ oc<|.own 0) {s with heap:=h'.push fo,toks:=tk}:=by
 have hcP:c≠P:=λz=>absurd (zm (I.aL.lt hP)<|z ▸ h1)<|yA _;have nc:H c=none:=I.aL.fresh h1;have other:∀b,b≠P->b≠c->upd (upd H P<|.qO<|ps++Ks) c (.lQ oc<|.own 0) b=H b:=λb z1 z2=>by rw[aw z2,aw z1]
 have nP:∀b o,H b=some o->(∀q,o≠.qO q)->b≠P:=λb o e z q=>by rw[q,hP]at e;cases e;exact z _ rfl
 have ZI:∀b,H b=none->b≠P:=λb e q=>by rw[q,hP]at e;cases e
 have lt:∀b o,s.heap.get? b=some o->b≠c:=λb o e=>zB<|zm (zw e) h1;refine I.un (h':=h'.push fo) {λb o e n _ _=>zb _<|hx b o (ZI b n) e,λb o e n _ _=>{o.slots,zb _<|hx b o (ZI b n) e},λb o e n _=>by rw[other b (ZI b n)<|lt b o e];exact n,λb o e _=>?_,λb xs e=>by rw[other b (nP b _ e λ_=>nofun)<|aC e nc];exact e,λb o u e=>by rw[other b (nP b _ e λ_=>nofun)<|aC e nc];exact e,λb q e=>?_} λb u e=>?_;by_cases hb:b=P;rw[hb];exact{_,zb _ hp};exact{o,zb _<|hx b o hb e};by_cases hb:b=P;subst hb;rw[hP]at e;cases e;exact{Ks,by rw[aw<|Ne.symm hcP,aF]};exact{#[],by rw[other b hb<|aC e nc,e];simp};by_cases R7:b=c;subst R7;rw[aF]at e;cases e;exact{zb _ hc,_,zb _ hc};rw[aw R7]at e;by_cases hb:b=P;subst hb;rw[aF]at e;cases e;exact zb _ hp;rw[aw hb]at e;refine(I.aL b u e).qx (λd v hd q=>?_) (λd q=>by rw[other d (nP d _ q λ_=>nofun)<|aC q nc];exact q) λd xs q=>by rw[other d (nP d _ q λ_=>nofun)<|aC q nc];exact q
 rcases hd with rfl|hd;exact zb _<|hx d v hb q;exact zb _<|hx d v (nP d _ hd λ_=>nofun) q
theorem Inv.Eo(I:Inv X pins σ H s)(ho:s.heap.get? f=some o)(hn:H f=none)(A:NY X pins f)(d:∀v,o.data≠.cell v):Inv X (pins++[(f,o)]) σ H s:=by refine{I.ok,I.os,I.bare,I.base,I.loc,I.cell,I.free,I.gw,λp hp=>?_,I.aL,I.len};rcases zP.mp hp with hp|hp;exact I.pin p<|yj _ hp;rcases zP.mp hp with hp|hp;exact I.pin p<|zD _ hp;rw[zE.mp hp];exact⟨ho,hn,A.loc,A.fs,d⟩
structure Vb(X:Cx)(pins:List (Addr×Obj))(σ:St)(H H':Hp)(P:Addr)(q:Str)(params:Arguments)(body:Expr)(scope:Scope)(u:Value)(s':Shared)(f:Addr)(pm cv mF:Value):Prop where
 u:u=.ref f
 inv:Inv X (pins++[(f,Ao X q params body scope pm cv mF)]) σ H' s'
 code:∃c o vs t,cv=.ref c/\H' c=some (.lQ o<|.own 0)/\o.data=.fields vs/\vs[1]?=some (.str q t)
 same:∀b,H' b=H b\/(b=P/\∃ps,H' b=some (.qO ps)/\Ef H' q ps)\/(H b=none/\∃o,H' b=some (.lQ o<|.own 0))
theorem Aq{M:Model}{A:Around}{E:Value->Shared->Prop}{N:List Str}{src:List<|Option Nat}{scope:Scope}{params:Arguments}{body:Expr}{pos:Pos}{c P:Addr}{q:Str}{ps:Array Value}{Q:Value->Shared->Prop}(I:Inv X pins σ H s)(S:bM X N src scope)(pU:X.env.code=.ref c)(mk:ZH X.K X.mg X.base c P) (hP:H P=some (.qO ps)) (ok:Ef H q ps) (hq:X.env.qual ++ "<lambda>"= q) (IG:defaultsOf params X.env=([],[])) (h:∀u s' H' f pm cv mF,Vb X pins σ H H' P q params body scope u s' f pm cv mF->Q u s'):wpAny M A (eval (.Lambda params body scope pos) X.env) Q E s:=by
 have Bs:closureFor scope X.env=pure (clOf X.env.cells scope.names):=gO λy hy hf=>I.ok.has y.1<|S.Br y hy hf;have Xa:s.heap.get? P=some (tabObj ps):=I.aL P _ hP;have hg:s.heap.Ns mainGlobals X.mg:=I.mod.glob.keeps I.bk;have hC:=codeHd_of_K I.pN mk.hd;obtain⟨bm,ob,b1,b2,b3,b4,b5,b6⟩:=mk.bm;have L8:s.heap.get? bm=some ob:=I.bk _ _ b3;have hgP:mainGlobals≠P:=λz=>by obtain⟨o,es,ep,e,d,_⟩:=id hg;rw[z,Xa]at e;cases e;cases d
 have hbG:bm≠mainGlobals:=λz=>by obtain⟨o,es,ep,e,d,_⟩:=id hg;rw[<-z,L8]at e;cases e;rw[b6]at d;cases d
 have hbP:bm≠P:=λz=>by rw[z,Xa]at L8;cases L8;cases b4
 have hB:s.heap.BuiltinsAt X.mg P:=⟨bm,ob,b1,b2,hbG,hbP,L8,b4,b5,b6⟩;have hqs:H P≠none:=by rw[hP];nofun
 refine PySem.W.kla_eval IG ?_;rw[hq];cases hf:codeAmong pos ps.toList with|none=>(refine PySem.W.kla_makeFunction Bs I.ok.glob hg pU hC Xa ok.1 hf hgP hB λc' mF h' tk hx h1 h2 hr hp=>?_;obtain⟨c2,oc,vs,t,e2,Wx,hd,hv⟩:=hr;cases e2;have J:=I.tab (tk:=tk) (fo:=Ao X q params body scope ((X.mg "__name__").getD .none) (.ref c') mF) hP hx h1 h2 Wx hp;have hcP:c'≠P:=λz=>absurd (zm (I.aL.lt hP)<|z ▸ h1)<|yA _;have nc:H c'=none:=I.aL.fresh h1;have fresh:∀b,h'.objs.size<=b->upd (upd H P<|.qO<|ps++#[rawInt pos.line,rawInt pos.col,.ref c']) c' (.lQ oc<|.own 0) b=none:=λb hb=>(by have x8:s.heap.objs.size<=b:=zK (zK h1<|yw h2) hb;rw[aw<|yn<|zm h2 hb,aw<|yn<|zm (I.aL.lt hP) x8];exact I.aL.fresh x8);have hsz:s.heap.objs.size<=h'.objs.size:=zK h1<|yw h2;refine h _ _ _ h'.objs.size _ _ _ {rfl,J.Eo (zj _ rfl) (fresh _<|zr _) (I.W8 hsz) (λv z=>nomatch z),⟨c',oc,vs,t,rfl,aF,hd,hv⟩,λb=>?_};by_cases R7:b=c';subst R7;exact .inr<|.inr ⟨nc,oc,aF⟩;by_cases hb:b=P;subst hb;refine .inr<|.inl {rfl,_,by rw[aw R7,aF],?_,λp2 cv e=>?_};rw[Array.toList_append];exact TriplesOk_snoc _ _ _ _ ok.1;rw[Array.toList_append]at e;rcases CA _ ok.1 e with e|e;obtain⟨d,o,ws,t2,z1,z2,z3⟩:=ok.2 p2 cv e;exact{d,o,ws,t2,z1,by rw[aw<|aC z2 nc,aw λz=>by rw[z,hP]at z2;cases z2];exact z2,z3};exact⟨c',oc,vs,t,e,aF,hd,hv⟩;exact .inl<|by rw[aw R7,aw hb])|some cv=>refine PySem.W.kla_makeFunctionHit Bs I.ok.glob hg pU hC Xa ok.1 hf hB λmF h' tk hk hsz=>?_;have J:Inv X pins σ H {s with heap:=h'.push<|Ao X q params body scope ((X.mg "__name__").getD .none) cv mF,toks:=tk}:=I.kept λb u e=>zb _<|hk b u e;exact h _ _ _ h'.objs.size _ _ _ {rfl,J.Eo (zj _ rfl) (I.aL.fresh hsz) (I.W8 hsz) (λv z=>nomatch z),ok.2 pos cv hf,λb=>.inl rfl}
end
def Vc:D->D->Prop|.int a,.int b=>a<b|.str a,.str b=>a.cps.toList<b.cps.toList|_,_=>False
def Ar(ks:List D):Prop:=(∃zs:List Str,ks=zs.map D.str)\/∃ns:List Int,ks=ns.map D.int
structure QA(b:Bool)(key:Nat->D)(n:Nat)(g:Nat->Nat):Prop where
 lt:∀k,k<n->g k<n
 inj:∀i j,i<n->j<n->g i=g j->i=j
 ord:∀i j,i<j->j<n->(if b=true then Vc (key<|g j) (key<|g i) else Vc (key<|g i) (key<|g j))\/(key (g i)=key (g j)/\g i<g j)
def As(b:Bool)(P:Addr)(q:Str)(src:List<|Option Nat)(te:TD)(σ:SD)(R:KD)(d:D)(S1:au):Prop:=∃(l:Addr)(xs:List D)(f:D->D),d=.ref l/\S1 l=some (.lst xs)/\xs.length<64/\S1 P=some (.tab q)/\Ar (xs.map f)/\(∀x,x∈xs->∀S',Sub S1 S'->∀Qk:KD,(∀S2,Sub S' S2->Qk (f x) S2)->te ((lg σ src).set 0<|some x) S' Qk Zf)/\∀g S2 p,QA b (λj=>f<|xs.getD j .av) xs.length g->Sub S1 S2->S2 p=none->R (.ref p) (S2.set p<|.lst<|(List.range xs.length).map λk=>xs.getD (g k) .av)
def N3(b:Bool)(P:Addr)(q:Str)(src:List<|Option Nat)(tl te:TD):TD:=λσ S R Z=>tl σ S (λd S1=>As b P q src te σ R d S1) Z
def IH(F:D->au->Prop):List D->au->Prop|[d],S=>F d S|_,_=>False
theorem Ep{F:D->au->Prop}{ds:List D}{S:au}(h:IH F ds S):∃d,ds=[d]/\F d S:=by match ds,h with|[d],h=>exact⟨d,rfl,h⟩
theorem sG:∀{ss:List Int}{ay:List Value},Vals (ss.map V.int) ay->IntsAre ay ss|[],_,.nil=>.nil|z::ss,_,.cons r t=>by obtain⟨tk,rfl⟩:=r;exact .cons z tk<|sG t
theorem sH:∀{us:List Value}{zs:List Str},StrsAre us zs->∀j,j<zs.length->jf strKind us j=(zs.getD j "").cps.toList|_,_,.cons z t h,0,_=>rfl|_,_,.cons z t h,j+1,hj=>by have:=sH h j (by simpa using hj);unfold jf at this⊢;rw[List.getD_cons_succ,List.getD_cons_succ];exact this
theorem sI:∀{us:List Value}{zs:List Int},IntsAre us zs->∀j,j<zs.length->jf intK us j=zs.getD j 0|_,_,.cons z t h,0,_=>rfl|_,_,.cons z t h,j+1,hj=>by have:=sI h j (by simpa using hj);unfold jf at this⊢;rw[List.getD_cons_succ,List.getD_cons_succ];exact this
theorem II(h:StrsAre us zs):∀u∈us,∃x,strKind.keyOf u=some x:=by induction h with|nil=>(intro u hu;cases hu)|cons z t h ih=>intro u hu;rcases zh.mp hu with rfl|hu;exact{_,rfl};exact ih u hu
theorem IJ(h:IntsAre us zs):∀u∈us,∃x,intK.keyOf u=some x:=by induction h with|nil=>(intro u hu;cases hu)|cons z t h ih=>intro u hu;rcases zh.mp hu with rfl|hu;exact{_,rfl};exact ih u hu
theorem IK{xs:List D}{f:D->D}{j:Nat}(hj:j<xs.length):(xs.map f)[j]?=some (f<|xs.getD j .av):=by rw[zk,zH,zf hj];rfl
theorem wx{K:Frag}{H:Hp}{ds:List D}{xs:List V}(h:RvAll K H ds xs)(g:Nat->Nat):∀(ns:List Nat),(∀k∈ns,g k<ds.length)->RvAll K H (ns.map λk=>ds.getD (g k) .av) (ns.map λk=>xs.getD (g k) .av)|[],_=>bD|k::ns,hk=>by have ZG:=hk k zo;obtain⟨v,e,r⟩:=h.get<|zf ZG;refine aY ?_<|wx h g ns λk c_=>hk k<|zi _ c_;show Rv K H (ds.getD (g k) .av) (xs.getD (g k) .av);rw[zH,zf ZG,zH,e];exact r
section
variable{K:Frag}{Y:Cx}{pins:List (Addr×Obj)}{τ:St}{H H2:Hp}{s:Shared}{N:List Str}{src:List (Option Nat)}{scope:Scope}{params:Arguments}{body:Expr}{q p:Str}{pm cv mF:Value}{f l:Addr}{te:TD}{b:Bool}{kw:List (Str×Value)}{k:Nat}
theorem Au{σ:SD}{S1:au}{xs:List D}{fD:D->D}{Q:VK}{R:KD}{E:Value->Shared->Prop}(I:Inv Y (pins++[(f,Ao Y q params body scope pm cv mF)]) τ H s)(hK:Y.K=K)(Vd:Y.calm=true)(hr:bW k Y.A)(pU:∃c o vs t,cv=.ref c/\H c=some (.lQ o<|.own 0)/\o.data=.fields vs/\vs[1]?=some (.str q t)) (CS:bM Y N src scope) (L4:N[0]?=some p) (hp:scope.names.lookup p=some .local) (h0:src[0]?=some none) (L5:scope.isCoroutine=false) (Cy:scope.isGenerator=false) (hb:∀cl pm cv mF u,bindArgs (kla_fn "<lambda>" q params body scope cl pm cv mF) {[u],[]}=pure [(p,u)]) (he:∀cv s H,DE K (R4 Y N q scope f cv Y.A.in1.in1 s H) body te) (aB:iJ K H σ τ) (hS:Rs K S1 H) (hl:S1 l=some (.lst xs)) (Hd:xs.length<64) (kd:Ar<|xs.map fD) (step:∀x,x∈xs->∀S',Sub S1 S'->∀Qk:KD,(∀S2,Sub S' S2->Qk (fD x) S2)->te ((lg σ src).set 0<|some x) S' Qk Zf) (hR:Cn K H R Q) (fin:∀g S2 p,QA b (λj=>fD<|xs.getD j .av) xs.length g->Sub S1 S2->S2 p=none->R (.ref p) (S2.set p<|.lst<|(List.range xs.length).map λk=>xs.getD (g k) .av)) (W_:argsOk "sorted" {[.ref l],kw}) (L7:∀x,argsOk "list.sort" {[.ref x],kw}) (ht:∀x,Builtin.«list.sort» {[.ref x],kw}=ksk_tree x (.ref f) b): wpAny (model Y.prog Y.w) Y.A (call (.builtin "sorted") [.ref l] kw) (EP Y pins τ Q) E s:=by
 subst hK;obtain⟨vs,hv,rv⟩:=hS.lst hl;have R5:vs.length=xs.length:=rv.len;obtain⟨c,oc,ws,tk,ecv,hc,t9,hcq⟩:=pU;have drop:∀{u:Value}{s':Shared},EP Y (pins++[(f,Ao Y q params body scope pm cv mF)]) τ Q u s'->EP Y pins τ Q u s':=λ⟨v,H',J,r,q⟩=>{v,H',{J.ok,J.os,J.bare,J.base,J.loc,J.cell,J.free,J.gw,λp hp=>J.pin p<|by rcases zP.mp hp with z|z;exact yj _ z;exact zD _<|yj _ z,J.aL,J.len},r,q};have T:IF Y (pins++[(f,Ao Y q params body scope pm cv mF)]) τ Y.A.in1.in1 f vs λi ks H'=>∃S',Sub S1 S'/\Rs Y.K S' H'/\Kp Y.K H H'/\RvAll Y.K H' ((xs.take i).map fD) ks:=by rintro i x u ks s' H' more I' ⟨S',sb,rs,kp,rk⟩ hx ru;have hi:i<xs.length:=(by have:=(ze.mp hx).1;lia);obtain⟨v,e1,r1⟩:=rv.get<|zf hi;rw[hx]at e1;cases e1;have po:=(I'.pin (f,Ao Y q params body scope pm cv mF)<|zD _<|yj _<|zD _<|by simp).1;have hcr:s'.heap.CodeRec cv q:={c,oc,ws,tk,ecv,(I'.aL c _<|kp.f _ _ _ hc).1,t9,hcq};refine IB (A:=Y.A.in1.in1) I' CS L4 hp h0 I'.ok.frames (I'.ok.hd Vd) (by have:=hr.dp;show Y.A.depth<_;lia) ru po hcr L5 Cy (hb _ _ _ _ _) ((he cv s' H').of<|.none _ rfl) ?_;refine{_,S',λkk S2=>kk=fD xs[i]/\Sub S' S2,Zf,((aB.ts kp).pick src).set 0<|Rv.ts kp _ r1,rs,step _ (List.getElem_mem hi) S' sb _ λS2 h2=>⟨rfl,h2⟩,λkk S2 v2 H2 ⟨e2,Kk⟩ R8 Ve Xb=>?_,.f};subst e2;refine{S2,sb.trans Kk,Ve,kp.trans Xb,?_};rw[show xs.take (i+1)=xs.take i++[xs[i]] by rw[List.take_add_one,zf hi];rfl,zG];exact(RvAll.ts Xb _ rk).app<|aY R8 bD
 have w0:∃S',Sub S1 S'/\Rs Y.K S' H/\Kp Y.K H H/\RvAll Y.K H ((xs.take 0).map fD) []:={S1,.refl _,hS,.refl _,by rw[List.take_zero];exact bD};have WC:kz Y.K H l vs:=.of hv;rcases kd with⟨zs,ez⟩|⟨zs,ez⟩;have ZJ:zs.length=xs.length:=by have:=congrArg List.length ez;rw[za,za]at this;exact this.symm
 have ka:∀j,j<xs.length->fD (xs.getD j .av)=.str (zs.getD j ""):=λj hj=>by have e1:=IK (f:=fD) hj;rw[ez,zk,zf<|by lia]at e1;rw[zH (l:=zs),zf<|by lia];exact(zR e1).symm
 have kv:∀ks us H',(∃S',Sub S1 S'/\Rs Y.K S' H'/\Kp Y.K H H'/\RvAll Y.K H' ((xs.take vs.length).map fD) ks)->Vals ks us->StrsAre us zs:=λks us H' ⟨S',_,_,_,rk⟩ hu=>by rw[R5,yK,ez]at rk;rw[rk.strs]at hu;exact sE hu
 refine yF (vh (κ:=strKind) (Q:=Q) (b:=b) strKind_oneLt I WC (by lia) W_ L7 ht T w0 (λks us H' w1 v1 l1=>{II<|kv ks us H' w1 v1,λoz oA rest e=>keyKind_strs<|by rw[<-e];exact kv ks us H' w1 v1}) λH' ks us g D w1 v1 l1 sr hD=>?_) (λu s' z=>drop z) λ_ _ z=>z;have sk:=kv ks us H' w1 v1;obtain⟨S',sb,rs,kp,rk⟩:=w1;rw[R5]at sr⊢;refine(hR.kp kp).new rs hD (λhp=>fin g S' D {sr.lt,sr.inj,λi j lW hj=>?_} sb hp)<|wx (RvAll.ts kp _ rv) g _ λk hk=>sr.lt k<|zS.mp hk;have h1:=sr.lt i (by lia);have h2:=sr.lt j hj;have:=sr.ord i j lW hj;rw[sH sk _<|by lia,sH sk _<|by lia]at this;rw[ka _ h1,ka _ h2];rcases this with z|⟨z1,z2⟩;left;cases b with|false=>rw[if_neg zd]at z⊢;show(zs.getD (g i) "").cps.toList<(zs.getD (g j) "").cps.toList;exact zC z|true=>rw[if_pos rfl]at z⊢;show(zs.getD (g j) "").cps.toList<(zs.getD (g i) "").cps.toList;exact zC z
 exact .inr {by rw[Zy z1],z2};have ZJ:zs.length=xs.length:=by have:=congrArg List.length ez;rw[za,za]at this;exact this.symm
 have ka:∀j,j<xs.length->fD (xs.getD j .av)=.int (zs.getD j 0):=λj hj=>by have e1:=IK (f:=fD) hj;rw[ez,zk,zf<|by lia]at e1;rw[zH (l:=zs),zf<|by lia];exact(zR e1).symm
 have kv:∀ks us H',(∃S',Sub S1 S'/\Rs Y.K S' H'/\Kp Y.K H H'/\RvAll Y.K H' ((xs.take vs.length).map fD) ks)->Vals ks us->IntsAre us zs:=λks us H' ⟨S',_,_,_,rk⟩ hu=>by rw[R5,yK,ez]at rk;rw[rk.ints]at hu;exact sG hu
 refine yF (vh (κ:=intK) (Q:=Q) (b:=b) IC I WC (by lia) W_ L7 ht T w0 (λks us H' w1 v1 l1=>{IJ<|kv ks us H' w1 v1,λoz oA rest e=>keyKind_ints<|by rw[<-e];exact kv ks us H' w1 v1}) λH' ks us g D w1 v1 l1 sr hD=>?_) (λu s' z=>drop z) λ_ _ z=>z;have sk:=kv ks us H' w1 v1;obtain⟨S',sb,rs,kp,rk⟩:=w1;rw[R5]at sr⊢;refine(hR.kp kp).new rs hD (λhp=>fin g S' D {sr.lt,sr.inj,λi j lW hj=>?_} sb hp)<|wx (RvAll.ts kp _ rv) g _ λk hk=>sr.lt k<|zS.mp hk;have h1:=sr.lt i (by lia);have h2:=sr.lt j hj;have:=sr.ord i j lW hj;rw[sI sk _<|by lia,sI sk _<|by lia]at this;rw[ka _ h1,ka _ h2];rcases this with z|⟨z1,z2⟩;left;cases b with|false=>rw[if_neg zd]at z⊢;show zs.getD (g i) 0<zs.getD (g j) 0;exact zC z|true=>rw[if_pos rfl]at z⊢;show zs.getD (g j) 0<zs.getD (g i) 0;exact zC z
 exact .inr {by rw[z1],z2}
end
section
variable{K:Frag}{X:Cx}{N:List Str}{src:List (Option Nat)}{scope:Scope}{params:Arguments}{e body:Expr}{q p x:Str}{np pos lp kq kq2 cp:Pos}{ci}{tl te:TD}{k:Nat}{c P:Addr}
theorem Vb.kp{pins:List<|Addr×Obj}{τ:St}{H H':Hp}{u:Value}{s':Shared}{f:Addr}{pm cv mF:Value}{Y:Cx}(L:Vb Y pins τ H H' P q params body scope u s' f pm cv mF){ps:Array Value}(hP:H P=some (.qO ps)):Kp K H H':=.of λb o e=>by rcases L.same b with z|⟨z,_⟩|⟨z,_⟩;exact .inl (by rw[z];exact e);rw[z,hP]at e;cases e;exact .inr {λ_=>nofun,λ_ _=>nofun};rw[z]at e;cases e
theorem Vb.rs{pins:List<|Addr×Obj}{τ:St}{H H':Hp}{u:Value}{s':Shared}{f:Addr}{pm cv mF:Value}{Y:Cx}{S:au}(L:Vb Y pins τ H H' P q params body scope u s' f pm cv mF)(hS:Rs K S H)(ht:S P=some (.tab q)):Rs K S H':=λb x hb=>by obtain⟨ps,hP,_⟩:=hS P _ ht;have kp:Kp K H H':=L.kp hP;rcases L.same b with z|⟨rfl,Ks,z1,z2⟩|⟨z,_⟩;exact(hS b x hb).keep (λo e=>by rw[z];exact e) kp;rw[ht]at hb;cases hb;exact⟨Ks,z1,z2⟩;obtain⟨o,e,_⟩:=(hS b x hb).has;rw[z]at e;cases e
theorem Vf(pU:X.env.code=.ref c)(mk:ZH K X.mg X.base c P)(hr:bW k X.A)(CS:bM X N src scope)(hl:DE K X e tl)(he:∀f cv s H,DE K (R4 X N q scope f cv X.A.in1.in1 s H) body te)(hm:X.mg x=none)(hv:bootBuiltins x=some (.builtin "sorted")) (hq:autoParam (X.env.qual ++ "<lambda>"= q) qQJ) (L4:autoParam (N[0]?=some p) qQJ) (hp:autoParam (scope.names.lookup p=some .local) qQJ) (h0:autoParam (src[0]?=some none) qQJ) (L5:autoParam (scope.isCoroutine=false) qQJ) (Cy:autoParam (scope.isGenerator=false) qQJ) (hb:autoParam (∀cl pm cv mF u,bindArgs (kla_fn "<lambda>" q params body scope cl pm cv mF) {[u],[]}=pure [(p,u)]) qJ1) (IG:autoParam (defaultsOf params X.env=([],[])) qQJ) (hg:autoParam (Gl X x) qQJ) (hn:autoParam (x≠"__name__") qQZ) (qB:autoParam ((x==("__debug__": Str))=false) qQZ) (ZK:autoParam (backTo pos (starEach [e] X.env)=(false,eval e X.env)::backTo pos (starEach [] X.env)) qQJ) (dN:autoParam ((backTo pos<|starEach [e] X.env).any (·.1)=false) qQJ) (Er:autoParam (isPlain e=true) qQJ) (hK:autoParam (X.K=K) qQJ) (hC:autoParam (X.calm=true) qQJ): DE K X (.Call (.Name x np) [e] [{some "key",.Lambda params body scope lp,kq}] pos) (N3 false P q src tl te):=by subst hK;refine⟨λy=>?_⟩;rintro pins s τ H Q I ⟨σ,S,R,Z,aB,hS,t,hR,hZ⟩;refine wpAny_Call_Name_kw<|gN I hg hm hv ?_ hn qB;refine callWith_kw (bt (((ac hl an Er).of y) pos pins s τ H (λvs H1=>∃ds S1,IH (As false P q src te σ R) ds S1/\RvAll X.K H1 ds vs/\Rs X.K S1 H1/\Kp X.K H H1) I {σ,S,IH<|As false P q src te σ R,Z,aB,hS,t,λds S1 vs H1 r rv rs k1=>⟨ds,S1,r,rv,rs,k1⟩,hZ}) λus s1 ⟨vs,H1,I1,r1,ds,S1,r,rv,rs,k1⟩=>?_) ZK dN;obtain⟨d,rfl,l,xs,fD,rfl,el,Hd,et,kd,step,fin⟩:=Ep r;obtain⟨v,YB,rfl,Vh,R8⟩:=rv.cons;cases R8.nil;cases Vh.ref;obtain⟨u,rfl,ru⟩:=vals1 r1;cases ru;obtain⟨ps,hP,aL⟩:=rs P _ et;refine kws_cons<|Aq I1 ⟨CS.kind,CS.gQ,CS.loc,CS.Br,CS.len,CS.src⟩ pU mk hP aL hq IG λw s2 H2 f pm cv mF L=>?_;refine kws_nil ?_;cases L.u;have k2:Kp X.K H1 H2:=L.kp hP;exact Au L.inv rfl hC hr L.code ⟨CS.kind,CS.gQ,CS.loc,CS.Br,CS.len,CS.src⟩ L4 hp h0 L5 Cy hb (he f) ((aB.ts k1).ts k2) (L.rs rs et) el Hd kd step (hR.kp<|k1.trans k2) fin (ksk_s1 _ _) (λx=>ksk_l1 _ _) λx=>ksk_t1 _ _
theorem N4(pU:X.env.code=.ref c)(mk:ZH K X.mg X.base c P)(hr:bW k X.A)(CS:bM X N src scope)(hl:DE K X e tl)(he:∀f cv s H,DE K (R4 X N q scope f cv X.A.in1.in1 s H) body te)(hm:X.mg x=none)(hv:bootBuiltins x=some (.builtin "sorted")) (hq:autoParam (X.env.qual ++ "<lambda>"= q) qQJ) (L4:autoParam (N[0]?=some p) qQJ) (hp:autoParam (scope.names.lookup p=some .local) qQJ) (h0:autoParam (src[0]?=some none) qQJ) (L5:autoParam (scope.isCoroutine=false) qQJ) (Cy:autoParam (scope.isGenerator=false) qQJ) (hb:autoParam (∀cl pm cv mF u,bindArgs (kla_fn "<lambda>" q params body scope cl pm cv mF) {[u],[]}=pure [(p,u)]) qJ1) (IG:autoParam (defaultsOf params X.env=([],[])) qQJ) (hg:autoParam (Gl X x) qQJ) (hn:autoParam (x≠"__name__") qQZ) (qB:autoParam ((x==("__debug__": Str))=false) qQZ) (ZK:autoParam (backTo pos (starEach [e] X.env)=(false,eval e X.env)::backTo pos (starEach [] X.env)) qQJ) (dN:autoParam ((backTo pos<|starEach [e] X.env).any (·.1)=false) qQJ) (Er:autoParam (isPlain e=true) qQJ) (hK:autoParam (X.K=K) qQJ) (hC:autoParam (X.calm=true) qQJ): DE K X (.Call (.Name x np) [e] [{some "key",.Lambda params body scope lp,kq},{some "reverse",.Constant (.bool true) ci cp,kq2}] pos) (N3 true P q src tl te):=by subst hK;refine⟨λy=>?_⟩;rintro pins s τ H Q I ⟨σ,S,R,Z,aB,hS,t,hR,hZ⟩;refine wpAny_Call_Name_kw<|gN I hg hm hv ?_ hn qB;refine callWith_kw (bt (((ac hl an Er).of y) pos pins s τ H (λvs H1=>∃ds S1,IH (As true P q src te σ R) ds S1/\RvAll X.K H1 ds vs/\Rs X.K S1 H1/\Kp X.K H H1) I {σ,S,IH<|As true P q src te σ R,Z,aB,hS,t,λds S1 vs H1 r rv rs k1=>⟨ds,S1,r,rv,rs,k1⟩,hZ}) λus s1 ⟨vs,H1,I1,r1,ds,S1,r,rv,rs,k1⟩=>?_) ZK dN;obtain⟨d,rfl,l,xs,fD,rfl,el,Hd,et,kd,step,fin⟩:=Ep r;obtain⟨v,YB,rfl,Vh,R8⟩:=rv.cons;cases R8.nil;cases Vh.ref;obtain⟨u,rfl,ru⟩:=vals1 r1;cases ru;obtain⟨ps,hP,aL⟩:=rs P _ et;refine kws_cons<|Aq I1 ⟨CS.kind,CS.gQ,CS.loc,CS.Br,CS.len,CS.src⟩ pU mk hP aL hq IG λw s2 H2 f pm cv mF L=>?_;refine kws_cons<|bt (Ni (X:=y.cx) _ s2 τ H2 (λv H'=>v=.bl true/\H'=H2) L.inv ⟨rfl,rfl⟩) λw2 s3 ⟨v2,H3,I3,r3,e3,e4⟩=>?_;subst e3 e4;obtain rfl:w2=Value.bool true:=r3;refine kws_nil ?_;cases L.u;have k2:Kp X.K H1 H3:=L.kp hP;exact Au I3 rfl hC hr L.code ⟨CS.kind,CS.gQ,CS.loc,CS.Br,CS.len,CS.src⟩ L4 hp h0 L5 Cy hb (he f) ((aB.ts k1).ts k2) (L.rs rs et) el Hd kd step (hR.kp<|k1.trans k2) fin (ksk_s2 _ _ _) (λx=>ksk_l2 _ _ _) λx=>ksk_t2 _ _ _
end
section
variable{P:Program}{w:World}{K:Frag}{mg:Str->Option Value}{base:Heap}
theorem wm.okC{x qual:Str}{st:Stmt}{f:Addr}{fd:FuncData}{N ps:List Str}{k:Nat}{sp:kO}(F:wm K x qual st f fd)(S:gx N ps<|ae st)(len:∀ds S R Z,sp ds S R Z->ds.length=ps.length) (mI:∀(g_:Value)(A:Around)(outer:List Env)(s:Shared)(H:Hp)(E:XK)(ds:List D)(S:au)(R:KD)(Z:KX),g_=fd.code->bW k (A.deeper<|envOfC qual (ae st) s.heap.objs.size f g_)->sp ds S R Z->∃t,Hb K (kM (fE P w mg) P w K mg base N qual (ae st) f g_ A outer s H E) true (bh st) t/\t {nx:=λ_ S'=>Fo S'<|R .av,rt:=λd S'=>Fo S'<|R d} (jK N ds) S λ_ C S'=>Fo S'<|Z C):bI P w K mg base (fE P w mg) (k+1) f fd ps (q8 K sp):=by
 obtain⟨oc,od,dV,kV,doc,pm,an,g_,ct,Pn,rfl,lk,t9⟩:=F.ex;have dN:ps.length<=N.length:=by have:=congrArg List.length S.pre;rw[ym]at this;lia
 refine Nq lk t9 S (by rintro vs H Q E ⟨ds,S',R,Z,v,_,h,_⟩;exact by rw[v.len];exact len _ _ _ _ h) λA outer s H vs Q E hr ⟨ds,S',R,Z,v,hS,h,hR,hZ⟩=>?_;obtain⟨t,ht,q⟩:=mI g_ A outer s H E ds S' R Z rfl hr h;have L:dq (kM (fE P w mg) P w K mg base N qual (ae st) f g_ A outer s H E) E:=u6;let y:Ev (kM (fE P w mg) P w K mg base N qual (ae st) f g_ A outer s H E) true:={_,(kM (fE P w mg) P w K mg base N qual (ae st) f g_ A outer s H E).xe,λ_=>E,{λp2 τ H1 s1 e s' I h=>Ny L p2 τ H1 s1 e s' I h,λ_ p2 τ H1 s1 h' a cls args I hx he=>pS L I hx he,λ_=>PassesOwn.leaving}};refine{L2.Tl K (λ_=>E) t,ht.of y,jK N ds,S',_,λ_ C S'=>Fo S'<|Z C,?_,hS,q,{by rintro σ S1 τ H1 ⟨S2,sb,r⟩ a b c;exact(hR.kp c).now (b.sub sb) r jG,by rintro d S1 v H1 ⟨S2,sb,r⟩ a b c;exact hR _ _ _ _ r a (b.sub sb) c,λ_ _ _ _ z=>z.elim,λ_ _ _ _ z=>z.elim},by rintro σ τ C S1 H1 ⟨S2,sb,r⟩ a b c;exact hZ C S2 H1 r (b.sub sb) c};unfold jK start;refine(sv v).app ?_;rw[v.len];exact su _ _<|by rw[List.length_replicate]
end
structure Av(ts:List Addr)(H:Hp):Prop where
 all:∀b,H b=none\/(∃o xs,H b=some (.lQ o<|.lst xs))\/(b∈ts/\H b=some (.qO #[]))
 tab:∀b∈ts,H b=some (.qO #[])
theorem F8{P:Program}{w:World}{K:Frag}{mg mb:Str->Option Value}{CX:BM}{k:Nat}{fa a:Addr}{fd:FuncData}{x:Str}{sp:Sp}{aZ:Shared}{vs:List Value}{ns:List Int}{ts:List Addr} (KX:K.In aZ.heap) (Qv:aZ.heap.Ns mainGlobals mg) (hb:aZ.heap.Ns builtinsNs mb) (hbb:∀x:Str,x≠"__name__"->mb x=bootBuiltins x) (ZL:aZ.heap.NoLimit) (hbm:Bm mg aZ.heap) (hg:aZ.gens=#[]) (hT:∀b∈ts,aZ.heap.get? b=some (tabObj #[])) (hC:∀b∈ts,isCodeTable aZ.heap b) (hN:∀b∈ts,K.lookup b=none) (ha:aZ.heap.get? a=some {cls:=.type "list",data:=.seq vs.toArray}) (hi:IntsAre vs ns) (hl:ns.length<=sizeLine) (hr:bW k callerA) (F:∀base:Heap,Bm mg base->K.In base->base.Ns mainGlobals mg->bI P w K mg base CX k fa fd [x] sp) (Vi:∀(s:Shared) (u:Value),BindsTo s fd {[u],[]} [(x,u)]) (RM:∀H:Hp,Av ts H->kz K H a (ns.map V.int)->sp [.ref a] H (λv _=>v=.bl true) λ_ _ _=>False) (ZM:∀H e s',CX [] H aZ (λ_ _ _=>False) e s'->False): codeAny (model P w) callerA (.call (.ref fa) {[.ref a],[]}) (λr s'=>r=.ok (.ret<|.bool true)/\OldK aZ.heap s'.heap/\s'.os=aZ.os/\AllBare s'.gens) aZ:=by
 have rv:=u1 hi;have ZO:=hi.length;have WZ:a∉ts:=λz=>by rw[hT a z]at ha;cases ha
 have core:∀H:Hp,Av ts H->kz K H a (ns.map V.int)->lR P w H aZ.heap->(∀b,H b≠none->b=a\/b∈ts)->(H a≠none->K.lookup a=none)->codeAny (model P w) callerA (.call (.ref fa) {[.ref a],[]}) (λr s'=>r=.ok (.ret<|.bool true)/\OldK aZ.heap s'.heap/\s'.os=aZ.os/\AllBare s'.gens) aZ:=by intro H hO hS aL hA hK;have wz:∀{b:Addr}{o:Obj},aZ.heap.get? b=some o->H b=none->(uf aZ.heap H).get? b=some o:=λe n=>Hh e n;have K8:∀{b:Addr}{o:Obj}{es:Array DictEntry}{ep:Nat},aZ.heap.get? b=some o->o.data=.dict es ep->H b=none:=λ{b o es ep} e d=>(by cases q:H b with|none=>rfl|some u=>rcases hA b (by rw[q];simp) with e'|e';subst e';rw[ha]at e;cases e;have d':Data.seq vs.toArray _=Data.dict es ep:=d;cases d';rw[hT b e']at e;cases e;cases d);have Xc:∀{b:Addr}{m:Str->Option Value},aZ.heap.Ns b m->(uf aZ.heap H).Ns b m:=λ{b m} ⟨o,es,ep,e,d,r⟩=>{o,es,ep,wz e<|K8 e d,d,r};have hKb:K.In (uf aZ.heap H):=λb o e=>wz (KX b o e) (by cases q:H b with|none=>rfl|some u=>rcases hA b (by rw[q];simp) with e'|e';subst e';rw[hK<|by rw[q];simp]at e;cases e;rw[hN b e']at e;cases e);have hM:Mod K mg (uf aZ.heap H):={hKb,Xc Qv,{mb,Xc hb,hbb},by obtain⟨mc,h1,h2⟩:=ZL;exact{mc,Xc h1,h2}};have e0:x9 P w K mg (uf aZ.heap H) callerA [] aZ H:={rfl,hM,λb o e=>KG e,Nat.le_of_eq<|Ff _ _,trivial,λb hb=>absurd (show b∈([]:List Addr) from hb)<|by simp,aL,.of_eq hg};have hBm:Bm mg (uf aZ.heap H):=(by obtain⟨bm,ob,b1,b2,b3,b4,b5,b6⟩:=hbm;refine{bm,ob,b1,b2,wz b3 ?_,b4,b5,b6};cases q:H bm with|none=>rfl|some u=>rcases hA bm (by rw[q];simp) with e'|e';rw[e',ha]at b3;cases b3;cases b6;rw[hT bm e']at b3;cases b3;cases b4);refine yT ((F _ hBm hKb<|Xc Qv).run callerA [] aZ H {[.ref a],[]} [.ref a] [.ref a] _ _ hr e0 (Vi aZ<|.ref a) (.cons rfl .nil)<|RM H hO hS) λr s' h=>?_;cases r with|error e=>exact(ZM H e s' h).elim|ok fl=>cases fl with|next=>exact False.elim h|brk=>exact False.elim h|cont=>exact False.elim h|ret u=>obtain⟨v,H',os,bare,un,Vj,r',q⟩:=h;have q':v=.bl true:=q;subst q';obtain rfl:u=Value.bool true:=r';refine{rfl,{λb o e=>?_,λb o e=>un.there b o e<|by simp},os,bare};rcases hO.all b with z|⟨ob,xs,z⟩|⟨z1,z⟩;exact .inl<|un.keep b o e z (by intro z;exact absurd (show b∈([]:List Addr) from z)<|by simp) (by simp);have z2:=un.lS b ob _ z;obtain⟨e1,_⟩:=aL b _ z;obtain⟨e2,_⟩:=Vj b _ z2;rw[e]at e1;cases e1;exact .inl e2;obtain⟨more,z2⟩:=un.lT b _ z;have e2:=hT b z1;rw[e]at e2;cases e2;exact .inr<|.inl {hC b z1,rfl,#[],more,rfl,by have:=Vj b _ z2;exact this}
 have tabs:∀(H:Hp),(∀b,b∈ts->H b=some (.qO #[]))->∀b u,b∈ts->H b=some u->br P w H aZ.heap b u:=λH h b u hb e=>by rw[h b hb]at e;cases e;exact hT b hb
 cases hk:K.lookup a with|some o=>(have e:=KX a o hk;rw[ha]at e;cases e;refine core (λb=>if b∈ts then some (.qO #[]) else none) {λb=>?_,λb hb=>if_pos hb} (.inr {_,vs.toArray,_,hk,rfl,rfl,rfl,by rw[zp,ZO];exact hl,by simpa using rv}) (λb u z=>?_) (λb z=>?_) λz=>absurd (if_neg WZ) z;by_cases hb:b∈ts;exact .inr<|.inr {hb,if_pos hb};exact .inl<|if_neg hb;by_cases hb:b∈ts;exact tabs _ (λb hb=>if_pos hb) b u hb z;have z':=(if_neg hb).symm.trans z;cases z';by_cases hb:b∈ts;exact .inr hb;exact absurd (if_neg hb) z)|none=>refine core (λb=>if b=a then some (.lQ {cls:=.type "list",data:=.seq vs.toArray}<|.lst<|ns.map V.int) else if b∈ts then some (.qO #[]) else none) {λb=>?_,λb hb=>?_} (.inl<|.inr {{cls:=.type "list",data:=.seq vs.toArray},if_pos rfl}) (λb u z=>?_) (λb z=>?_) λ_=>hk;by_cases hb:b=a;exact .inr<|.inl {_,_,if_pos hb};by_cases Kt:b∈ts;exact .inr<|.inr {Kt,(if_neg hb).trans<|if_pos Kt};exact .inl<|(if_neg hb).trans<|if_neg Kt;have:b≠a:=λz=>WZ<|z ▸ hb;exact(if_neg this).trans<|if_pos hb;by_cases hb:b=a;have z':=(if_pos hb).symm.trans z;cases z';subst hb;exact{ha,by rw[za];exact hl,vs,_,rv,ha};have z':=(if_neg hb).symm.trans z;by_cases Kt:b∈ts;have z2:=(if_pos Kt).symm.trans z';cases z2;exact hT b Kt;have z2:=(if_neg Kt).symm.trans z';cases z2;by_cases hb:b=a;exact .inl hb;by_cases Kt:b∈ts;exact .inr Kt;exact absurd ((if_neg hb).trans<|if_neg Kt) z
theorem Es:∀{K:Frag},b∉K.map (·.1)->K.lookup b=none|[],_=>rfl| (a,o)::K,h=>by rw[zI,zh,not_or]at h;rw[yc,show(b==a)=false from beq_false_of_ne h.1];exact Es h.2
theorem L9{K:Params->Frag}{as:List Addr}{e:∀P,as=(K P).map (·.1)}{ts:List Addr}{w:World}{h:Heap}(_:(PySem.W.kmHook K as e ts).says w h)(d:∀b∈ts,b∉as):∀b∈ts,(K w.params).lookup b=none:=λb hb=>Es<|by rw[<-e];exact d b hb
theorem IL{l:PySem.W.OpenLaw}{n k:Nat}{q:Program}{loose:List Str}{XP:(Str->Option Value)->Heap->Prop}{YP:World->Heap->Prop}{d:DefRec}{K:Params->Frag}{CX:BM}{x:Str}{ts:List Addr} (hn:l.most=some n) (Nn:n<=sizeLine) (Ym:d.params.defaults=[]) (hr:bW k callerA) (hY:∀(w:World)(h:Heap),YP w h->(K w.params).In h) (hT:∀(w:World)(h:Heap),YP w h->∀b∈ts,h.get? b=some (tabObj #[])) (hN:∀(w:World)(h:Heap),YP w h->∀b∈ts,(K w.params).lookup b=none) (F:∀(w:World)(mg:Str->Option Value)(fa:Addr)(h:Heap),(K w.params).In h->h.Ns mainGlobals mg->mg d.name=some (.ref fa)->∃(fd:FuncData)(sp:Sp),(∀b∈ts,∃c,codeHdIn (K w.params) c b=true)/\(∀(s:Shared)(u:Value),BindsTo s fd {[u],[]} [(x,u)])/\(∀base:Heap,Bm mg base->(K w.params).In base->base.Ns mainGlobals mg->bI l.prog w (K w.params) mg base CX k fa fd [x] sp)/\∀(H:Hp)(a:Addr)(ns:List Int),ns.length<=n->Av ts H->kz (K w.params) H a (ns.map V.int)->sp [.ref a] H (λv _=>v=.bl true) λ_ _ _=>False) (ZM:∀(H:Hp)(s:Shared)(e:Value)(s':Shared),CX [] H s (λ_ _ _=>False) e s'->False): PySem.W.WalkO q loose XP YP l.row.toRowW d [] (λf vs=>PySem.call f vs):=by refine Att.y0 hn Ym λw dF aZ mg mb fa o pm cd doc a vs ns G Y ho hd t9 PL PM hints hlen hg=>?_;have KX:=hY w _ Y;obtain⟨fd,sp,hC,hb,hF,RM⟩:=F w mg fa _ KX G.T.g PL;have hT':=hT w _ Y;exact F8 KX G.T.g G.T.b G.T.builtins G.T.nolimit G.T.bmain hg hT' (λb z=>by obtain⟨c,hc⟩:=hC b z;exact((codeHd_of_K KX hc).tab<|hT' b z).isCodeTable) (hN w _ Y) PM hints (zK hlen Nn) hr hF hb (λH hO hS=>RM H a ns hlen hO hS) λH e s'=>ZM H aZ e s'
namespace Rt
theorem own:Manifest.owners.lookup (String.ofList ['d','e','s','r','e','v','e','r'].reverse)=some Manifest.sig_reversed:=by kernel_rfl
theorem mV:Slot "reversed" "__next__" "reversed.__next__":=.of (owner:="reversed") (n:="__next__") (by rw[typeLookup_type,builtinLookup_eq_fast];kernel_rfl) (by trivial) (by trivial) (by trivial) (by first|exact .inl (by trivial)|exact .inr (by trivial))<|by rw[isSubtype_type];kernel_rfl
theorem Et:entryFor table "reversed.__next__"= some Builtin.«reversed.__next__»:=entryFor_of_tree<|by kernel_rfl
theorem Eu(a:Value):argsOk "reversed.__next__" {[a],[]}:=by unfold argsOk;rw[signature?_of (id:="reversed.__next__") (n:=['_','_','t','x','e','n','_','_']) (o:=['d','e','s','r','e','v','e','r']) (by kernel_rfl) own];kernel_rfl
theorem Ew:Slot "reversed" "__iter__" "reversed.__iter__":=.of (owner:="reversed") (n:="__iter__") (by rw[typeLookup_type,builtinLookup_eq_fast];kernel_rfl) (by trivial) (by trivial) (by trivial) (by first|exact .inl (by trivial)|exact .inr (by trivial))<|by rw[isSubtype_type];kernel_rfl
theorem L_(a:Value):argsOk "reversed.__iter__" {[a],[]}:=by unfold argsOk;rw[signature?_of (id:="reversed.__iter__") (n:=['_','_','r','e','t','i','_','_']) (o:=['d','e','s','r','e','v','e','r']) (by kernel_rfl) own];kernel_rfl
theorem Ma:entryFor table "reversed.__iter__"= some Builtin.«dict_keyiterator.__iter__»:=entryFor_alias (id':="dict_keyiterator.__iter__") (by kernel_rfl) (by first|rfl|decide +kernel|(unfold String.splitOn;simp +decide [String.splitOnAux])) (by trivial)<|by kernel_rfl
theorem Mb:Slot "reversed" "__init__" "object.__init__":=.of (owner:="object") (n:="__init__") (by rw[typeLookup_type,builtinLookup_eq_fast];kernel_rfl) (by trivial) (by trivial) (by trivial) (by first|exact .inl (by trivial)|exact .inr (by trivial))<|by rw[isSubtype_type];kernel_rfl
theorem called:TypeCalled "reversed" "reversed.__new__" "object.__init__":={by trivial,by trivial,{_,_,F.mro_reversed},F.made_reversed,by trivial,by rw[isSubtype_type];kernel_rfl,Mb}
theorem QB:typeLookup (.type "tuple") "__reversed__"= pure none:=by rw[typeLookup_type,builtinLookup_eq_fast];kernel_rfl
theorem Ex:typeLookup (.type "tuple") "__getitem__"= pure (some<|.builtin "tuple.__getitem__"):=by rw[typeLookup_type,builtinLookup_eq_fast];kernel_rfl
theorem Mc:isSubtype (.type "tuple") (.type "dict")=pure false:=by rw[isSubtype_type];kernel_rfl
end Rt
noncomputable def Aw(l:Addr)(i:Int):Obj:={cls:=.type "reversed",data:=.fields #[.ref l,rawInt i]}
def sJ(h:Heap)(a l:Addr)(i:Int):Prop:=∃o,h.get? a=some o/\o.cls=.type "reversed"/\o.data=.fields #[.ref l,rawInt i]
section
variable{prog:Program}{w:World}{A:Around}{E:Value->Shared->Prop}{s:Shared}
theorem sJ.typeIs(x:sJ s.heap a l i):s.TypeIs (.ref a) "reversed":=by obtain⟨o,ho,hc,_⟩:=x;exact⟨o,ho,hc⟩
theorem sJ.keep(x:sJ h a l i)(e:∀o,h.get? a=some o->h'.get? a=some o):sJ h' a l i:=by obtain⟨o,ho,r⟩:=x;exact{o,e _ ho,r}
theorem QC(hl:IsTup s.heap l items)(hz:items.size<=sizeLine)(h:Q₁ (.ref s.heap.objs.size) {s with heap:=s.heap.push<|Aw l<|(items.size:Int)-1,toks:=s.toks+1+1}): codeAny (model prog w) A (.call (.builtin "reversed.__new__") {[.type "reversed",.ref l],[]}) (wants Q₁ E) s:=by
 refine codeAny_of_tree ?_;show wpAny _ A.in1 (do checkBuiltinCall "reversed.__new__" {[.type "reversed",.ref l],[]};again (.builtin "reversed.__new__" {[.type "reversed",.ref l],[]})) _ _ s;refine zc<|yV (F.newCall_reversed_1 _)<|zA {plainId_quiet F.plain_reversed_new _,yP F.entry_reversed_new ?_};rw[Around.under_plainId F.plain_reversed_new _];unfold Builtin.«reversed.__new__»;refine zc<|yV (newClass_reversed _) ?_;refine zc<|yV (a:=()) (by first|rfl|kernel_rfl)<|zc<|yV (a:=()) (by first|rfl|kernel_rfl) ?_;refine zc<|wpAny_specialOf hl.typeIs Rt.QB ?_;refine zc<|zc<|wpAny_isInstance hl.typeIs Rt.Mc<|zc<|wpAny_specialOf hl.typeIs Rt.Ex ?_;show wpAny _ _ (if (["tuple.__getitem__","str.__getitem__","bytes.__getitem__","bytearray.__getitem__","memoryview.__getitem__","numpy.ndarray.__getitem__","sqlite3.Row.__getitem__"]:List String).contains "tuple.__getitem__"= true then pure true else _) _ _ _;rw[if_pos<|by trivial];refine zA ?_
 show wpAny _ _ (do
     let oB <-call (Value.builtin "len") [Value.ref l]
     let __x <-asInt? oB
     match __x with
      |some n=>do
       let oB <-Builtin.SmallTypes.newRecord (Value.type "reversed") [Value.ref l,rawInt (n-1)]
       ret oB
      |x=>unsupported "internal:reversed.__new__") _ _ _
 refine zc<|len_tuple hl (by rw[ye]at hz;lia) ?_;refine zc<|yV (a:=some ((items.size:Nat):Int)) rfl ?_;exact zc (m:=newObj (.type "reversed")<|.fields #[.ref l,rawInt<|((items.size:Nat):Int)-1])<|yG<|zA h
theorem Md(hl:IsTup s.heap l items)(hz:items.size<=sizeLine)(h:Q (.ref s.heap.objs.size) {s with heap:=s.heap.push<|Aw l<|(items.size:Int)-1,toks:=s.toks+1+1}): wpAny (model prog w) A (call (.type "reversed") [.ref l]) Q E s:=by refine callType_codes Rt.called (F.typeCall_reversed_1 _) F.entry_object_init (Q₁:=λobj aZ=>aZ.TypeIs obj "reversed"/\Q obj aZ) (QC hl hz {{_,zj _ rfl,rfl},h}) λobj aZ h₁=>?_;exact{h₁.1,F.args_object_init_2 obj _,object_init_meets Rt.called.init.lookup Rt.called.made (by decide) prog w A.in1 _ aZ ⟨h₁.1,rfl,h₁.2⟩}
theorem sqx(h:k<n):seqIndex? ((k:Nat):Int) n=some k:=by have e:(if ((k:Nat):Int)<0 then ((k:Nat):Int)+(n:Int) else ((k:Nat):Int))=((k:Nat):Int):=if_neg (by lia);unfold seqIndex?;dsimp only;rw[e,if_pos<|by simp;lia];rfl
theorem Me{it l:Addr}{i:Nat}{items:Array Value}{x:Value}{Q:Option Value->Shared->Prop}(hit:sJ s.heap it l (i:Int))(hl:IsTup s.heap l items)(hz:items.size<=sizeLine)(hx:items[i]?=some x) (hQ:∀h' tk,sJ h' it l ((i:Int)-1)->Heap.SameBut it s.heap h'->Q (some x) {s with heap:=h',toks:=tk}):wpAny (model prog w) A (pyNext<|.ref it) Q E s:=by obtain⟨o,ho,hc,hd⟩:=id hit;have hi:i<items.size:=(Array.getElem?_eq_some_iff.mp hx).1;unfold pyNext;refine zc<|wpAny_attempt<|wpAny_callSpecial?_slot (name:=Str.ofString "__next__") hit.typeIs Rt.mV<|yL Rt.mV hit.typeIs Rt.Et ?_<|Rt.Eu _;unfold Builtin.«reversed.__next__»;refine zc<|yV (a:=(Value.ref it,[])) rfl<|zc<|yf ho hd (x:=.ref l) rfl<|zc<|yf ho hd (x:=rawInt (i:Int)) rfl ?_;show wpAny _ _ (if (i:Int)<0 then _ else _) _ _ s;rw[if_neg<|by lia];show wpAny _ _ (specialOf (.ref l) "__getitem__" >>=_) _ _ s;refine zc<|wpAny_specialOf hl.typeIs Rt.Ex ?_;show wpAny _ _ (mkInt (i:Int) >>=_) _ _ s;refine zc<|wpAny_mkInt ?_;refine zc<|wpAny_attempt<|getItem_tuple (j:=i) hl (by lia) (by rw[ye]at hz;lia) (sqx hi) hx ?_;refine zc<|yf ho hd (x:=rawInt (i:Int)) rfl ?_;show wpAny _ _ (setField (.ref it) 1 (rawInt<|(i:Int)-1) >>=λ_=>ret x) _ _ _;refine zc<|yR ho hd (by simp)<|zA {x,rfl,zA<|hQ _ _ ?_<|yB ..};exact{_,yx _ ho<|Obj.isFreed_of_fields<|yz hd _,(Obj.cls_mapFields ..).trans hc,by rw[yz hd];simp}
theorem QD(hh:A.handled=none)(hit:sJ s.heap it l (-1))(hQ:∀h',Heap.ExtBut it s.heap h'->Q none {s with heap:=h'}):wpAny (model prog w) A (pyNext<|.ref it) Q E s:=by
 obtain⟨o,ho,hc,hd⟩:=id hit;unfold pyNext;refine zc<|wpAny_attempt<|wpAny_callSpecial?_slot (name:=Str.ofString "__next__") hit.typeIs Rt.mV<|yL Rt.mV hit.typeIs Rt.Et ?_<|Rt.Eu _;unfold Builtin.«reversed.__next__»;refine zc<|yV (a:=(Value.ref it,[])) rfl<|zc<|yf ho hd (x:=.ref l) rfl<|zc<|yf ho hd (x:=rawInt (-1)) rfl ?_;show wpAny _ _ (if (-1:Int)<0 then _ else _) _ _ s;rw[if_pos<|by decide];refine zc<|wpAny_rule ?_;have hd1:=yz hd (·.setIfInBounds 1 (rawInt (-1)));have R6:=yx (Obj.mapFields (·.setIfInBounds 1 (rawInt (-1)))) ho<|Obj.isFreed_of_fields hd1;refine zc (m:=setField (.ref it) 1 (rawInt (-1)) >>=λ_=>setField (.ref it) 0 .none)<|zc<|yR ho hd (by simp)<|yR R6 hd1 (by simp) ?_;have eb:Heap.ExtBut it s.heap ((s.heap.update it (Obj.mapFields (·.setIfInBounds 1 (rawInt (-1))))).update it (Obj.mapFields (·.setIfInBounds 0 Value.none))):=λb u hb e=>by rw[yq _ _<|Ne.symm hb,yq _ _<|Ne.symm hb];exact e
 refine zc ?_;show wpAny _ _ (newExc (.type "StopIteration") [] >>=_) _ _ _;refine zc ?_;simp only[newExc,newTuple];refine zc<|yG ?_ (by size_fits);refine zc (m:=firstArgMember _ _)<|yV (a:=Value.none) (by first|rfl|(simp only[firstArgMember];rfl)) ?_;refine yG ?_ (by size_fits);simp only[raiseNew];refine zc<|wpAny_handled ?_;first|rw[show A.in1.handled=none from hh]|rw[hh]
 refine zc<|zA<|wpAny_throw ?_;refine zc<|wpAny_isInstance (T:="StopIteration") (b:=true) {_,zj _ rfl,rfl} isSubtype_stop ?_;exact zA<|hQ _<|(eb.push _).push _
theorem Ey(hit:sJ s.heap it l i)(h:Q (.ref it) s):wpAny (model prog w) A (pyIter<|.ref it) Q E s:=by refine wpAny_pyIter_slot hit.typeIs Rt.Ew<|yL Rt.Ew hit.typeIs Rt.Ma ?_<|Rt.L_ _;show wpAny _ _ (ret<|.ref it) _ _ s;exact zA !{"reversed",_,hit.typeIs,Rt.mV.lookup,h}
end
end L2
namespace L2
open PySem PySem.Spec PyProof.Rows
def Vk(K:Frag)(a:Addr)(n:Nat):It:={λi H=>∃xs x,jn K H a xs/\xs.length=n/\i<n/\xs[n-1-i]?=some x,λi H x H'=>H'=H/\∀xs,jn K H a xs->xs.length=n->xs[n-1-i]?=some x,λi _=>n<=i}
theorem Mf{P:Program}{w:World}{K:Frag}{tg:Expr}(a it:Addr)(n:Nat):Turn P w K tg (Vk K a n) [it] it (λi h=>i<=n/\sJ h it a ((n:Int)-1-(i:Int))) where
 mem:=by simp
 obj:=λi h st b hb=>by
  have e:b=it:=by simpa using hb
  subst e
  obtain⟨_,o,e,c,d⟩:=st
  exact{o,e,λv z=>by rw[d]at z;cases z}
 keep:=λi h h' st k=>{st.1,st.2.keep λo e=>k it (by simp) o e}
 item:=by
  intro X hP hw hK hc i pins s σ H E I hf st hg
  subst hP hw hK
  obtain⟨xs,x,hq,hn,hi,hx⟩:=hg
  obtain⟨ay,rv,p,hz⟩:=I.tuple hq
  obtain⟨u,hu,ru⟩:=rv.get hx
  obtain⟨f0,f1,f2,f3,f4,f5⟩:=hf it<|by simp
  have e:(n:Int)-1-(i:Int)=((n-1-i:Nat):Int):=by lia
  have hit:=st.2
  rw[e]at hit
  refine Me hit p (by rw[zp,<-rv.length];exact hz) (x:=u) (by simpa using hu) λh' tk dP sb=>?_
  have I1:Inv X pins σ H {s with heap:=h',toks:=tk}:=I.turned (t':=tk) (λb o hb e=>(sb.2 b hb).trans e) f0 f1 f3 f4 f5
  obtain⟨o,e1,c,d⟩:=id dP
  refine{u,rfl,uS (s:={s with heap:=h',toks:=tk}) e1 c d (by decide) {x,H,I1,ru,{rfl,λys hy _=>by rw[I.oi hy hq];exact hx},{hi,?_},λb hb=>(hf b hb).1}}
  have e2:(n:Int)-1-((i+1:Nat):Int)=((n-1-i:Nat):Int)-1:=by lia
  rw[e2];exact dP
 done:=by
  intro X hP hw hK hc i pins s σ H E I hf st hg
  subst hP hw hK
  obtain⟨f0,f1,f2,f3,f4,f5⟩:=hf it<|by simp
  have hg:n<=i:=hg
  have e:(n:Int)-1-(i:Int) = -1:=by have:=st.1;lia
  have hit:=st.2
  rw[e]at hit
  exact QD (I.ok.hd hc) hit λh' eb=>{rfl,I.turned (t':=s.toks) (λb o hb e=>eb b o hb e) f0 f1 f3 f4 f5}
 self:=λ_ _ _ _ _ st h=>Ey st.2 h
def iRt(K:Frag)(ta:TA):TI:=λσ H R=>ta σ H λvs H1=>∃a xs,vs=[.ref a]/\jn K H1 a xs/\R (Vk K a xs.length) H1
theorem Vl{X:Cx}{tg a:Expr}{ta:TA}{p pos:Pos}(hg:Gl X "reversed")(hm:X.mg "reversed"= none)(ha:PA X [a] ta)(hs:starEach [a] X.env=[(false,eval a X.env)]):PI X tg (.Call (.Name "reversed" p) [a] [] pos) (iRt X.K ta):=by
 intro pins s σ H R I h;refine Call_<|gN I hg hm boot_reversed<|PyProof.Rows.callWith_type1 (bt (ha pos pins s σ H _ I h) λus s1 ⟨vs,H1,I1,r1,q1⟩=>?_) hs rfl;obtain⟨l,xs,e,q,hR⟩:=q1;subst e;obtain⟨u,rfl,ru⟩:=vals1 r1;cases ru;obtain⟨ay,rv,pl,hz⟩:=I1.tuple q;have hn:ay.toArray.size=xs.length:=by rw[zp,rv.length]
 refine Md pl (by rw[hn];exact hz) ?_;rw[hn];have st:sJ (s1.heap.push<|Aw l<|(xs.length:Int)-1) s1.heap.objs.size l ((xs.length:Int)-1-((0:Nat):Int)):={_,zj _ rfl,rfl,by show Data.fields _=Data.fields _;simp};have I2:Inv X pins σ H1 {s1 with heap:=s1.heap.push<|Aw l<|(xs.length:Int)-1,toks:=s1.toks+1+1}:=I1.kept (t':=s1.toks+1+1) λb o e=>zb _ e;refine Ey (s:={s1 with heap:=s1.heap.push<|Aw l<|(xs.length:Int)-1,toks:=s1.toks+1+1}) st {_,_,_,_,H1,rfl,I2,Mf l s1.heap.objs.size xs.length,{zT _,st},λb hb=>?_,hR};have hb:b=s1.heap.objs.size:=by simpa using hb
 subst hb;exact I1.qz (zr _)<|I1.aL.fresh<|zr _
section
variable{K:Frag}{X:Cx}{tg:Expr}
def ZP(t:jq):Bu:=λσ S R Z=>t σ S (λds S1=>∃es,ds=[.tup es]/\R {es.reverse,λ_=>True} S1) Z
theorem irt{t:jq}(hm:X.mg "reversed"= none)(ha:DA K X [a] t)(hg:autoParam (Gl X "reversed") qQJ)(hs:autoParam (starEach [a] X.env=[(false,eval a X.env)]) qQJ)(hK:autoParam (X.K=K) qQJ):DI K X tg (.Call (.Name "reversed" p) [a] [] pos) (ZP t):=by subst hK;exact⟨λy=>(Vl (X:=y.cx) hg hm (ha.of y) hs).mono <| by rintro τ H R ⟨σ,S,RI,Z,aB,hS,q,hR,hZ⟩;exact{σ,S,_,Z,aB,hS,q,by rintro ds S1 vs H1 ⟨es,e,r1⟩ v1 s1 k1;subst e;obtain⟨v,rfl,r⟩:=v1.one;obtain⟨a,xs,rfl,hq,t⟩:=r.tup;refine{a,xs,rfl,.inl<|.of hq,hR _ S1 _ H1 r1 (λi S2 H2 k2 s2 WW=>?_) s1 k1};have R3:jn X.K H2 a xs:=.inl<|.of<|k2.t _ _ hq;have t2:=RvAll.ts k2 _ t;have hl:xs.length=es.length:=t.len;refine{λd hd=>?_,λh=>by rw[yC]at h;show xs.length<=i;lia};have hi:i<es.length:=(by have:=(ze.mp hd).1;rwa [yC]at this);rw[List.getElem?_reverse hi]at hd;obtain⟨v,e1,r⟩:=t2.get hd;rw[hl];refine{⟨xs,v,R3,hl,hi,e1⟩,λx' H' ⟨e2,e3⟩=>?_};subst e2;have:=e3 xs R3 hl;rw[e1]at this;cases this;exact{r,.refl _,s2},hZ}⟩
end
section
variable{K:Frag}{X:Cx}{pos:Pos}
def QE(tc:mE)(tb:mT):mT:=λDe σ S Z=>∃P:Nat->SD->au->Prop,(∃m,P m σ S)/\∀m σ S,P m σ S->tc σ S (λb S1=>if b=true then tb {De with nx:=λaI S'=>∃m',m'<m/\P m' aI S',ct:=λaI S'=>∃m',m'<m/\P m' aI S',bk:=De.nx} σ S1 Z else De.nx σ S1) (Z σ)
theorem ZQ(hc:DT K X c tc)(hb:Hb K X true body tb):DS K X true (.While c body [] pos) (QE tc tb):=
 ⟨λy=>(Hm (X:=y.cx) (y.ok.loop rfl) (hc.of y)<|hb.of y).mono <| by rintro D τ H ⟨σ,S,De,Z,aB,hS,⟨P,⟨m,p0⟩,turn⟩,hD,hZ⟩;exact
  ⟨λm RX H'=>∃σ S,iJ K H' σ RX/\Rs K S H'/\P m σ S/\Kp K H H',⟨m,σ,S,aB,hS,p0,.refl _⟩,by rintro m Zi H1 ⟨xS,S1,a1,s1,p1,k1⟩;exact⟨xS,S1,_,Z xS,a1,s1,turn m xS S1 p1,λb S2 H2 r2 s2 k2=>by
   cases b with
   |true =>
    rw[if_pos rfl]at r2⊢
    refine{λτ3 H3=>∃σ S,iJ K H3 σ τ3/\Rs K S H3/\(∃m',m'<m/\P m' σ S)/\Kp K H H3,by rintro τ3 H3 ⟨fw,S3,a3,s3,⟨m',hm,p3⟩,k3⟩;exact⟨m',hm,fw,S3,a3,s3,p3,k3⟩,?_}
    have kk:=k1.trans k2
    exact{xS,S2,_,Z,a1.ts k2,s2,r2,{λQn S5 Zs H5 r5 a5 s5 k5=>{Qn,S5,a5,s5,r5,kk.trans k5},hD.rt.kp kk,hD.nx.kp kk,λQn S5 Zs H5 r5 a5 s5 k5=>{Qn,S5,a5,s5,r5,kk.trans k5}},hZ.kp kk}
   |false =>
    rw[if_neg zd]at r2⊢
    exact hD.nx _ _ _ _ r2 (a1.ts k2) s2<|k1.trans k2,(hZ.kp k1).at a1⟩⟩⟩
def ZR(i:Nat)(te:TD):mT:=λDe σ S Z=>∃a:Int,σ[i]?=some (some<|.int a)/\te σ S (λd S1=>∃b:Int,d=.int b/\De.nx (σ.set i<|some<|.int<|a+b) S1) (Z σ)
theorem sau(hN:X.N.Nodup)(he:DE K X e te)(hi:autoParam (X.N[i]?=some x) qQJ)(hx:autoParam (Loc X.env.scope x) qQ8)(hf:autoParam (X.fn x=true\/X.env.scope.names.lookup x=some .local) qQ8): DS K X b (.AugAssign (.Name x pos') .Add e pos) (ZR i te):=⟨λy=>(O3 (X:=y.cx) hN hi hx (he.of y) O4 hf).mono <| by rintro D τ H ⟨σ,S,De,Z,aB,hS,⟨a,ha,t⟩,hD,hZ⟩;obtain⟨v,e1,r⟩:=aB.get ha;exact{v,e1,σ,S,_,Z σ,aB,hS,t,by rintro d S1 u H1 ⟨c,e2,n⟩ rv s1 k1;subst e2;exact{a,c,r.int,rv.int,hD.nx _ _ _ _ n ((aB.ts k1).set i<|aS _) s1 k1},hZ.at aB}⟩
noncomputable def vD:V->D|.int i=>.int i|.str z=>.str z|.bl b=>.bl b|_=>.av
noncomputable def IM:V->Bool|.int _=>true|.str _=>true|_=>false
def Vm(kvs:List<|Str×V)(ty:TD):TD:=λσ S R Z=>ty σ S (λy S1=>∃z,y=.str z/\R ((kvs.lookup z).elim .av vD) S1) Z
theorem mgk{w:World}{ad:Addr}{kvs:List<|Str×V}{o e:Expr}{apos aO:Pos}{ty:TD}(d:Kl w K ad kvs)(hf:(kvs.all λp=>IM p.2)=true)(ho:∀Y:Cx,Y.env=X.env->Y.mg=X.mg->PE Y o (tC<|.ref ad))(he:DE K X e ty)(hw:autoParam (X.w=w) qQJ)(hK:autoParam (X.K=K) qQJ)(m:autoParam (M1 X o "get" apos e aO) qQ4): DE K X (.Call (.Attribute o "get" apos) [e] [] aO) (Vm kvs ty):=⟨λy=>(HY (X:=y.cx) hw hK (ho y.cx rfl rfl) (he.of y) ⟨m.base,m.G7,m.line,m.trees⟩).mono <| by rintro τ H Q ⟨σ,S,R,Z,aB,hS,q,hR,hZ⟩;exact⟨ad,kvs,rfl,d,σ,S,_,Z,aB,hS,q,by
 rintro yv S1 v H1 ⟨z,e1,r⟩ rv s1 k1;subst e1;refine{z,rv.str,hR _ _ _ _ r ?_ s1 k1};have fl:∀v,kvs.lookup z=some v->IM v=true:=λv hv=>by have:=yh hv;exact zZ.mp hf _ this
 cases q:kvs.lookup z with|none=>exact jG|some v=>have:=fl v q;cases v with|int i=>exact aS i|str i=>exact fF i|_=>(cases this),hZ⟩⟩
end
theorem gK(hm:X.mg x=some (.ref a))(hg:autoParam (Gl X x) qQJ)(hd:autoParam ((x==("__debug__": Str))=false) qQZ):∀Y:Cx,Y.env=X.env->Y.mg=X.mg->PE Y (.Name x pos) (tC<|.ref a):=λY e1 e2=>DX (X:=Y) (u:=.ref a) (show Y.env.kindOf x=_ by rw[e1];exact hg) (by rw[e2];exact hm) rfl hd
structure Fb(K:Frag)(x q:Str)(st:Stmt)(ps:List Str)(f:Addr)(d:FuncData):Prop where
 F:wm K x q st f d
 b:Binds K d ps []
structure He(K:Frag)(mg:Str->Option Value)(x:Str)(st:Stmt)(ps:List Str)(f:Addr)(d:FuncData):Prop extends Fb K x x st ps f d where
 k:keepIn K (.ref f)=true
 m:mg x=some (.ref f)
structure N7(K:Frag)(c:Addr)(x q:Str)(st:Stmt)(ps:List Str)(f:Addr)(d:FuncData):Prop extends Fb K x q st ps f d where
 e:Meth K c x f
abbrev Ok(P:Program)(w:World)(base:Heap){K:Frag}{mg:Str->Option Value}{x:Str}{st:Stmt}{ps:List Str}{f:Addr}{d:FuncData}(_:He K mg x st ps f d)(k:Nat)(sp:kO):Prop:=bI P w K mg base (fE P w mg) k f d ps<|q8 K sp
abbrev rh(P:Program)(w:World)(mg:Str->Option Value)(base:Heap){K:Frag}{c:Addr}{x q:Str}{st:Stmt}{ps:List Str}{f:Addr}{d:FuncData}(_:N7 K c x q st ps f d)(k:Nat)(sp:kO):Prop:=bI P w K mg base (fE P w mg) k f d ps<|q8 K sp
theorem fsc{N P:List Str}{sc:Scope}(a:autoParam (sc.kind=.function/\sc.isCoroutine=false/\sc.isGenerator=false/\N.take P.length=P) qQ4)(b:autoParam (N.Nodup/\(∀x∈P,sc.names.lookup x=some .local\/sc.names.lookup x=some .cell)/\∀y∈sc.names,y.2≠.free) qJ3):gx N P sc:=⟨a.1,a.2.1,a.2.2.1,b.1,a.2.2.2,b.2.1,b.2.2⟩
section
variable{R:Prop}{K:Frag}{h:Heap}{mg:Str->Option Value}{od an:Option Addr}{sl:Array (Option Value)}{oc dV kV dc pm cd ct:Value}{f da:Addr}{Ku:Option Addr}{dn:Nat}{Kv:Array (Option Value)}{c:Addr}{tk:Tok}{d:FuncData}
theorem fn1(X:K.In h)(G:h.Ns mainGlobals mg)(x:Str)(st:Stmt)(ps:List Str)(a:nsIn K mainGlobals x=some (some<|.ref f))(l:K.lookup f=some {oc,od,.func<|fnOf x x (bp st) (bh st) (ae st) dV kV dc pm an cd ct,sl}) (e:codeIn K cd x=true) (k:keepIn K (.ref f)=true) (b:∀us:List Value,us.length=ps.length->bindArgs (fnOf x x (bp st) (bh st) (ae st) dV kV dc pm an cd ct) {us,[]}=pure (ps.zip us)) (g:∀d,He K mg x st ps f d->R):R:=g _ {{{_,_,_,_,_,_,_,_,_,_,rfl,l,e},.all b},k,mg_of X G a}
theorem ZS(X:K.In h)(G:h.Ns mainGlobals mg)(x:Str)(st:Stmt)(ps:List Str)(a:nsIn K mainGlobals x=some (some<|.ref f))(l:K.lookup f=some {oc,od,.func<|fnOf x x (bp st) (bh st) (ae st) dV kV dc pm an cd ct,sl}) (e:codeIn K cd x=true) (k:keepIn K (.ref f)=true) (b:∀us:List Value,us.length=ps.length->bindArgs (fnOf x x (bp st) (bh st) (ae st) dV kV dc pm an cd ct) {us,[]}=pure (ps.zip us)) (g:∀d,d.code=cd->(∀(s:Shared)(us:List Value),us.length=ps.length->BindsTo s d {us,[]} (ps.zip us))->He K mg x st ps f d->R):R:=g _ rfl (λs us h=>.of_eq<|b us h) {{{_,_,_,_,_,_,_,_,_,_,rfl,l,e},.all b},k,mg_of X G a}
theorem fm1(C:qW K c)(x q:Str)(st:Stmt)(ps:List Str)(a:findIn K (.ref c) x=some (some<|.ref f))(i:isFn K (.ref f)=true)(l:K.lookup f=some {oc,od,.func<|fnOf x q (bp st) (bh st) (ae st) dV kV dc pm an cd ct,sl}) (e:codeIn K cd q=true) (k:keepIn K (.ref f)=true) (b:∀us:List Value,us.length=ps.length->bindArgs (fnOf x q (bp st) (bh st) (ae st) dV kV dc pm an cd ct) {us,[]}=pure (ps.zip us)) (g:∀d,N7 K c x q st ps f d->R):R:=g _ {{{_,_,_,_,_,_,_,_,_,_,rfl,l,e},.all b},a,i,k}
theorem fmd(C:qW K c)(x q:Str)(st:Stmt)(ps:List Str)(a:findIn K (.ref c) x=some (some<|.ref f))(i:isFn K (.ref f)=true)(l:K.lookup f=some {oc,od,.func<|fnOf x q (bp st) (bh st) (ae st) (.ref da) kV dc pm an cd ct,sl}) (t:K.lookup da=some {.type "tuple",Ku,.seq #[.none] dn,Kv}) (e:codeIn K cd q=true) (k:keepIn K (.ref f)=true) (b:∀(s:Shared) (us:List Value),s.heap.get? da=some {.type "tuple",Ku,.seq #[.none] dn,Kv}->us.length=ps.length->BindsTo s (fnOf x q (bp st) (bh st) (ae st) (.ref da) kV dc pm an cd ct) {us,[]} (ps.zip us)) (b2:∀(s:Shared) (us:List Value),s.heap.get? da=some {.type "tuple",Ku,.seq #[.none] dn,Kv}->us.length+1=ps.length->BindsTo s (fnOf x q (bp st) (bh st) (ae st) (.ref da) kV dc pm an cd ct) {us,[]} (ps.zip<|us++[.none])) (g:∀d,N7 K c x q st ps f d->Binds K d ps [.none]->R):R:=g _ {{{_,_,_,_,_,_,_,_,_,_,rfl,l,e},λs us hK hl=>by rw[List.append_nil]at hl⊢;exact b s us (hK _ _ t) hl},a,i,k} λs us hK hl=>b2 s us (hK _ _ t)<|by simpa using hl
theorem Bw(X:K.In h)(G:h.Ns mainGlobals mg)(x:Str)(a:nsIn K mainGlobals x=some none)(g:mg x=none->R):R:=g<|PySem.W.mg_none_of X G a
theorem Mg(X:K.In h)(G:h.Ns mainGlobals mg)(x:Str)(i:Int)(a:nsIn K mainGlobals x=some (some<|.int i tk))(g:mg x=some (.int i tk)->R):R:=g<|mg_of X G a
theorem Vn(X:K.In h)(G:h.Ns mainGlobals mg)(x:Str)(a:nsIn K mainGlobals x=some (some<|.ref c))(l:K.lookup c=some o)(g:mg x=some (.ref c)->K.lookup c=some o->R):R:=g (mg_of X G a) l
theorem Mh(X:K.In h)(G:h.Ns mainGlobals mg)(x:Str)(a:nsIn K mainGlobals x=some (some<|.ref c))(e:excIn K c L2.ou "ValueError.__new__"= true)(g:mg x=some (.ref c)->excIn K c L2.ou "ValueError.__new__"= true->R):R:=g (mg_of X G a) e
theorem gvc(X:K.In h)(G:h.Ns mainGlobals mg)(x:Str)(a:nsIn K mainGlobals x=some (some<|.ref c))(pg:plainGet K c Str.empty=true)(hd:hasDictIn K c=true)(po:plainOver K c=true)(sa:findIn K (.ref c) "__setattr__"= some (some<|.builtin "object.__setattr__"))(ms:makesIn K c=true)(kc:keepIn K (.ref c)=true) (g:mg x=some (.ref c)->qW K c->makesIn K c=true->keepIn K (.ref c)=true->R):R:=g (mg_of X G a) ⟨pg,hd,po,sa⟩ ms kc
theorem Mi(C:qW K c)(x:Str)(a:findIn K (.ref c) x=some none)(g:findIn K (.ref c) x=some none->R):R:=g a
theorem QF{P:Addr}(l:K.lookup c=some o)(e:codeHdIn [(c,o)] c P=true):codeHdIn K c P=true:=by unfold codeHdIn at e⊢;rw[l];rw[show([(c,o)]:Frag).lookup c=some o by simp]at e;exact e
theorem gvm{P:Addr}(X:K.In h)(e:d.code=.ref c)(o:K.lookup c=some {oC,od,.fields vC,sl})(q:vC[11]?=some (.ref P))(hh:codeHdIn [(c,{oC,od,.fields vC,sl})] c P=true)(g:codeHdIn K c P=true->R):R:=g<|QF o hh
end
section
variable{Q:List Value->Prop}
theorem Xd(h:Q [])(us:List Value)(e:us.length=0):Q us:=by cases us with|nil=>exact h|cons a us=>cases e
theorem wA(h:∀a us,us.length=n->Q (a::us))(us:List Value)(e:us.length=n+1):Q us:=by cases us with|nil=>(cases e)|cons a us=>exact h a us<|Nat.succ.inj e
theorem R9(h:∀a,Q [a]):∀us:List Value,us.length=1->Q us:=wA λa=>Xd<|h a
theorem ln2(h:∀a b,Q [a,b]):∀us:List Value,us.length=2->Q us:=wA λa=>R9<|h a
theorem R_(h:∀a b c,Q [a,b,c]):∀us:List Value,us.length=3->Q us:=wA λa=>ln2<|h a
theorem Xe(h:∀a b c d,Q [a,b,c,d]):∀us:List Value,us.length=4->Q us:=wA λa=>R_<|h a
theorem Vo(h:∀a b c d e,Q [a,b,c,d,e]):∀us:List Value,us.length=5->Q us:=wA λa=>Xe<|h a
theorem Mj(h:∀a b c d e f,Q [a,b,c,d,e,f]):∀us:List Value,us.length=6->Q us:=wA λa=>Vo<|h a
theorem ZT(h:∀a,Q [a])(us:List Value)(e:us.length+1=2):Q us:=R9 h us<|Nat.succ.inj e
theorem ZU(h:∀a b,Q [a,b])(us:List Value)(e:us.length+1=3):Q us:=ln2 h us<|Nat.succ.inj e
theorem QG(h:∀a b c d e,Q [a,b,c,d,e])(us:List Value)(e:us.length+1=6):Q us:=Vo h us<|Nat.succ.inj e
end
section
variable{K:Frag}{X:Cx}{x:Str}{st:Stmt}{ps:List Str}{f:Addr}{fd:FuncData}{sp:kO}{e:Expr}{es:List Expr}{p pos:Pos}
theorem aT{t:jq}(T:He K X.mg x st ps f fd)(F:bI X.prog X.w K X.mg X.base (fE X.prog X.w X.mg) k f fd ps<|q8 K sp)(hr:bW k' X.A)(ha:DA K X (e::es) t)(hle:autoParam (k<=k') qJX) (hg:autoParam (Gl X x) qQJ) (qB:autoParam ((x==("__debug__": Str))=false) qQZ) (he:autoParam (starEach (e::es) X.env=(false,eval e X.env)::starEach es X.env) qQJ) (dN:autoParam ((backTo pos<|starEach es X.env).any (·.1)=false) qQJ) (hK:autoParam (X.K=K) qQJ): DE K X (.Call (.Name x p) (e::es) [] pos) (NK sp [] t):=cf (F.mono hle) hr T.m T.k T.b d0 ha hg qB he dN hK
end
theorem bW.u(r:bW k A):A.units+64<cLine:=r.units
end L2
namespace L2
open PySem PySem.Spec PyProof.Rows PySem.SeqAt
def isStrOf(z:Str):Value->Bool|.str y _=>y==z|_=>false
end L2
namespace L2
open PySem PySem.Spec PyProof.Rows
section
variable{K:Frag}
theorem RvAll.thr(h:RvAll K H [a,b,c] vs):∃x y z,vs=[x,y,z]/\Rv K H a x/\Rv K H b y/\Rv K H c z:=by obtain⟨x,vs1,rfl,h1,h⟩:=h.cons;obtain⟨y,vs2,rfl,h2,h⟩:=h.cons;obtain⟨z,vs3,rfl,h3,h⟩:=h.cons;rw[h.nil];exact⟨x,y,z,rfl,h1,h2,h3⟩
theorem IP:bootBuiltins "max"= some (.builtin "max"):=by with_unfolding_all rfl
noncomputable def jL:List D->List D->List D->List D|x::xs,y::ys,z::zs=>.tup [x,y,z]::jL xs ys zs|_,_,_=>[]
theorem oE:∀{xs ys zs:List D},xs.length=ys.length->xs.length=zs.length->(jL xs ys zs).length=xs.length|[],_,_,_,_=>by rw[jL.eq_def]|x::xs,y::ys,z::zs,h,k=>congrArg Nat.succ<|oE (Nat.succ.inj h)<|Nat.succ.inj k
theorem oF:∀{xs ys zs:List D}{i:Nat}{d:D},(jL xs ys zs)[i]?=some d->∃x y z,xs[i]?=some x/\ys[i]?=some y/\zs[i]?=some z/\d=.tup [x,y,z]|x::xs,y::ys,z::zs,0,d,h=>{x,y,z,rfl,rfl,rfl,(zR h).symm}|x::xs,y::ys,z::zs,i+1,d,h=>oF (i:=i) h|[],_,_,i,d,h=>by rw[jL.eq_def]at h;simp at h|_::_,[],_,i,d,h=>by rw[jL.eq_def]at h;simp at h|_::_,_::_,[],i,d,h=>by rw[jL.eq_def]at h;simp at h
def QH(t:jq):Bu:=λσ S R Z=>t σ S (λds S1=>∃xs ys zs,ds=[.tup xs,.tup ys,.tup zs]/\xs.length=ys.length/\xs.length=zs.length/\R {jL xs ys zs,λ_=>True} S1) Z
end
mutual
inductive Dr (S:au):D->PyData->Prop where
 |av:Dr S .av .none
 |bl (b:Bool):Dr S (.bl b) (.bool b)
 |int (i:Int):Dr S (.int i) (.int i)
 |str (z:Str):Dr S (.str z) (.str z)
 |tup {ds:List D}{ps:List PyData} : Vp S ds ps->Dr S (.tup ds) (.tuple ps)
 |ref {a:Addr}{ds:List D}{ps:List PyData} : S a=some (.lst ds)->Vp S ds ps->Dr S (.ref a) (.list ps)
inductive Vp (S:au):List D->List PyData->Prop where
 |nil:Vp S [] []
 |cons {d:D}{ds:List D}{p:PyData}{ps:List PyData} : Dr S d p->Vp S ds ps->Vp S (d::ds) (p::ps)
end
def lX:Stmt->Str|.FunctionDef n _ _ _ _ _ _ _ _ _=>n|_=>Str.empty
def uu(s:Stmt):List Str:=(bp s).args.map λa=>a.arg
def F9(K:Frag)(mg:Str->Option Value)(top:Nat->Stmt)(f:Nat->Addr)(d:Nat->FuncData)(l:List Nat):Prop:=∀i∈l,He K mg (lX<|top i) (top i) (uu<|top i) (f i)<|d i
def CB(K:Frag)(c:Addr)(q:Str)(cl:Stmt)(f:Nat->Addr)(d:Nat->FuncData)(l:List Nat):Prop:=∀i∈l,N7 K c (lX<|inClass cl i) (q++lX (inClass cl i)) (inClass cl i) (uu<|inClass cl i) (f i)<|d i
section
variable{K:Frag}{h:Heap}{mg:Str->Option Value}{od an:Option Addr}{sl:Array (Option Value)}{oc dV kV dc pm cd ct:Value}{x:Addr}{top:Nat->Stmt}{l:List Nat}{c:Addr}{q:Str}{cl:Stmt}
theorem af(X:K.In h)(G:h.Ns mainGlobals mg)(i:Nat)(ni:i∉l)(a:nsIn K mainGlobals (lX<|top i)=some (some<|.ref x))(o:K.lookup x=some {oc,od,.func<|fnOf (lX<|top i) (lX<|top i) (bp<|top i) (bh<|top i) (ae<|top i) dV kV dc pm an cd ct,sl}) (e:codeIn K cd (lX<|top i)=true) (k:keepIn K (.ref x)=true) (b:∀us:List Value,us.length=(uu<|top i).length->bindArgs (fnOf (lX<|top i) (lX<|top i) (bp<|top i) (bh<|top i) (ae<|top i) dV kV dc pm an cd ct) {us,[]}=pure ((uu<|top i).zip us)) (g:∃f d,F9 K mg top f d l):∃f d,F9 K mg top f d (i::l):=by refine fn1 X G _ _ _ a o e k b λd0 F=>?_;obtain⟨f,d,A⟩:=g;refine{λj=>if j=i then x else f j,λj=>if j=i then d0 else d j,λj hj=>?_};by_cases z:j=i;subst z;dsimp only;rw[if_pos rfl,if_pos rfl];exact F;dsimp only;rw[if_neg z,if_neg z];exact A j<|(zh.mp hj).resolve_left z
theorem af0:∃f d,F9 K mg top f d []:={λ_=>0,λ_=>fnOf Str.empty Str.empty (bp<|.Pass {0,0,0,0}) [] (ae<|.Pass {0,0,0,0}) .none .none .none .none none .none .none,λ_ h=>nomatch h}
theorem afx{R:Prop}(_:K.In h)(_:h.Ns mainGlobals mg)(g:∃f d,F9 K mg top f d l)(r:∀f d,F9 K mg top f d l->R):R:=by obtain⟨f,d,A⟩:=g;exact r f d A
theorem amx{R:Prop}(_:qW K c)(g:∃f d,CB K c q cl f d l)(r:∀f d,CB K c q cl f d l->R):R:=by obtain⟨f,d,A⟩:=g;exact r f d A
theorem am(C:qW K c)(i:Nat)(ni:i∉l)(a:findIn K (.ref c) (lX<|inClass cl i)=some (some<|.ref x))(w:isFn K (.ref x)=true)(o:K.lookup x=some {oc,od,.func<|fnOf (lX<|inClass cl i) (q++lX (inClass cl i)) (bp<|inClass cl i) (bh<|inClass cl i) (ae<|inClass cl i) dV kV dc pm an cd ct,sl}) (e:codeIn K cd (q++lX (inClass cl i))=true) (k:keepIn K (.ref x)=true) (b:∀us:List Value,us.length=(uu<|inClass cl i).length->bindArgs (fnOf (lX<|inClass cl i) (q++lX (inClass cl i)) (bp<|inClass cl i) (bh<|inClass cl i) (ae<|inClass cl i) dV kV dc pm an cd ct) {us,[]}=pure ((uu<|inClass cl i).zip us)) (g:∃f d,CB K c q cl f d l):∃f d,CB K c q cl f d (i::l):=by refine fm1 C _ _ _ _ a w o e k b λd0 F=>?_;obtain⟨f,d,A⟩:=g;refine{λj=>if j=i then x else f j,λj=>if j=i then d0 else d j,λj hj=>?_};by_cases z:j=i;subst z;dsimp only;rw[if_pos rfl,if_pos rfl];exact F;dsimp only;rw[if_neg z,if_neg z];exact A j<|(zh.mp hj).resolve_left z
theorem am0:∃f d,CB K c q cl f d []:={λ_=>0,λ_=>fnOf Str.empty Str.empty (bp<|.Pass {0,0,0,0}) [] (ae<|.Pass {0,0,0,0}) .none .none .none .none none .none .none,λ_ h=>nomatch h}
end
section
variable{K:Frag}{X:Cx}{x q:Str}{st:Stmt}{ps:List Str}{C f:Addr}{fd:FuncData}{sp:kO}{o e:Expr}{es:List Expr}{apos pos:Pos}{k k':Nat}
theorem oG{t:jq}(he:DE K X o ta)(c:qW K C)(T:N7 K C x q st ps f fd)(F:bI X.prog X.w K X.mg X.base (fE X.prog X.w X.mg) k f fd ps<|q8 K sp)(hr:bW k' X.A)(ha:DA K X (e::es) t)(hle:autoParam (k<=k') qJX)
  (x6:autoParam (starEach (e::es) X.env=(false,eval e X.env)::starEach es X.env) qQJ) (dN:autoParam ((backTo pos<|starEach es X.env).any (·.1)=false) qQJ)
  (ht:autoParam (eval (.Call (.Attribute o x apos) (e::es) [] pos) X.env=(do
   let ov <-eval o X.env
   standAt apos.atName
   let (f,first) <-holding [ov] (getMethod ov x pl)
   callWith pos f first (backTo pos<|starEach (e::es) X.env) (backToKw pos<|keywordEach [] X.env))) qQJ) (hK:autoParam (X.K=K) qQJ):
  DE K X (.Call (.Attribute o x apos) (e::es) [] pos) (Ei C x sp [] ta t):=Zd he c T.e (F.mono hle) hr T.b d0 ha x6 dN ht hK
theorem fI(he:DE K X o ta)(c:qW K C)(T:N7 K C x q st ps f fd)(F:bI X.prog X.w K X.mg X.base (fE X.prog X.w X.mg) k f fd ps<|q8 K sp)(hr:bW k' X.A)(hle:autoParam (k<=k') qJX)
  (ht:autoParam (eval (.Call (.Attribute o x apos) [] [] pos) X.env=(do
   let ov <-eval o X.env
   standAt apos.atName
   let (f,first) <-holding [ov] (getMethod ov x pl)
   callWith pos f first (backTo pos<|starEach [] X.env) (backToKw pos<|keywordEach [] X.env))) qQJ) (hK:autoParam (X.K=K) qQJ):
  DE K X (.Call (.Attribute o x apos) [] [] pos) (Ei C x sp [] ta LO):=Ze he c T.e (F.mono hle) hr T.b d0 ht hK
end
section
variable{K:Frag}{X:Cx}
def Vq:D->Option Int->Option Int->au->KD->Prop:=λx lo hi S R=>match x with|.ref a=>∃ds,S a=some (.lst ds)/\∀p,S p=none->R (.ref p) (S.set p<|.lst<|bK ds lo hi)|.lU ds=>∀p,S p=none->R (.ref p) (S.set p<|.lst<|bK ds lo hi)|_=>False
theorem Vr(hK:X.K=K):Ya X (λx lo hi H Q=>∃d S R,Rv K H d x/\Rs K S H/\Vq d lo hi S R/\Cn K H R Q):=by rintro pins s σ H x v vl vu lo hi sl Q I rx hs pl pu ⟨d,S,R,r1,hS,h,hR⟩;subst hK;cases d with|ref a=>(obtain⟨ds,e,h⟩:=h;obtain⟨xs,e1,t⟩:=hS.lst e;exact Ea pins s σ H _ v vl vu lo hi sl Q I rx hs pl pu {a,xs,r1.ref,.of e1,λp hp=>hR.new hS hp (h p)<|t.cut lo hi})|lU ds=>(obtain⟨a,xs,rfl,q,t⟩:=r1.lU;exact Ea pins s σ H _ v vl vu lo hi sl Q I rx hs pl pu {a,xs,rfl,q.sq,λp hp=>hR.new hS hp (h p)<|t.cut lo hi})|_=>exact h.elim
def ZV(te:TD)(tl th:RZ):TD:=λσ S R Z=>te σ S (λx S1=>tl σ S1 (λl S2=>th σ S2 (λu S3=>Vq x l u S3 R) Z) Z) Z
theorem IQ{e:Expr}{lo hi:Option Expr}{te:TD}{tl th:RZ}{p2 pos:Pos}(he:DE K X e te)(hl:DO K X lo tl)(hu:DO K X hi th)(hK:autoParam (X.K=K) qQJ):DE K X (.Subscript e (.Slice lo hi none p2) pos) (ZV te tl th):=
 ⟨λy=>(Hw (X:=y.cx) (Vr hK) (he.of y) (hl.of y)<|hu.of y).mono <| by rintro τ H Q ⟨σ,S,R,Z,aB,hS,q,hR,hZ⟩;exact
  ⟨σ,S,_,Z,aB,hS,q,λd S1 x H1 r1 v1 s1 k1=>⟨σ,S1,_,Z,aB.ts k1,s1,r1,λl S2 H2 r2 s2 k2=>⟨σ,S2,_,Z,aB.ts<|k1.trans k2,s2,r2,λu S3 H3 r3 s3 k3=>⟨d,S3,R,Rv.ts (k2.trans k3) _ v1,s3,r3,hR.kp<|(k1.trans k2).trans k3⟩,hZ.kp<|k1.trans k2⟩,hZ.kp k1⟩,hZ⟩⟩
def ZW:xU:=λx y S R=>match x,y with|.int i,.int j=>R (.int<|i+j) S|.str a,.str b=>a.length+b.length<=sizeLine/\R (.str<|a++b) S|.ref a,.ref b=>∃xs ys,S a=some (.lst xs)/\S b=some (.lst ys)/\xs.length+ys.length<=sizeLine/\∀p,S p=none->R (.ref p) (S.set p<|.lst<|xs++ys)|_,_=>False
theorem bf:qY K (binaryOp .Add) ZW:=by rintro X hK hu pins s σ H x y v u Q I rx ry ⟨d,e,S,R,r1,r2,hS,h,hR⟩;subst hK;cases d<;>cases e<;>first|exact False.elim h|exact O_ pins s σ H x y v u Q I rx ry {_,_,r1.int,r2.int,hR.now hS h<|aS _}|exact BF pins s σ H x y v u Q I rx ry {_,_,r1.str,r2.str,h.1,hR.now hS h.2<|fF _}|skip;obtain⟨xs,ys,e1,e2,hl,q⟩:=h;obtain⟨vs,h1,t1⟩:=hS.lst e1;obtain⟨ws,h2,t2⟩:=hS.lst e2;exact Py pins s σ H x y v u Q I rx ry {_,_,vs,ws,r1.ref,r2.ref,h1,h2,by rw[t1.len,t2.len];exact hl,λp hp=>hR.new hS hp (q p)<|t1.app t2}
end
structure W(sp:kO)(ds:List D)(S:au)(R:KD)(Z:KX):Prop where
 of:sp ds S R Z
theorem bI.w{P:Program}{w:World}{K:Frag}{mg:Str->Option Value}{base:Heap}{k:Nat}{f:Addr}{fd:FuncData}{ps:List Str}{sp:kO}(F:bI P w K mg base (fE P w mg) k f fd ps<|q8 K sp):bI P w K mg base (fE P w mg) k f fd ps (q8 K<|W sp):=F.Qo λ_ _ _ _ h=>h.of
def ZX(s:Stmt):List Str:=((ae s).names.filter λp=>p.2==.local||p.2==.cell).map (·.1)
theorem bC(s:Stmt)(a:autoParam ((ae s).kind=.function/\(ae s).isCoroutine=false/\(ae s).isGenerator=false/\(ZX s).take (uu s).length=uu s) qQ4)(b:autoParam ((ZX s).Nodup/\(∀x∈uu s,(ae s).names.lookup x=some .local\/(ae s).names.lookup x=some .cell)/\∀y∈(ae s).names,y.2≠.free) qJ3):gx (ZX s) (uu s) (ae s):=fsc a b
section
variable{P:Program}{w:World}{K:Frag}{mg:Str->Option Value}{base:Heap}{x qual:Str}{st:Stmt}{f:Addr}{fd:FuncData}{N ps:List Str}{k:Nat}{sp:kO}
theorem wm.bG(F:wm K x qual st f fd)(S:gx N ps<|ae st) (mI:∀(g_:Value)(A:Around)(outer:List Env)(s:Shared)(H:Hp)(E:XK)(ds:List D)(S:au)(R:KD)(Z:KX),bW k (A.deeper<|PyProof.Rows.envOfC qual (ae st) s.heap.objs.size f g_)->sp ds S R Z->∃t,Hb K (kM (fE P w mg) P w K mg base N qual (ae st) f g_ A outer s H E) true (bh st) t/\t {nx:=λ_ S'=>Fo S'<|R .av,rt:=λd S'=>Fo S'<|R d} (jK N ds) S λ_ C S'=>Fo S'<|Z C) (len:∀ds S R Z,sp ds S R Z->ds.length=ps.length:=by intro _ _ _ _ h;first|(cases h;subst_vars;rfl;done)|(repeat first|(obtain⟨e,_⟩:=h;rw[e];rfl;done)|obtain⟨_,h⟩:=h)):bI P w K mg base (fE P w mg) (k+1) f fd ps (q8 K sp):=F.ok S len mI
end
section
variable{R:Prop}{K:Frag}{h:Heap}{mg:Str->Option Value}{od an:Option Addr}{sl:Array (Option Value)}{oc kV dc pm cd ct:Value}{f da:Addr}{Ku:Option Addr}{dn:Nat}{Kv:Array (Option Value)}
theorem QI(X:K.In h)(G:h.Ns mainGlobals mg)(x:Str)(st:Stmt)(ps:List Str)(ar:Array Value)(a:nsIn K mainGlobals x=some (some<|.ref f))(l:K.lookup f=some {oc,od,.func<|fnOf x x (bp st) (bh st) (ae st) (.ref da) kV dc pm an cd ct,sl}) (t:K.lookup da=some {.type "tuple",Ku,.seq ar dn,Kv}) (e:codeIn K cd x=true) (k:keepIn K (.ref f)=true) (b:∀(s:Shared) (us:List Value),s.heap.get? da=some {.type "tuple",Ku,.seq ar dn,Kv}->us.length=ps.length->BindsTo s (fnOf x x (bp st) (bh st) (ae st) (.ref da) kV dc pm an cd ct) {us,[]} (ps.zip us)) (b2:∀(s:Shared) (us:List Value),s.heap.get? da=some {.type "tuple",Ku,.seq ar dn,Kv}->us.length+1=ps.length->BindsTo s (fnOf x x (bp st) (bh st) (ae st) (.ref da) kV dc pm an cd ct) {us,[]} (ps.zip<|us++[.none])) (g:∀d,He K mg x st ps f d->Binds K d ps [.none]->R):R:=g _ {{{_,_,_,_,_,_,_,_,_,_,rfl,l,e},λs us hK hl=>by rw[List.append_nil]at hl⊢;exact b s us (hK _ _ t) hl},k,mg_of X G a} λs us hK hl=>b2 s us (hK _ _ t)<|by simpa using hl
end
structure abE(X:Cx)(N:List Str)(src:List (Option Nat))(scope:Scope):Prop where
 kind:scope.kind=.function
 nd:(scope.names.map Prod.fst).Nodup
 loc:∀y∈scope.names,y.2=.local->scope.names.lookup y.1=some .local
 Br:∀y∈scope.names,y.2=.free->X.env.kindOf y.1=some .cell\/X.env.kindOf y.1=some .free
 len:src.length=N.length
 src:∀(i j:Nat)(x:Str),src[i]?=some (some j)->N[i]?=some x->X.N[j]?=some x/\scope.names.lookup x=some .free/\OH X.env.scope x
section
variable{K:Frag}{p:Pos}{e:Expr}
structure adO(P:Program)(w:World)(K:Frag)(mg:Str->Option Value)(base:Heap)(k:Nat)(f:Addr)(sp:Sp):Prop where
 ex:∃fd ps,bI P w K mg base (fE P w mg) k f fd ps sp/\Binds K fd ps []
 kp:keepIn K (.ref f)=true
inductive CvR {ι:Type} (i:Nat) (fa:ι->Addr) (σ:SD) (p:ι->Prop):Prop where
 |mk (o:ι) (e:σ[i]?=some (some<|.ref<|fa o)) (r:p o)
end
section
variable{R:Prop}{K:Frag}{h:Heap}{mg:Str->Option Value}{tk:Tok}
theorem gvs(X:K.In h)(G:h.Ns mainGlobals mg)(x:Str)(z:Str)(a:nsIn K mainGlobals x=some (some<|.str z tk))(g:mg x=some (.str z tk)->R):R:=g<|mg_of X G a
end
noncomputable def fJ(N:Nat)(v:Nat->Value):Array Value:=((List.range N).map v).toArray
structure ZN(n N:Nat)(l:Nat->Addr)(i:Nat)(h:Heap):Prop where
 z:IsZip h (n+N+2) (n+N) (n+N+1) .none
 t:mQ h (n+N) (fJ N λj=>.ref<|n+j)
 o:∃arr:Array Value,arr.size=N/\mQ h (n+N+1) arr
 it:∀j,j<N->h.IsTupleIter (n+j) (l j) i
theorem kE:(fJ N v).size=N:=by unfold fJ;simp
theorem jM:(fJ N v).toList.length=N:=by unfold fJ;simp
theorem Ml(h:arr.size=N)(e:∀j,j<N->arr[j]?=some (v j)):arr=fJ N v:=by refine Array.ext (by rw[h,kE]) λj h1 h2=>?_;have:=e j (by lia);rw[Array.getElem?_eq_getElem h1]at this;rw[zR this];simp[fJ]
section
variable{prog:Program}{w:World}{A:Around}{E:Value->Shared->Prop}{s:Shared}{n N:Nat}{l:Nat->Addr}{i:Nat}{xs:Nat->Array Value}
theorem F_{v:Nat->Value}{Q:Value->Shared->Prop}(h1:1<=N)(h3:N<=3)(lt:∀j,j<N->l j<n)(hs:ZN n N l i s.heap)(tu:∀j,j<N->s.heap.IsTuple (l j) (xs j))(ev:∀j,j<N->(xs j)[i]?=some (v j)) (hQ:∀h',IsZip h' (n+N+2) (n+N) (n+N+1) (rawInt s.heap.objs.size)->mQ h' (n+N+1) (fJ N v)->(∀j,j<N->h'.IsTupleIter (n+j) (l j) (i+1))->mQ h' s.heap.objs.size (fJ N v)->(∀c o,c≠n+N+2->c≠n+N+1->(∀j,j<N->c≠n+j)->s.heap.get? c=some o->h'.get? c=some o)->Q (.ref s.heap.objs.size) {s with heap:=h'}): wpAny (model prog w) A (Builtin.«zip.__next__» {[.ref<|n+N+2],[]}) (λfin s'=>∃v,fin=.done (.ret v)/\Q v s') E s:=by
 obtain⟨hz,hI,⟨arr,na,hO⟩,hit⟩:=hs;show wpAny _ _ (field (.ref<|n+N+2) 2 >>=_) _ _ _;refine zc<|yf hz rfl (x:=.bool false) rfl ?_;show wpAny _ _ (field (.ref<|n+N+2) 3 >>=_) _ _ _;refine zc<|yf hz rfl (x:=.ref<|n+N) rfl ?_;refine zc<|wpAny_seqItems hI rfl ?_;have he:(fJ N λj=>Value.ref<|n+j).isEmpty=false:=by rw[Array.isEmpty_eq_false_iff];intro e;have:=congrArg Array.size e;rw[kE]at this;simp at this;lia
 dsimp only;rw[if_neg<|by rw[he];exact zd];refine zc ?_;unfold Builtin.SmallTypes.ownedTupleIsFree;refine zc<|yf hz rfl (x:=.none) rfl<|zA ?_;simp only[if_true];refine zc<|wpAny_rule ?_;refine zc<|yf hz rfl (x:=.ref<|n+N+1) rfl ?_;refine zc<|wpAny_setField_rec hz (by simp) λh0 Mm q0=>?_;replace Mm:IsZip h0 (n+N+2) (n+N) (n+N+1) .ellipsis:=Mm;have k0:∀c o,c≠n+N+2->s.heap.get? c=some o->h0.get? c=some o:=λc o d e=>q0.extBut _ _ d e;refine zc<|wpAny_forIn_list _ (λrest b s'=>∃(k:Nat)(h':Heap)(a':Array Value),k<=N/\rest=((fJ N λj=>Value.ref<|n+j).toList.zipIdx).drop k/\b=(none,())/\s'={s with heap:=h'}/\mQ h' (n+N+1) a'/\a'.size=N/\(∀j,j<k->a'[j]?=some (v j))/\(∀j,j<N->h'.IsTupleIter (n+j) (l j) (if j<k then i+1 else i))/\IsZip h' (n+N+2) (n+N) (n+N+1) .ellipsis/\h'.objs.size=s.heap.objs.size/\(∀c o,c≠n+N+2->c≠n+N+1->(∀j,j<N->c≠n+j)->s.heap.get? c=some o->h'.get? c=some o)) _ ?_ ?_ _ _ ?_;rintro x rest b s' ⟨k,h',a',hk,e1,rfl,rfl,O,ha,hv,J,Z,sz,kp⟩;have c_:k<N:=by have:=congrArg List.length e1;rw[zQ,yJ,List.length_zipIdx,jM]at this;lia
 have e2:((fJ N λj=>Value.ref<|n+j).toList.zipIdx).drop k=(Value.ref<|n+k,k)::((fJ N λj=>Value.ref<|n+j).toList.zipIdx).drop (k+1):=by rw[List.drop_eq_getElem_cons<|by rw[List.length_zipIdx,jM];exact c_];simp[fJ]
 rw[e2]at e1;cases e1;have lk:@LT.lt Nat _ (l k) n:=lt k c_;have Jk:=J k c_;rw[if_neg<|yA _]at Jk;have T0:Heap.IsTuple h' (l k) (xs k):=by obtain⟨o,a1,a2⟩:=tu k c_;exact{o,kp _ _ (by show @Ne Nat _ _;lia) (by show @Ne Nat _ _;lia) (λj _=>by show @Ne Nat _ _;lia) a1,a2}
 refine zc<|wpAny_onRaise ?_;show wpAny _ _ (Builtin.SmallTypes.nextOf (.ref<|n+k) >>=_) _ _ _;refine zc<|B9 (s:={s with heap:=h'}) Jk T0 (ev k c_) λg1 m0 q1=>zA ?_;have O1:mQ g1 (n+N+1) a':=q1.extBut _ _ (by show @Ne Nat _ _;lia) O;refine zc<|wpAny_seqItems (s:={s with heap:=g1}) O1 rfl ?_;refine zc<|FP (s:={s with heap:=g1}) O1 (by lia) λg2 O2 q2=>?_;refine zc<|wpAny_letGo<|zA ?_;refine{k+1,g2,_,c_,rfl,rfl,rfl,O2,by rw[Array.size_setIfInBounds];exact ha,λj hj=>?_,λj hj=>?_,q2.extBut _ _ (by show @Ne Nat _ _;lia)<|q1.extBut _ _ (by show @Ne Nat _ _;lia) Z,by rw[q2.1,q1.1];exact sz,λc o d1 d2 d3 e=>q2.extBut _ _ d2<|q1.extBut _ _ (d3 k c_)<|kp c o d1 d2 d3 e};by_cases z:j=k;subst z;rw[Array.getElem?_setIfInBounds_self_of_lt<|by lia];rw[Array.getElem?_setIfInBounds_ne<|Ne.symm z];exact hv j (by lia);by_cases z:j=k;subst z;rw[if_pos<|Nat.lt_succ_self _];exact wb q2.extBut (by show @Ne Nat _ _;lia) m0;have:=J j hj;rw[show(if j<k+1 then i+1 else i)=if j<k then i+1 else i by by_cases y:j<k;rw[if_pos y,if_pos<|by lia];rw[if_neg y,if_neg<|by lia]];exact wb q2.extBut (by show @Ne Nat _ _;lia)<|wb q1.extBut (by show @Ne Nat _ _;lia) this;rintro b s' ⟨k,h',a',hk,e1,rfl,rfl,O,ha,hv,J,Z,sz,kp⟩;have c_:k=N:=by have:=congrArg List.length e1;rw[List.length_nil,yJ,List.length_zipIdx,jM]at this;lia
 subst c_;have ea:=Ml ha hv;subst ea;refine zc<|wpAny_seqItems (s:={s with heap:=h'}) O rfl ?_;refine zc<|wpAny_newTuple ?_ (hsz:=by rw[jM];exact YL h3);have lz:n+k+2<h'.objs.size:=zw Z;show wpAny _ _ (Builtin.SmallTypes.ownedTupleHandOut (.ref<|n+k+2) (.ref h'.objs.size) >>=_) _ _ _;refine zc ?_;unfold Builtin.SmallTypes.ownedTupleHandOut;have hzM:IsZip (h'.push {cls:=.type "tuple",data:=.seq<|fJ k v}) (n+k+2) (n+k) (n+k+1) .ellipsis:=zb _ Z;refine zc<|wpAny_setField_rec (s:={s with heap:=h'.push {cls:=.type "tuple",data:=.seq<|fJ k v}}) hzM (by simp) λg1 Sa r1=>?_;replace Sa:IsZip g1 (n+k+2) (n+k) (n+k+1) (rawInt h'.objs.size):=Sa;refine wpAny_setField_rec (s:={s with heap:=g1}) Sa (by simp) λg2 Qx r2=>?_;replace Qx:IsZip g2 (n+k+2) (n+k) (n+k+1) (rawInt h'.objs.size):=Qx;have up:∀c o,c≠n+k+2->h'.get? c=some o->g2.get? c=some o:=λc o d e=>r2.extBut _ _ d<|r1.extBut _ _ d<|zb _ e;have hT:mQ g2 h'.objs.size (fJ k v):=r2.extBut _ _ (yn lz)<|r1.extBut _ _ (yn lz)<|zj _ rfl;rw[sz]at Qx hT;refine zA !⟨?_⟩;show Q (.ref h'.objs.size) _;rw[sz];refine hQ g2 Qx (up _ _ (by show @Ne Nat _ _;lia) O) (λj hj=>?_) hT λc o d1 d2 d3 e=>up c o d1<|kp c o d1 d2 d3 e;have:=J j hj;rw[if_pos hj]at this;exact Nz (λo e=>up _ o (by show @Ne Nat _ _;lia) e) this;refine{0,h0,arr,zT _,rfl,rfl,rfl,k0 _ _ (by show @Ne Nat _ _;lia) hO,na,λj hj=>absurd hj<|Nat.not_lt_zero _,λj hj=>?_,Mm,q0.1,λc o d _ _ e=>k0 c o d e};rw[if_neg<|Nat.not_lt_zero _];obtain⟨o,a1,a2⟩:=hit j hj;exact{o,k0 _ _ (by show @Ne Nat _ _;lia) a1,a2}
theorem IS(h1:1<=N)(hh:A.handled=none)(hs:ZN n N l i s.heap)(lt:l 0<n)(t0:s.heap.IsTuple (l 0)<|xs 0)(e0:(xs 0)[i]?=none) (hE:∀h' e,(∀c o,c≠n+N+2->c≠n+0->s.heap.get? c=some o->h'.get? c=some o)->(∃o,h'.get? e=some o/\o.cls=.type "StopIteration")->E (.ref e) {s with heap:=h'}): wpAny (model prog w) A (Builtin.«zip.__next__» {[.ref<|n+N+2],[]}) Q E s:=by
 obtain⟨hz,hI,⟨arr,na,hO⟩,hit⟩:=hs;show wpAny _ _ (field (.ref<|n+N+2) 2 >>=_) _ _ _;refine zc<|yf hz rfl (x:=.bool false) rfl ?_;show wpAny _ _ (field (.ref<|n+N+2) 3 >>=_) _ _ _;refine zc<|yf hz rfl (x:=.ref<|n+N) rfl ?_;refine zc<|wpAny_seqItems hI rfl ?_;have he:(fJ N λj=>Value.ref<|n+j).isEmpty=false:=by rw[Array.isEmpty_eq_false_iff];intro e;have:=congrArg Array.size e;rw[kE]at this;simp at this;lia
 dsimp only;rw[if_neg<|by rw[he];exact zd];refine zc ?_;unfold Builtin.SmallTypes.ownedTupleIsFree;refine zc<|yf hz rfl (x:=.none) rfl<|zA ?_;simp only[if_true];refine zc<|wpAny_rule ?_;refine zc<|yf hz rfl (x:=.ref<|n+N+1) rfl ?_;refine zc<|wpAny_setField_rec hz (by simp) λh0 Mm q0=>?_;replace Mm:IsZip h0 (n+N+2) (n+N) (n+N+1) .ellipsis:=Mm;have lk:@LT.lt Nat _ (l 0) n:=lt;have J0:Heap.IsTupleIter h0 (n+0) (l 0) i:=by obtain⟨o,a1,a2⟩:=hit 0 h1;exact{o,q0.extBut _ _ (by show @Ne Nat _ _;lia) a1,a2}
 have T0:Heap.IsTuple h0 (l 0) (xs 0):=by obtain⟨o,a1,a2⟩:=t0;exact{o,q0.extBut _ _ (by show @Ne Nat _ _;lia) a1,a2}
 have e2:(fJ N λj=>Value.ref<|n+j).toList.zipIdx=(Value.ref<|n+0,0)::((fJ N λj=>Value.ref<|n+j).toList.zipIdx).drop 1:=by have:=List.drop_eq_getElem_cons (l:=(fJ N λj=>Value.ref<|n+j).toList.zipIdx) (i:=0) (by rw[List.length_zipIdx,jM];exact h1);rw[List.drop_zero]at this;rw[this];simp[fJ]
 rw[e2,List.forIn_cons];refine zc<|zc<|zc<|wpAny_onRaise ?_;show wpAny _ _ (Builtin.SmallTypes.nextOf (.ref<|n+0) >>=_) _ _ _;refine zc<|r_ (s:={s with heap:=h0}) hh J0 T0 e0 λh1 e q1 he=>?_;obtain⟨oe,ZY,hce⟩:=he;have Sa:IsZip h1 (n+N+2) (n+N) (n+N+1) .ellipsis:=q1 _ _ (by show @Ne Nat _ _;lia) Mm;have ez:e≠n+N+2:=λx=>by subst x;rw[Sa]at ZY;cases ZY;simp at hce
 refine wpAny_setField_rec (s:={s with heap:=h1}) Sa (by simp) λh2 _ q2=>hE h2 e (λc o dz d0 x=>q2.extBut _ _ dz<|q1 _ _ d0<|q0.extBut _ _ dz x) {oe,q2.extBut _ _ ez ZY,hce}
end
noncomputable def QJ(K:Frag)(N:Nat)(l:Nat->Addr):It:={λi H=>∃(xs:Nat->List V)(x:Nat->V),∀j,j<N->jn K H (l j) (xs j)/\(xs j)[i]?=some (x j),λi H y H'=>∃T,H T=none/\y=.ref T/\∀(xs:Nat->List V)(x:Nat->V),(∀j,j<N->jn K H (l j) (xs j)/\(xs j)[i]?=some (x j))->H'=upd H T (.tup<|(List.range N).map x),λi H=>∃xs:Nat->List V,(∀j,j<N->jn K H (l j) (xs j))/\(xs 0).length<=i}
noncomputable def Sb(n N:Nat):List Addr:=(List.range<|N+3).map λj=>n+j
theorem rj(h:b∈Sb n N):∃j,j<N+3/\b=n+j:=by obtain⟨j,hj,e⟩:=zg.mp h;exact{j,zS.mp hj,e.symm}
theorem fK(h:j<N+3):(n+j:Nat)∈Sb n N:=zg.mpr {j,zS.mpr h,rfl}
theorem CC(h:∀j,j<N->RelV (x j) (u j)):Vals ((List.range N).map x) ((List.range N).map u):=by
 have:∀l:List Nat,(∀j∈l,j<N)->Vals (l.map x) (l.map u):=by intro l;induction l with|nil=>exact λ_=>.nil|cons a l ih=>exact λhl=>.cons (h a<|hl a zo)<|ih λj hj=>hl j<|zi _ hj
 exact this _ λj hj=>zS.mp hj
theorem vi{P:Program}{w:World}{K:Frag}{es:List Expr}{kk:Nat}{tp:Pos}{n N:Nat}{l:Nat->Addr}(h1:1<=N)(h3:N<=3)(lt:∀j,j<N->l j<n):Turn P w K (.Tuple es kk tp) (QJ K N l) (Sb n N) (n+N+2) (ZN n N l) where
 mem:=fK (j:=N+2)<|by lia
 obj:=λi h st b hb=>by
  obtain⟨j,hj,rfl⟩:=rj hb
  by_cases q:j<N
  ·obtain⟨o,e,c,d⟩:=st.it j q;exact{o,e,λv z=>by rw[d]at z;cases z}
  ·obtain⟨arr,na,hO⟩:=st.o
   have:j=N\/j=N+1\/j=N+2:=by lia
   rcases this with rfl|rfl|rfl
   ·exact{_,st.t,λv z=>by cases z}
   ·exact{_,hO,λv z=>by cases z}
   ·exact{_,st.z,λv z=>by cases z}
 keep:=λi h h' st k=>by
  obtain⟨hz,hI,⟨arr,na,hO⟩,J⟩:=st
  exact{k _ (fK (j:=N+2)<|by lia) _ hz,k _ (fK (j:=N)<|by lia) _ hI,{arr,na,k _ (fK (j:=N+1)<|by lia) _ hO},λj hj=>Nz (λo e=>k _ (fK<|by lia) o e)<|J j hj}
 item:=by
  intro X hP hw hK hc i pins s σ H E I hf st hg
  subst hP hw hK
  obtain⟨xs,x,hx⟩:=hg
  have ex:∀j,∃(ay:List Value)(u:Value),j<N->Vals (xs j) ay/\s.heap.IsTuple (l j) ay.toArray/\ay[i]?=some u/\RelV (x j) u:=λj=>by
   by_cases q:j<N
   ·obtain⟨ay,rv,p,_⟩:=I.tuple (hx j q).1
    obtain⟨u,hu,ru⟩:=rv.get (hx j q).2
    exact{ay,u,λ_=>⟨rv,p,hu,ru⟩}
   ·exact{[],.none,λh=>absurd h q}
  have fx:=Classical.axiomOfChoice ex
  obtain⟨ay,fx⟩:=fx
  obtain⟨u,fx⟩:=Classical.axiomOfChoice fx
  have hT:s.TypeIs (.ref<|n+N+2) "zip":={_,st.z,rfl}
  have lz:@LT.lt Nat _ (n+N+2) s.heap.objs.size:=zw st.z
  unfold pyNext
  refine zc<|wpAny_attempt<|wpAny_callSpecial?_slot (name:=Str.ofString "__next__") hT F.slot_zip_next<|yL F.slot_zip_next hT F.entry_zip_next (F_ h1 h3 lt st (xs:=λj=>(ay j).toArray) (v:=u) (λj hj=>(fx j hj).2.1) (λj hj=>by simpa using (fx j hj).2.2.1) λg1 z1 O1 m1 T1 kp=>zA !⟨?_⟩)<|F.args_zip_next_1 _
  refine wpAny_letOwnedTupleGo_zip (s:={s with heap:=g1}) z1 λg2 z2 r2=>?_
  have Xb:∀c o,c∉Sb n N->s.heap.get? c=some o->g2.get? c=some o:=λc o hc e=>r2.extBut _ _ (λz=>hc<|z ▸ fK (j:=N+2) (by lia))<|kp c o (λz=>hc<|z ▸ fK (j:=N+2) (by lia)) (λz=>hc<|z ▸ fK (j:=N+1) (by lia)) (λj hj z=>hc<|z ▸ fK (by lia)) e
  have T2:mQ g2 s.heap.objs.size (fJ N u):=r2.extBut _ _ (yn lz) T1
  have I2:Inv X pins σ (upd H s.heap.objs.size<|.tup<|(List.range N).map x) {s with heap:=g2}:=I.LA (t':=s.toks) (Sb n N) hf Xb (Heap.get?_none_of_le<|zr _) {by rw[za,List.length_range];exact smz<|zK h3<|by decide,_,CC λj hj=>(fx j hj).2.2.2,{_,T2,rfl,rfl,_,rfl}}
  refine{.ref s.heap.objs.size,_,I2,rfl,{_,I.aL.fresh<|zr _,rfl,λys y hy=>?_},{z2,?_,{_,kE,r2.extBut _ _ (by show @Ne Nat _ _;lia) O1},λj hj=>wb r2.extBut (by show @Ne Nat _ _;lia)<|m1 j hj},λb hb=>?_}
  ·congr 2
   refine zU λj hj=>?_
   have hj:=zS.mp hj
   have:=I.oi (hy j hj).1 (hx j hj).1
   have e:=(hy j hj).2
   rw[this,(hx j hj).2]at e
   exact zR e
  ·exact r2.extBut _ _ (by show @Ne Nat _ _;lia) (kp _ _ (by show @Ne Nat _ _;lia) (by show @Ne Nat _ _;lia) (λj hj=>by show @Ne Nat _ _;lia) st.t)
  ·obtain⟨j,hj,rfl⟩:=rj hb
   rw[aw<|by show @Ne Nat _ _;lia]
   exact(hf _ hb).1
 done:=by
  intro X hP hw hK hc i pins s σ H E I hf st hg
  subst hP hw hK
  obtain⟨xs,hx,hl⟩:=hg
  obtain⟨IT,ZZ,p0,_⟩:=I.tuple<|hx 0 h1
  have hT:s.TypeIs (.ref<|n+N+2) "zip":={_,st.z,rfl}
  have Se:=ZZ.length
  unfold pyNext
  refine zc<|wpAny_attempt<|wpAny_callSpecial?_slot (name:=Str.ofString "__next__") hT F.slot_zip_next<|yL F.slot_zip_next hT F.entry_zip_next (IS h1 (I.ok.hd hc) st (lt 0 h1) (xs:=λ_=>IT.toArray) p0 (by simp;lia) λh1 e kp he=>?_)<|F.args_zip_next_1 _
  obtain⟨o,ho,L5⟩:=he
  refine zc<|wpAny_isInstance (T:="StopIteration") (b:=true) ⟨o,ho,L5⟩ isSubtype_stop<|zA {rfl,?_}
  exact I.Lz (t':=s.toks) (Sb n N) hf λc o hc e=>kp c o (λz=>hc<|z ▸ fK (j:=N+2) (by lia)) (λz=>hc<|z ▸ fK (j:=0) (by lia)) e
 self:=λA' i s Q E st h=>wpAny_pyIter_zip st.z h
noncomputable def two(a b:Addr):Nat->Addr:=λj=>if j=0 then a else b
noncomputable def QK(a b c:Addr):Nat->Addr:=λj=>if j=0 then a else if j=1 then b else c
theorem Xf{p:Nat->Prop}(h0:p 0)(h1:p 1):∀j,j<2->p j|0,_=>h0|1,_=>h1|j+2,h=>by lia
theorem Xg{p:Nat->Prop}(h0:p 0)(h1:p 1)(h2:p 2):∀j,j<3->p j|0,_=>h0|1,_=>h1|2,_=>h2|j+3,h=>by lia
section
variable{X:Cx}{a b c:Expr}{ta:TA}{p pos tp:Pos}{es:List Expr}{kk:Nat}
theorem QL(hg:Gl X "zip")(hm:X.mg "zip"= none)(ha:PA X [a,b] ta)(hs:starEach [a,b] X.env=[(false,eval a X.env),(false,eval b X.env)])(x8:starEach [b] X.env=[(false,eval b X.env)]): PI X (.Tuple es kk tp) (.Call (.Name "zip" p) [a,b] [] pos) (λσ H R=>ta σ H λvs H1=>∃l0 l1,vs=[.ref l0,.ref l1]/\(∃xs,jn X.K H1 l0 xs)/\(∃xs,jn X.K H1 l1 xs)/\R (QJ X.K 2<|two l0 l1) H1):=by intro pins s σ H R I h;refine Call_<|gN I hg hm boot_zip<|PyProof.Rows.callWith_type1 (bt (ha pos pins s σ H _ I h) λus s1 ⟨vs,H1,I1,r1,q1⟩=>?_) (by rw[hs,x8]) (by rw[x8];rfl);obtain⟨l0,l1,e,⟨B_,q0⟩,⟨Ca,q2⟩,q⟩:=q1;subst e;obtain⟨u,v,rfl,r,r'⟩:=r1.two;cases r;cases r';obtain⟨IT,ZZ,p0,_⟩:=I1.tuple q0;obtain⟨QM,Vh,p1,_⟩:=I1.tuple q2;refine Cd (show s1.heap.IsTuple l0 IT.toArray from p0) (show s1.heap.IsTuple l1 QM.toArray from p1) λh' zs kp=>?_;have zn:ZN s1.heap.objs.size 2 (two l0 l1) 0 h':={zs.1,zs.2.1,zs.2.2.1,Xf zs.2.2.2.1 zs.2.2.2.2};refine wpAny_pyIter_zip (s:={s1 with heap:=h'}) zs.1 {_,_,_,_,H1,rfl,I1.kept (t':=s1.toks) kp,vi (by decide) (by decide)<|Xf p0.lt p1.lt,zn,λb hb=>?_,q};obtain⟨j,_,rfl⟩:=rj hb;exact I1.qz (Nat.le_add_right _ _)<|I1.aL.fresh<|Nat.le_add_right _ _
theorem QN(hg:Gl X "zip")(hm:X.mg "zip"= none)(ha:PA X [a,b,c] ta)(hs:starEach [a,b,c] X.env=[(false,eval a X.env),(false,eval b X.env),(false,eval c X.env)])(x8:starEach [b,c] X.env=[(false,eval b X.env),(false,eval c X.env)]): PI X (.Tuple es kk tp) (.Call (.Name "zip" p) [a,b,c] [] pos) (λσ H R=>ta σ H λvs H1=>∃l0 l1 l2,vs=[.ref l0,.ref l1,.ref l2]/\(∃xs,jn X.K H1 l0 xs)/\(∃xs,jn X.K H1 l1 xs)/\(∃xs,jn X.K H1 l2 xs)/\R (QJ X.K 3<|QK l0 l1 l2) H1):=by intro pins s σ H R I h;refine Call_<|gN I hg hm boot_zip<|PyProof.Rows.callWith_type1 (bt (ha pos pins s σ H _ I h) λus s1 ⟨vs,H1,I1,r1,q1⟩=>?_) (by rw[hs,x8]) (by rw[x8];rfl);obtain⟨l0,l1,l2,e,⟨B_,q0⟩,⟨Ca,q2⟩,⟨RV,q3⟩,q⟩:=q1;subst e;obtain⟨u,v,z,rfl,r,r',r''⟩:=r1.three;cases r;cases r';cases r'';obtain⟨IT,ZZ,p0,_⟩:=I1.tuple q0;obtain⟨QM,Vh,p1,_⟩:=I1.tuple q2;obtain⟨v7,R8,p2,_⟩:=I1.tuple q3;refine Cp (show s1.heap.IsTuple l0 IT.toArray from p0) (show s1.heap.IsTuple l1 QM.toArray from p1) (show s1.heap.IsTuple l2 v7.toArray from p2) λh' zs kp=>?_;have zn:ZN s1.heap.objs.size 3 (QK l0 l1 l2) 0 h':={zs.1,zs.2.1,zs.2.2.1,Xg zs.2.2.2.1 zs.2.2.2.2.1 zs.2.2.2.2.2};refine wpAny_pyIter_zip (s:={s1 with heap:=h'}) zs.1 {_,_,_,_,H1,rfl,I1.kept (t':=s1.toks) kp,vi (by decide) (by decide)<|Xg p0.lt p1.lt p2.lt,zn,λb hb=>?_,q};obtain⟨j,_,rfl⟩:=rj hb;exact I1.qz (Nat.le_add_right _ _)<|I1.aL.fresh<|Nat.le_add_right _ _
end
section
variable{K:Frag}{X:Cx}{a c e:Expr}{t:jq}{p pos tp:Pos}{es:List Expr}{kk:Nat}
theorem izn(hm:X.mg "zip"= none)(ha:DA K X [a,c] t)(hg:autoParam (Gl X "zip") qQJ)(hs:autoParam (starEach [a,c] X.env=[(false,eval a X.env),(false,eval c X.env)]) qQJ)(x8:autoParam (starEach [c] X.env=[(false,eval c X.env)]) qQJ)(hK:autoParam (X.K=K) qQJ): DI K X (.Tuple es kk tp) (.Call (.Name "zip" p) [a,c] [] pos) (UY t):=by subst hK;exact⟨λy=>(QL (X:=y.cx) hg hm (ha.of y) hs x8).mono λτ H R ⟨σ,S,RI,Z,aB,hS,q,hR,hZ⟩=>{σ,S,_,Z,aB,hS,q,λds S1 vs H1 ⟨xs,ys,e,hl,r1⟩ v1 s1 k1=>by subst e;obtain⟨v,u,rfl,ra,rb⟩:=v1.two;obtain⟨a,va,rfl,qa,ta⟩:=ra.tup;obtain⟨b,vb,rfl,qb,tb⟩:=rb.tup;refine{a,b,rfl,{va,.of qa},{vb,.of qb},hR _ S1 _ H1 r1 (λi S2 H2 k2 s2 _=>?_) s1 k1};have Vs:jn X.K H2 a va:=.of<|k2.t _ _ qa;have Vt:jn X.K H2 b vb:=.of<|k2.t _ _ qb;have la:va.length=xs.length:=ta.len;let f:Nat->List V:=λj=>if j=0 then va else vb;refine{λd hd=>?_,λh=>{f,Xf Vs Vt,by show va.length<=i;unfold cH at h;rw[List.length_zipWith]at h;lia}};unfold cH at hd;obtain⟨x,y',e1,e2,e3⟩:=List.getElem?_zipWith_eq_some.mp hd;subst e3;obtain⟨vx,f1,g1⟩:=(RvAll.ts k2 _ ta).get e1;obtain⟨vy,f2,g2⟩:=(RvAll.ts k2 _ tb).get e2;let g:Nat->V:=λj=>if j=0 then vx else vy;have ok:∀j,j<2->jn X.K H2 (two a b j) (f j)/\(f j)[i]?=some (g j):=Xf ⟨Vs,f1⟩ ⟨Vt,f2⟩;refine{⟨f,g,ok⟩,λx' H' ⟨T,hT,e4,e5⟩=>?_};have:=e5 f g ok;subst this e4;have kk:Kp X.K H2 (upd H2 T<|.tup [vx,vy]):=.new hT;exact{ow aF<|RvAll.ts kk _<|aY g1<|aY g2 bD,kk,s2.grow hT},hZ}⟩
theorem Z1(hm:X.mg "zip"= none)(ha:DA K X [a,c,e] t)(hg:autoParam (Gl X "zip") qQJ)(hs:autoParam (starEach [a,c,e] X.env=[(false,eval a X.env),(false,eval c X.env),(false,eval e X.env)]) qQJ)(x8:autoParam (starEach [c,e] X.env=[(false,eval c X.env),(false,eval e X.env)]) qQJ)(hK:autoParam (X.K=K) qQJ): DI K X (.Tuple es kk tp) (.Call (.Name "zip" p) [a,c,e] [] pos) (QH t):=by subst hK;exact⟨λy=>(QN (X:=y.cx) hg hm (ha.of y) hs x8).mono λτ H R ⟨σ,S,RI,Z,aB,hS,q,hR,hZ⟩=>{σ,S,_,Z,aB,hS,q,λds S1 vs H1 ⟨xs,ys,zs,e,hl,Pz,r1⟩ v1 s1 k1=>by subst e;obtain⟨v,u,w,rfl,ra,rb,rc⟩:=v1.thr;obtain⟨a,va,rfl,qa,ta⟩:=ra.tup;obtain⟨b,vb,rfl,qb,tb⟩:=rb.tup;obtain⟨c,vc,rfl,qc,tc⟩:=rc.tup;refine{a,b,c,rfl,{va,.of qa},{vb,.of qb},{vc,.of qc},hR _ S1 _ H1 r1 (λi S2 H2 k2 s2 _=>?_) s1 k1};have Vs:jn X.K H2 a va:=.of<|k2.t _ _ qa;have Vt:jn X.K H2 b vb:=.of<|k2.t _ _ qb;have qc2:jn X.K H2 c vc:=.of<|k2.t _ _ qc;have la:va.length=xs.length:=ta.len;let f:Nat->List V:=λj=>if j=0 then va else if j=1 then vb else vc;refine{λd hd=>?_,λh=>{f,Xg Vs Vt qc2,by show va.length<=i;rw[la,<-oE hl Pz];exact h}};obtain⟨x,y',z,e1,e2,e3,e4⟩:=oF hd;subst e4;obtain⟨vx,f1,g1⟩:=(RvAll.ts k2 _ ta).get e1;obtain⟨vy,f2,g2⟩:=(RvAll.ts k2 _ tb).get e2;obtain⟨vz,f3,g3⟩:=(RvAll.ts k2 _ tc).get e3;let g:Nat->V:=λj=>if j=0 then vx else if j=1 then vy else vz;have ok:∀j,j<3->jn X.K H2 (QK a b c j) (f j)/\(f j)[i]?=some (g j):=Xg ⟨Vs,f1⟩ ⟨Vt,f2⟩ ⟨qc2,f3⟩;refine{⟨f,g,ok⟩,λx' H' ⟨T,hT,e4,e5⟩=>?_};have:=e5 f g ok;subst this e4;have kk:Kp X.K H2 (upd H2 T<|.tup [vx,vy,vz]):=.new hT;exact{ow aF<|RvAll.ts kk _<|aY g1<|aY g2<|aY g3 bD,kk,s2.grow hT},hZ}⟩
end
end L2
namespace My
open PySem L2
def top(i:Nat):Stmt:=PySem.Challenge.pw_pageturns_k83_whole_back_again.main.body.getD i<|.Pass {0,0,0,0}
abbrev Ga:Stmt:=top 20
abbrev IU:Stmt:=top 21
abbrev Gb:Stmt:=top 22
abbrev qD:Stmt:=top 29
abbrev CD:Stmt:=top 31
abbrev wB:Stmt:=top 34
abbrev lh:Stmt:=top 44
abbrev lY:Stmt:=top 47
abbrev CF:Stmt:=top 49
abbrev uv:Stmt:=top 57
abbrev Ax:Stmt:=top 58
abbrev Ay:Stmt:=top 62
abbrev sL:Stmt:=top 66
abbrev ic:Stmt:=top 68
abbrev ie:Stmt:=top 69
abbrev fL:Stmt:=top 70
abbrev CG:Stmt:=top 101
abbrev vj:Stmt:=top 103
abbrev IV:Stmt:=top 106
abbrev vk:Stmt:=top 107
abbrev Mn:Stmt:=top 108
abbrev Ge:Stmt:=top 109
abbrev sM:Stmt:=top 112
abbrev jN:Stmt:=top 113
abbrev bu:Stmt:=top 88
abbrev fM:Stmt:=top 93
structure fk where
 (oH lZ Gf Az Gg N9 mW sN wC jO jP iL vm mX ig l4 sO sP vo sQ mY fN ak aG gB aP fg aK:Addr)
 (ij fO vp pV vq IW gC jQ:FuncData)
 (mZ oI m6 sR kP AA kQ m7 AB Mp Vu:Tok)
 ts:List Addr
 (f CH IX:Nat->Addr)
 (d QO Vv:Nat->FuncData)
structure Txt(w:World)(K:Frag)(mg:Str->Option Value)(t:fk):Prop where
 fn:F9 K mg top t.f t.d [17,18,19,20,21,22,23,24,25,26,29,30,31,32,33,34,35,41,42,43,44,45,46,47,48,49,50,51,57,58,59,60,61,62,63,65,66,67,69,75,76,77,78,79,80,81,82,83,84,85,89,95,96,97,98,99,100,101,102,103,104,105,106,107,108,109,110,111,112,113]
 eP:CB K t.ak "Shelf." bu t.CH t.QO [0,1,2,3,4,5,6,7,8,13]
 iM:CB K t.aG "Walk." fM t.IX t.Vv [0,1,2,5,10,11,12,13,14]
 fP:He K mg "sorted_by_keys" (top 68) ["rows","way"] t.oH t.ij
 eF:He K mg "sorted_by_values" (top 70) ["columns","part","rows"] t.lZ t.fO
 rl:He K mg "page_on" (top 73) ["shelf","order","sieve","size","gap","moment"] t.Gf t.vp
 AD:Binds K t.vp ["shelf","order","sieve","size","gap","moment"] [.none]
 kF:He K mg "page_back" (top 74) ["shelf","order","sieve","size","gap","moment"] t.Az t.pV
 uw:Binds K t.pV ["shelf","order","sieve","size","gap","moment"] [.none]
 rm:He K mg "stretch" (top 86) ["shelf","order","sieve","fore","hinder","moment"] t.Gg t.vq
 AE:Binds K t.vq ["shelf","order","sieve","fore","hinder","moment"] [.none]
 Z2:He K mg "law" (top 114) ["_law_script"] t.N9 t.IW
 dD:N7 K t.ak "worths_at" "Shelf.worths_at" (inClass bu 9) ["self","key","moment"] t.mW t.gC
 fh:Binds K t.gC ["self","key","moment"] [.none]
 iN:N7 K t.ak "all_at" "Shelf.all_at" (inClass bu 10) ["self","moment"] t.sN t.jQ
 Gi:Binds K t.jQ ["self","moment"] [.none]
 l5:mg "MOST_NAME_SIGNS"= some (.int 8 t.mZ)
 m8:mg "MOST_KEY_SIGNS"= some (.int 12 t.oI)
 l7:mg "MOST_WORD_SIGNS"= some (.int 40 t.m6)
 qE:mg "MOST_COLUMNS"= some (.int 8 t.sR)
 jR:mg "MOST_PARTS_orders"= some (.int 8 t.kP)
 wD:mg "MOST_DEEP"= some (.int 8 t.AA)
 jS:mg "MOST_PARTS_sieves"= some (.int 200 t.kQ)
 l8:mg "MOST_IN_A_TUPLE"= some (.int 8 t.m7)
 wF:mg "MOST_ROWS"= some (.int 1000 t.AB)
 sS:mg "START"= some (.str "start" t.Mp)
 QP:mg "END"= some (.str "end" t.Vu)
 IY:mg "KINDS"= some (.ref t.wC)
 IZ:∀H,Rv K H (.kt [.str "number",.str "word"])<|.ref t.wC
 wG:mg "OTHER_WAY"= some (.ref t.jO)
 AF:Kl w K t.jO [("up",.str "down"),("down",.str "up")]
 wH:mg "OTHER_END"= some (.ref t.jP)
 AG:Kl w K t.jP [("first",.str "last"),("last",.str "first")]
 ux:mg "OTHER_SIDE"= some (.ref t.iL)
 wI:Kl w K t.iL [("ahead",.str "behind"),("behind",.str "ahead")]
 CI:mg "LENGTHS"= some (.ref t.vm)
 Gj:Kl w K t.vm [("every",.int 1),("is",.int 3),("below",.int 3),("above",.int 3),("begins",.int 3),("key",.int 2),("not",.int 2),("and",.int 2),("or",.int 2)]
 aM:mg "len"= none
 lj:mg "all"= none
 Vx:mg "any"= none
 ax:mg "isinstance"= none
 gD:mg "range"= none
 I0:mg "int"= none
 pW:mg "str"= none
 QQ:mg "bool"= none
 bw:mg "tuple"= none
 I9:mg "dict"= none
 N_:mg "set"= none
 I_:mg "zip"= none
 fQ:mg "sorted"= none
 Oa:mg "min"= none
 Ob:mg "max"= none
 sT:mg "reversed"= none
 gT:mg "BadColumns"= some (.ref t.mX)
 dR:excIn K t.mX L2.ou "ValueError.__new__"= true
 kG:mg "BadRow"= some (.ref t.ig)
 ik:excIn K t.ig L2.ou "ValueError.__new__"= true
 eS:mg "BadOrder"= some (.ref t.l4)
 dH:excIn K t.l4 L2.ou "ValueError.__new__"= true
 pX:mg "BadSieve"= some (.ref t.sO)
 iO:excIn K t.sO L2.ou "ValueError.__new__"= true
 eT:mg "BadPlace"= some (.ref t.sP)
 dI:excIn K t.sP L2.ou "ValueError.__new__"= true
 CJ:mg "BadSize"= some (.ref t.vo)
 oJ:excIn K t.vo L2.ou "ValueError.__new__"= true
 Gk:mg "HasKey"= some (.ref t.sQ)
 sU:excIn K t.sQ L2.ou "ValueError.__new__"= true
 Ja:mg "NoKey"= some (.ref t.mY)
 wJ:excIn K t.mY L2.ou "ValueError.__new__"= true
 AH:mg "NoMoment"= some (.ref t.fN)
 l9:excIn K t.fN L2.ou "ValueError.__new__"= true
 Jb:mg "Shelf"= some (.ref t.ak)
 aj:qW K t.ak
 Jc:Mk K t.ak (t.CH 0)
 df:findIn K (.ref t.ak) "columns"= some none
 cQ:findIn K (.ref t.ak) "deeds"= some none
 bS:findIn K (.ref t.ak) "runs"= some none
 Mq:mg "Walk"= some (.ref t.aG)
 aD:qW K t.aG
 Mr:Mk K t.aG (t.IX 0)
 eQ:findIn K (.ref t.aG) "shelf"= some none
 eR:findIn K (.ref t.aG) "order"= some none
 lq:findIn K (.ref t.aG) "sieve"= some none
 iP:findIn K (.ref t.aG) "size"= some none
 fm:findIn K (.ref t.aG) "fore"= some none
 dS:findIn K (.ref t.aG) "hinder"= some none
 gE:t.ij.code=.ref t.gB
 dU:codeHdIn K t.gB t.aP=true
 m9:t.aP∈t.ts
 fi:t.fO.code=.ref t.fg
 dr:codeHdIn K t.fg t.aK=true
 kR:t.aK∈t.ts
 np:[t.aP,t.aK].Nodup
 ta:∀b∈t.ts,b=t.aP\/b=t.aK
 bl:∀(s:Shared)(u:Value),BindsTo s t.IW {[u],[]} [("_law_script",u)]
section
variable{w:World}{K:Frag}{mg:Str->Option Value}{t:fk}(T:Txt w K mg t)
def Txt.jT:=T.fn 17<|by decide
def Txt.ip:=T.fn 18<|by decide
def Txt.oK:=T.fn 19<|by decide
def Txt.rn:=T.fn 20<|by decide
def Txt.l_:=T.fn 21<|by decide
def Txt.wK:=T.fn 22<|by decide
def Txt.wL:=T.fn 23<|by decide
def Txt.jU:=T.fn 24<|by decide
def Txt.compared:=T.fn 25<|by decide
def Txt.dJ:=T.fn 26<|by decide
def Txt.gU:=T.fn 29<|by decide
def Txt.oM:=T.fn 30<|by decide
def Txt.m_:=T.fn 31<|by decide
def Txt.eG:=T.fn 32<|by decide
def Txt.kH:=T.fn 33<|by decide
def Txt.ma:=T.fn 34<|by decide
def Txt.cD:=T.fn 35<|by decide
def Txt.wM:=T.fn 41<|by decide
def Txt.CK:=T.fn 42<|by decide
def Txt.wN:=T.fn 43<|by decide
def Txt.eU:=T.fn 44<|by decide
def Txt.wO:=T.fn 45<|by decide
def Txt.jV:=T.fn 46<|by decide
def Txt.eI:=T.fn 47<|by decide
def Txt.oN:=T.fn 48<|by decide
def Txt.jW:=T.fn 49<|by decide
def Txt.e_:=T.fn 50<|by decide
def Txt.sV:=T.fn 51<|by decide
def Txt.eV:=T.fn 57<|by decide
def Txt.oO:=T.fn 58<|by decide
def Txt.dW:=T.fn 59<|by decide
def Txt.jX:=T.fn 60<|by decide
def Txt.gW:=T.fn 61<|by decide
def Txt.passes:=T.fn 62<|by decide
def Txt.iQ:=T.fn 63<|by decide
def Txt.cg:=T.fn 65<|by decide
def Txt.iR:=T.fn 66<|by decide
def Txt.sW:=T.fn 67<|by decide
def Txt.fR:=T.fn 69<|by decide
def Txt.mf:=T.fn 75<|by decide
def Txt.iS:=T.fn 76<|by decide
def Txt.kI:=T.fn 77<|by decide
def Txt.iT:=T.fn 78<|by decide
def Txt.fq:=T.fn 79<|by decide
def Txt.iU:=T.fn 80<|by decide
def Txt.iV:=T.fn 81<|by decide
def Txt.eW:=T.fn 82<|by decide
def Txt.cR:=T.fn 83<|by decide
def Txt.rq:=T.fn 84<|by decide
def Txt.jY:=T.fn 85<|by decide
def Txt.gF:=T.fn 89<|by decide
def Txt.eJ:=T.fn 95<|by decide
def Txt.gG:=T.fn 96<|by decide
def Txt.rA:=T.fn 97<|by decide
def Txt.oP:=T.fn 98<|by decide
def Txt.ng:=T.fn 99<|by decide
def Txt.AI:=T.fn 100<|by decide
def Txt.sX:=T.fn 101<|by decide
def Txt.wQ:=T.fn 102<|by decide
def Txt.iW:=T.fn 103<|by decide
def Txt.CL:=T.fn 104<|by decide
def Txt.wR:=T.fn 105<|by decide
def Txt.CM:=T.fn 106<|by decide
def Txt.wU:=T.fn 107<|by decide
def Txt.Jd:=T.fn 108<|by decide
def Txt.wV:=T.fn 109<|by decide
def Txt.CO:=T.fn 110<|by decide
def Txt.rB:=T.fn 111<|by decide
def Txt.iX:=T.fn 112<|by decide
def Txt.iY:=T.fn 113<|by decide
def Txt.fS:=T.eP 0<|by decide
def Txt.fz:=T.eP 1<|by decide
def Txt.dh:=T.eP 2<|by decide
def Txt.dM:=T.eP 3<|by decide
def Txt.cu:=T.eP 4<|by decide
def Txt.bP:=T.eP 5<|by decide
def Txt.cw:=T.eP 6<|by decide
def Txt.az:=T.eP 7<|by decide
def Txt.fB:=T.eP 8<|by decide
def Txt.cy:=T.eP 13<|by decide
def Txt.gX:=T.iM 0<|by decide
def Txt.nh:=T.iM 1<|by decide
def Txt.oQ:=T.iM 2<|by decide
def Txt.mh:=T.iM 5<|by decide
def Txt.iZ:=T.iM 10<|by decide
def Txt.fT:=T.iM 11<|by decide
def Txt.cE:=T.iM 12<|by decide
def Txt.bN:=T.iM 13<|by decide
def Txt.cI:=T.iM 14<|by decide
end
def AJ:=bC<|top 17
def wW:=bC<|top 18
def wX:=bC<|top 19
def CP:=bC<|top 20
def Gm:=bC<|top 21
def CQ:=bC<|top 22
def CT:=bC<|top 23
def AK:=bC<|top 24
def pY:=bC<|top 25
def eB:=bC<|top 26
def oR:=bC<|top 29
def wY:=bC<|top 30
def AL:=bC<|top 31
def uy:=bC<|top 32
def wZ:=bC<|top 33
def uz:=bC<|top 34
def AM:=bC<|top 35
def Gn:=bC<|top 41
def Gq:=bC<|top 42
def CU:=bC<|top 43
def fU:=bC<|top 44
def CV:=bC<|top 45
def sY:=bC<|top 46
def kT:=bC<|top 47
def w4:=bC<|top 48
def pZ:=bC<|top 49
def bE:=bC<|top 50
def p7:=bC<|top 51
def bF:=bC<|top 57
def w5:=bC<|top 58
def nj:=bC<|top 59
def jZ:=bC<|top 60
def eK:=bC<|top 61
def vt:=bC<|top 62
def qF:=bC<|top 63
def nq:=bC<|top 65
def jg:=bC<|top 66
def gH:=bC<|top 67
def nr:=bC<|top 68
def cJ:=bC<|top 69
def kU:=bC<|top 70
def CW:=bC<|top 73
def w6:=bC<|top 74
def lA:=bC<|top 75
def jh:=bC<|top 76
def w9:=bC<|top 77
def uA:=bC<|top 78
def qG:=bC<|top 79
def uB:=bC<|top 80
def uC:=bC<|top 81
def sZ:=bC<|top 82
def cj:=bC<|top 83
def s9:=bC<|top 84
def j0:=bC<|top 85
def fV:=bC<|top 86
def j5:=bC<|top 89
def w_:=bC<|top 95
def cS:=bC<|top 96
def CY:=bC<|top 97
def dj:=bC<|top 98
def s_:=bC<|top 99
def AN:=bC<|top 100
def AO:=bC<|top 101
def eL:=bC<|top 102
def cT:=bC<|top 103
def iq:=bC<|top 104
def Gr:=bC<|top 105
def Gs:=bC<|top 106
def tj:=bC<|top 107
def nv:=bC<|top 108
def cU:=bC<|top 109
def Gu:=bC<|top 110
def fW:=bC<|top 111
def bx:=bC<|top 112
def bc:=bC<|top 113
def dX:=bC<|top 114
def nA:=bC<|inClass bu 0
def xa:=bC<|inClass bu 1
def qH:=bC<|inClass bu 2
def uD:=bC<|inClass bu 3
def jt:=bC<|inClass bu 4
def ir:=bC<|inClass bu 5
def eC:=bC<|inClass bu 6
def j6:=bC<|inClass bu 7
def xb:=bC<|inClass bu 8
def fX:=bC<|inClass bu 9
def fb:=bC<|inClass bu 10
def ju:=bC<|inClass bu 13
def oS:=bC<|inClass fM 0
def CZ:=bC<|inClass fM 1
def xc:=bC<|inClass fM 2
def lB:=bC<|inClass fM 5
def fc:=bC<|inClass fM 10
def dY:=bC<|inClass fM 11
def mi:=bC<|inClass fM 12
def mj:=bC<|inClass fM 13
def eX:=bC<|inClass fM 14
theorem sm(h:n<=1000):n<=sizeLine:=yw<|kB h
theorem mm:0<=sizeLine:=sm<|by decide
theorem uE:1<=sizeLine:=sm<|by decide
theorem cG:2<=sizeLine:=sm<|by decide
theorem uF:3<=sizeLine:=sm<|by decide
theorem uG:4<=sizeLine:=sm<|by decide
theorem Z3:6<=sizeLine:=sm<|by decide
theorem Gv:8<=sizeLine:=sm<|by decide
theorem Vy:12<=sizeLine:=sm<|by decide
def Gt(S:au)(d:D):Prop:=(∃k,Qf S d k)/\∀z,d=.str z->z.cps.size<=1000
noncomputable def isLet(c:Nat):Bool:=decide (97<=c)&&decide (c<=122)
noncomputable def Ez(c:Nat):Bool:=decide (48<=c)&&decide (c<=57)
noncomputable def EA(c:Nat):Bool:=decide (32<=c)&&decide (c<=126)
noncomputable def lC(z:Str):Bool:=decide (1<=z.cps.size)&&decide (z.cps.size<=8)&&z.cps.toList.all isLet
noncomputable def kW(z:Str):Bool:=decide (1<=z.cps.size)&&decide (z.cps.size<=12)&&(z.cps.toList.head?.any isLet)&&z.cps.toList.all λc=>isLet c||Ez c
noncomputable def p8(z:Str):Bool:=decide (z.cps.size<=40)&&z.cps.toList.all EA
noncomputable def ofStr(f:Str->Bool):D->Bool|.str z=>f z|_=>false
noncomputable def tm:D->Bool|.int _=>true|_=>false
noncomputable def jv(kind:Str)(d:D):Bool:=ai d||if kind ="number" then tm d else ofStr p8 d
def Ms(f:D->Bool):kO:=λds S R _=>∃d,ds=[d]/\Gt S d/\R (.bl<|f d) S
def Je(f:Nat->Bool):kO:=λds S R _=>∃c,ds=[.str ⟨#[c]⟩]/\R (.bl<|f c) S
theorem p9:∀{xs ys:List D}{a b:D},Paired rel xs ys->rel a b->Paired rel (xs++[a]) (ys++[b])|_,_,_,_,.nil,r=>.cons r .nil|_,_,_,_,.cons q t,r=>.cons q<|p9 t r
theorem take_snoc{α:Type}{l:List α}{i:Nat}{d:α}(h:l[i]?=some d):l.take (i+1)=l.take i++[d]:=by rw[List.take_add_one,h];rfl
theorem iu{I:q9}{S1:au}{g:xV}{te:TD}{σ:SD}{src:List<|Option Nat}{R:KD}(rel:D->D->Prop)(aL:I.ok S1)(hz:I.xs.length<=1000) (step:∀d,d∈I.xs->∀Q:KD,(∀v,rel d v->Q v S1)->g d (lg σ src) S1 λfw S3=>te fw S3 Q Zf) (fin:∀out,Paired rel I.xs out->∀p,S1 p=none->R (.ref p) (S1.set p<|.lst out)): u_ σ src g mU te R I S1:=by
 refine{λi out S=>S=S1/\Paired rel (I.xs.take i) out,{rfl,.nil},λi out S h=>by rw[h.1];exact aL,?_,?_};rintro i d out S hd ⟨rfl,hp⟩;have hlen:=yH hp;rw[ym]at hlen;refine{kB<|by lia,?_};have e:(λ(fw:SD)(S3:au)=>mU fw S3 (λb S4=>if b=true then te fw S4 (λv S5=>S5=S/\Paired rel (I.xs.take<|i+1) (out++[v])) Zf else S4=S/\Paired rel (I.xs.take<|i+1) out) Zf)=λfw S3=>te fw S3 (λv S5=>S5=S/\Paired rel (I.xs.take<|i+1) (out++[v])) Zf:=by funext fw S3;simp[mU]
 rw[e];exact step d (zy hd) _ λv hv=>{rfl,by rw[take_snoc hd];exact p9 hp hv};rintro out S2 ⟨rfl,hp⟩;rw[yK]at hp;exact fin out hp
theorem tq:∀{xs out:List D},Paired (λd v=>v=f d) xs out->out=xs.map f|_,_,.nil=>rfl|_,_,.cons r t=>by rw[r,tq t];rfl
theorem comp_map(f:D->D)(aL:I.ok S1)(hz:I.xs.length<=1000) (step:∀d,d∈I.xs->∀Q:KD,Q (f d) S1->g d (lg σ src) S1 λfw S3=>te fw S3 Q Zf) (fin:∀p,S1 p=none->R (.ref p) (S1.set p<|.lst<|I.xs.map f)): u_ σ src g mU te R I S1:=iu (λd v=>v=f d) aL hz (λd hd Q h=>step d hd Q<|h _ rfl) λout hp p Z4=>by rw[tq hp];exact fin p Z4
theorem fC{I:q9}{S1:au}{g:xV}{tc:mE}{te:TD}{σ:SD}{src:List<|Option Nat}{R:KD}(keep:D->Bool)(f:D->D)(aL:I.ok S1)(hz:I.xs.length<=1000) (step:∀d,d∈I.xs->∀(Q:KD)(Q':au->Prop),(keep d=true->Q (f d) S1)->(keep d=false->Q' S1)->g d (lg σ src) S1 λfw S3=>tc fw S3 (λb S4=>if b=true then te fw S4 Q Zf else Q' S4) Zf) (fin:∀p,S1 p=none->R (.ref p) (S1.set p<|.lst<|(I.xs.filter keep).map f)): u_ σ src g tc te R I S1:=by refine{λi out S=>S=S1/\out=((I.xs.take i).filter keep).map f,⟨rfl,rfl⟩,λi out S h=>by rw[h.1];exact aL,?_,?_};rintro i d out S hd ⟨rfl,rfl⟩;have hlen:((I.xs.take i).filter keep).length<=(I.xs.take i).length:=yg _ _;rw[ym]at hlen;refine{by rw[za];exact kB<|by lia,?_};refine step d (zy hd) _ (λS4=>S4=S/\_=_) (λhk=>{rfl,?_}) λhk=>{rfl,?_};rw[take_snoc hd,List.filter_append,zG,List.filter_cons,if_pos hk];rfl;rw[take_snoc hd,List.filter_append,List.filter_cons,if_neg<|by rw[hk];exact zd];simp;rintro out S2 ⟨rfl,rfl⟩;rw[yK];exact fin
variable{P:Program}{w:World}{K:Frag}{mg:Str->Option Value}{base:Heap}{t:fk}
theorem j7(T:Txt w K mg t):Ok P w base T.jT 1 (Ms tm):=by
 refine T.jT.F.bG AJ ?_;obtain⟨d,e,⟨⟨k,hk⟩,hz⟩,q⟩;refine{_,(s1<|sr<|sx (cb dk T.ax aq<|al 0<|ac (t_ T.I0 BX) an)<|Ia<|Uo<|cb dk T.ax aq<|al 0<|ac (t_ T.QQ Lp) an),?_};refine !{_,_,_,_,rfl,Lq,hk,_,rfl,?_};have:(BY k=true/\((tm d=true/\wa k=false)\/(tm d=false/\wa k=true)))\/(BY k=false/\tm d=false):=by cases d with|av=>(cases hk;exact .inr ⟨rfl,rfl⟩)|bl b=>(cases hk;exact .inl {rfl,.inr ⟨rfl,rfl⟩})|int b=>(cases hk;exact .inl {rfl,.inl ⟨rfl,rfl⟩})|str b=>(cases hk;exact .inr ⟨rfl,rfl⟩)|tup b=>(cases hk;exact .inr ⟨rfl,rfl⟩)|ref a=>(rcases hk with⟨rfl,_⟩|⟨rfl,_⟩<;>exact .inr ⟨rfl,rfl⟩)|_=>exact hk.elim
 rcases this with⟨h1,h2⟩|⟨h1,h2⟩;rw[h1];refine dG !{_,_,_,_,rfl,HS,hk,_,rfl,?_};rcases h2 with⟨h2,h3⟩|⟨h2,h3⟩<;>(rw[h3];rw[h2]at q;exact fo q);rw[h1];rw[h2]at q;exact a_<|fo q
theorem i4(T:Txt w K mg t):Ok P w base T.ip 1 (Je isLet):=by refine T.ip.F.bG wW ?_;obtain⟨c,e,q⟩;refine{_,(s1<|sr<|cc jH jH hr.u ds (dv 0) ds),?_};refine !!⟨?_⟩;have e1:G8 "a" ⟨#[c]⟩=decide (97<=c):=kC 97 c;have e2:G8 ⟨#[c]⟩ "z"= decide (c<=122):=kC c 122;unfold isLet at q;refine bX (λh=>?_) λh=>?_;rw[e1.symm.trans h,yb,<-e2]at q;exact fo q;rw[e1.symm.trans h,zX]at q;exact fo q
theorem xf(T:Txt w K mg t):Ok P w base T.oK 1 (Je Ez):=by refine T.oK.F.bG wX ?_;obtain⟨c,e,q⟩;refine{_,(s1<|sr<|cc jH jH hr.u ds (dv 0) ds),?_};refine !!⟨?_⟩;have e1:G8 "0" ⟨#[c]⟩=decide (48<=c):=kC 48 c;have e2:G8 ⟨#[c]⟩ "9"= decide (c<=57):=kC c 57;unfold Ez at q;refine bX (λh=>?_) λh=>?_;rw[e1.symm.trans h,yb,<-e2]at q;exact fo q;rw[e1.symm.trans h,zX]at q;exact fo q
theorem Gw(h:d∈fG z):∃c,c∈z.cps.toList/\d=.str ⟨#[c]⟩:=by unfold fG at h;obtain⟨c,hc,e⟩:=zg.mp h;exact⟨c,hc,e.symm⟩
noncomputable def EB(f:Nat->Bool):D->D|.str z=>.bl (z.cps.toList.head?.any f)|_=>.av
theorem Gx:(fG z).map (EB f)=(z.cps.toList.map f).map D.bl:=by unfold fG;rw[zx,zx];rfl
theorem all_map{α:Type}{l:List α}{f:α->Bool} : (l.map f).all id=l.all f:=by rw[List.all_map];rfl
theorem oU{z:Str}{f:Nat->Bool}{g:xV}{te:TD}{σ:SD}{src:List<|Option Nat}{S:au}{R:KD}{Z:KX}{i:Nat}(hv:σ[i]?=some (some<|.str z))(hz:z.cps.size<=1000) (step:∀c,c∈z.cps.toList->∀Q:KD,Q (.bl<|f c) S->g (.str ⟨#[c]⟩) (lg σ src) S λfw S3=>te fw S3 Q Zf) (q:R (.bl<|z.cps.toList.all f) S): WQ UC (ND (Ej (NR<|Uk i) src g mU te) LO) σ S (λd S'=>Fo S'<|R d) Z:=by refine{_,hv,z,rfl,?_};refine My.comp_map (I:={fG z,λ_=>True}) (EB f) trivial (by show(fG z).length<=1000;unfold fG;rw[za,yr];exact hz) (λd hd Q hQ=>?_) λp hp=>?_;obtain⟨c,hc,rfl⟩:=Gw hd;exact step c hc Q (by simpa [EB]using hQ);refine{.ref p,z.cps.toList.map f,rfl,?_,S,.new hp,?_};show(S.set p<|.lst<|(fG z).map<|EB f) p=_;rw[aa,Gx];rw[all_map];exact q
theorem C3{S:au}{d:D}{k:Kd}(hk:Qf S d k):(∃z,d=.str z/\BZ k=true)\/(BZ k=false/\∀f,ofStr f d=false):=by cases d with|str b=>(cases hk;exact .inl ⟨b,rfl,rfl⟩)|av=>(cases hk;exact .inr {rfl,λ_=>rfl})|bl b=>(cases hk;exact .inr {rfl,λ_=>rfl})|int b=>(cases hk;exact .inr {rfl,λ_=>rfl})|tup b=>(cases hk;exact .inr {rfl,λ_=>rfl})|ref a=>(rcases hk with⟨rfl,_⟩|⟨rfl,_⟩<;>exact .inr {rfl,λ_=>rfl})|_=>exact hk.elim
theorem QR{S:au}{d:D}{k:Kd}(hk:Qf S d k):(∃ds,d=.tup ds/\r9 k=true)\/(r9 k=false/\∀ds,d≠.tup ds):=by cases d with|tup b=>(cases hk;exact .inl ⟨b,rfl,rfl⟩)|av=>(cases hk;exact .inr {rfl,λ_=>nofun})|bl b=>(cases hk;exact .inr {rfl,λ_=>nofun})|int b=>(cases hk;exact .inr {rfl,λ_=>nofun})|str b=>(cases hk;exact .inr {rfl,λ_=>nofun})|ref a=>(rcases hk with⟨rfl,_⟩|⟨rfl,_⟩<;>exact .inr {rfl,λ_=>nofun})|_=>exact hk.elim
theorem tw(T:Txt w K mg t):Ok P w base T.rn 2 (Ms<|ofStr lC):=by
 refine T.rn.F.bG CP ?_;obtain⟨d,e,⟨⟨k,hk⟩,hz⟩,q⟩;refine{_,(sc (si (twd<|twor (cM<|tv<|cb dk T.ax aq<|al 0<|ac (t_ T.pW jF) an)<|tw1<|cM<|WO jH jH hr.u di (cb aQ T.aM aE<|al 0 an)<|dg (v:=.int 8) T.l5 {_,rfl} λ_=>aS _) (s1<|sr db) s0)<|s1<|sr<|cb k_ T.lj gR<|ac (vd (N:=["sign"]) (src:=[none]) (kD (ae Ga) ["thing"] rfl rfl<|by trivial) (Qq<|dv 0) (pT<|show(["sign"]:List Str).Nodup by trivial) (aU rfl) aV (λ_ _ _ _ _=>sC) λ_ _ _ _ _=>(aT T.ip (i4 T) hr<|al 0 an)) an),?_};refine !{_,_,_,_,rfl,cZ,hk,_,rfl,?_};rcases C3 hk with⟨z,rfl,h0⟩|⟨h0,h1⟩;have hz:=hz z rfl;rw[h0];refine a_ ?_;refine !!⟨{sm hz,?_}⟩;refine{_,rfl,?_};have e1:decide ((1:Int)<=(z.length:Nat))=decide (1<=z.cps.size):=by rw[yM];show(1:Int)<=((z.cps.size:Nat):Int)↔_;omega
 have e2:decide (((z.length:Nat):Int)<=8)=decide (z.cps.size<=8):=by rw[yM];show((z.cps.size:Nat):Int)<=8↔_;omega
 unfold ofStr lC at q;dsimp only at q;refine bX (λh2=>?_) λh2=>?_;rw[e1.symm.trans h2,yb]at q;refine{_,rfl,?_};refine bX (λh3=>?_) λh3=>?_;rw[e2.symm.trans<|nt h3,zX]at q;exact fo q;rw[e2.symm.trans<|nf h3,yb]at q;exact oU rfl hz (λc hc Q hQ=>!⟨c,rfl,hQ⟩) q;rw[e1.symm.trans h2,zX,zX]at q;refine{_,rfl,?_};exact dG<|fo q;rw[h0];rw[h1]at q;exact dG<|dG<|fo q
def aA(c:Str×Str):D:=.tup [.str c.1,.str c.2]
def Gd(cs:List<|Str×Str):Prop:=cs.length<=8/\(cs.map Prod.fst).Nodup/\∀c∈cs,lC c.1=true/\(c.2 ="number"\/c.2 ="word")
noncomputable def nB(cs:List<|Str×Str):D->Bool|.tup ws=>decide (ws.length=cs.length)&&(List.zipWith (λc v=>jv c.2 v) cs ws).all id|_=>false
noncomputable def oV(cs:List<|Str×Str)(k v:D):Bool:=ofStr kW k&&nB cs v
def Sf(S:au)(d:D):Prop:=Gt S d/\∀ws,d=.tup ws->ws.length<=1000/\∀v∈ws,Gt S v
theorem iw(T:Txt w K mg t):Ok P w base T.l_ 2 (Ms<|ofStr kW):=by
 refine T.l_.F.bG Gm ?_;obtain⟨d,e,⟨⟨k,hk⟩,hz⟩,q⟩;refine{_,(sc (si (twd<|twor (cM<|tv<|cb dk T.ax aq<|al 0<|ac (t_ T.pW jF) an)<|tw1<|cM<|WO jH jH hr.u di (cb aQ T.aM aE<|al 0 an)<|dg (v:=.int 12) T.m8 {_,rfl} λ_=>aS _) (s1<|sr db) s0)<|sc (si (cM<|tv<|aT T.ip (i4 T) hr<|ac (ix hr.u (dv 0) di) an) (s1<|sr db) s0)<|s1<|sr<|cb k_ T.lj gR<|ac (vd (N:=["sign"]) (src:=[none]) (kD (ae IU) ["thing"] rfl rfl<|by trivial) (Qq<|dv 0) (pT<|show(["sign"]:List Str).Nodup by trivial) (aU rfl) aV (λ_ _ _ _ _=>sC) λ_ _ _ _ _=>(eor (aT T.ip (i4 T) hr<|al 0 an)<|Ia<|aT T.oK (xf T) hr<|al 0 an)) an),?_};refine !{_,_,_,_,rfl,cZ,hk,_,rfl,?_};rcases C3 hk with⟨z,rfl,h0⟩|⟨h0,h1⟩;have hz:=hz z rfl;rw[h0];refine a_ ?_;refine !!⟨{sm hz,?_}⟩;refine{_,rfl,?_};have e1:decide ((1:Int)<=(z.length:Nat))=decide (1<=z.cps.size):=by rw[yM];show(1:Int)<=((z.cps.size:Nat):Int)↔_;omega
 have e2:decide (((z.length:Nat):Int)<=12)=decide (z.cps.size<=12):=by rw[yM];show((z.cps.size:Nat):Int)<=12↔_;omega
 unfold ofStr kW at q;dsimp only at q;refine bX (λh2=>?_) λh2=>?_;have YK:=e1.symm.trans h2;rw[YK,yb]at q;refine{_,rfl,?_};refine bX (λh3=>?_) λh3=>?_;rw[e2.symm.trans<|nt h3,zX,zX]at q;exact fo q;rw[e2.symm.trans<|nf h3,yb]at q;obtain⟨c,r,ec⟩:=len_pos (z:=z)<|zC YK;have eh:z.cps.toList.head?.any isLet=isLet c:=by rw[ec];rfl
 rw[eh]at q;refine !{c,sm hz,at0 ec,c,rfl,_,rfl,?_};refine bX (λh4=>?_) λh4=>?_;rw[nt h4,zX]at q;exact fo q;rw[nf h4,yb]at q;refine oU (f:=λc=>isLet c||Ez c) rfl hz (λc hc Q hQ=>?_) q;refine !{c,rfl,_,rfl,?_};refine bX (λh5=>?_) λh5=>?_;rw[h5,Bool.true_or]at hQ;exact hQ;rw[h5,yU]at hQ;exact{_,rfl,c,rfl,hQ};rw[e1.symm.trans h2,zX,zX,zX]at q;refine{_,rfl,?_};exact dG<|fo q;rw[h0];rw[h1]at q;exact dG<|dG<|fo q
theorem C4(T:Txt w K mg t):Ok P w base T.wK 2 (Ms<|ofStr p8):=by
 refine T.wK.F.bG CQ ?_;obtain⟨d,e,⟨⟨k,hk⟩,hz⟩,q⟩;refine{_,(sc (si (twd<|twor (cM<|tv<|cb dk T.ax aq<|al 0<|ac (t_ T.pW jF) an)<|tw1<|bq ox hr.u (cb aQ T.aM aE<|al 0 an)<|dg (v:=.int 40) T.l7 {_,rfl} λ_=>aS _) (s1<|sr db) s0)<|s1<|sr<|cb k_ T.lj gR<|ac (vd (N:=["sign"]) (src:=[none]) (kD (ae Gb) ["thing"] rfl rfl<|by trivial) (Qq<|dv 0) (pT<|show(["sign"]:List Str).Nodup by trivial) (aU rfl) aV (λ_ _ _ _ _=>sC) λ_ _ _ _ _=>(cc jH jH hr.u ds (dv 0) ds)) an),?_};refine !{_,_,_,_,rfl,cZ,hk,_,rfl,?_};rcases C3 hk with⟨z,rfl,h0⟩|⟨h0,h1⟩;have hz:=hz z rfl;rw[h0];refine a_ ?_;refine !!⟨{sm hz,?_}⟩;refine{_,rfl,?_};have e2:decide ((40:Int)<((z.length:Nat):Int))=!decide (z.cps.size<=40):=by rw[yD];simp only[decide_eq_true_iff,Bool.not_eq_true',yi];show(40:Int)<((z.cps.size:Nat):Int)↔_;omega
 unfold ofStr p8 at q;dsimp only at q;refine bX (λh3=>?_) λh3=>?_;rw[nt<|e2.symm.trans h3,zX]at q;exact fo q;rw[nf<|e2.symm.trans h3,yb]at q;refine oU (f:=EA) rfl hz (λc hc Q hQ=>?_) q;refine !!⟨?_⟩;have e3:G8 " " ⟨#[c]⟩=decide (32<=c):=kC 32 c;have e4:G8 ⟨#[c]⟩ "~"= decide (c<=126):=kC c 126;unfold EA at hQ;refine bX (λh=>?_) λh=>?_;rw[e3.symm.trans h,yb,<-e4]at hQ;exact hQ;rw[e3.symm.trans h,zX]at hQ;exact hQ;rw[h0];rw[h1]at q;exact dG<|dG<|fo q
inductive tD (ds:List D) (S:au) (R:KD) (Z:KX):Prop where
 |mk (kind d) (h0:ds=[.str kind,d]) (h1:Gt S d) (h2:R (.bl<|jv kind d) S)
theorem j8(T:Txt w K mg t):Ok P w base T.jU 3 tD:=by refine T.jU.F.bG AK ?_;obtain⟨kind,d,e,hd,q⟩;refine{_,(sc (si (bq jr hr.u (dv 1) dn) (s1<|sr db) s0)<|sc (si (bq bA hr.u (dv 0) ds) (s1<|sr<|aT T.jT (j7 T) hr<|al 1 an) s0)<|s1<|sr<|aT T.wK (C4 T) hr<|al 1 an),?_};refine !!⟨?_⟩;unfold jv at q;refine bX (λh=>?_) λh=>?_;rw[h,Bool.true_or]at q;exact fo q;rw[h,yU]at q;refine !!⟨?_⟩;refine bX (λh=>?_) λh=>?_;rw[if_pos<|zC h]at q;exact !{d,rfl,hd,fo q};rw[if_neg<|yd h]at q;exact !{d,rfl,hd,fo q}
theorem gt_str(h:z.cps.size<=1000):Gt S (.str z):={{.str,rfl},λy e=>by cases e;exact h}
theorem oW(h:lC z=true):z.cps.size<=1000:=by unfold lC at h;simp only[zO,zY]at h;lia
theorem Gy(h:∀c v,f (.tup [aA c,v])=.bl (jv c.2 v)):(cH (cs.map aA) ws).map f=(List.zipWith (λc v=>jv c.2 v) cs ws).map D.bl:=by unfold cH;induction cs generalizing ws with|nil=>(cases ws<;>rfl)|cons c cs ih=>cases ws with|nil=>rfl|cons v ws=>show f (.tup [aA c,v])::(List.zipWith _ (cs.map aA) ws).map f=.bl (jv c.2 v)::_;rw[h,ih]
noncomputable def pairF:D->D|.tup [.tup [_,.str k],v]=>.bl (jv k v)|_=>.av
inductive vA (ds:List D) (S:au) (R:KD) (Z:KX):Prop where
 |mk (z) (h0:ds=[.str z]) (h1:(z ="number"\/z ="word")) (h2:R (.bl true) S)
theorem C5(T:Txt w K mg t):Ok P w base T.wL 1 vA:=by
 refine T.wL.F.bG CT ?_;obtain⟨z,e,hz,q⟩;refine{_,(s1<|sr<|sx (cb dk T.ax aq<|al 0<|ac (t_ T.pW jF) an)<|Ia<|cm Ct hr.u (dv 0)<|dg (v:=.ref t.wC) T.IY rfl T.IZ),?_};refine !{_,_,_,_,rfl,cZ,rfl,_,rfl,dG !{rfl,rfl,?_}};have e:BQ (jI<|.str z) ([D.str "number",D.str "word"].map jI)=true:=by rcases hz with rfl|rfl<;>decide +kernel
 show Fo S (R<|.bl<|if false=true then _ else BQ (jI<|.str z) ([D.str "number",D.str "word"].map jI));rw[if_neg zd,e];exact fo q
inductive p_ (ds:List D) (S:au) (R:KD) (Z:KX):Prop where
 |mk (c) (h0:ds=[aA c]) (h1:lC c.1=true) (h2:(c.2 ="number"\/c.2 ="word")) (h3:R (.bl true) S)
theorem xg(T:Txt w K mg t):Ok P w base T.oM 3 p_:=by refine T.oM.F.bG wY ?_;obtain⟨c,e,h1,h2,q⟩;refine{_,(sc (si (twd<|twor (cM<|tv<|cb dk T.ax aq<|al 0<|ac (t_ T.bw aW) an)<|tw1<|bq js hr.u (cb aQ T.aM aE<|al 0 an) di) (s1<|sr db) s0)<|s1<|sr<|sx (aT T.rn (tw T) hr<|ac (ix hr.u (dv 0) di) an)<|Ia<|aT T.wL (C5 T) hr<|ac (ix hr.u (dv 0) di) an),?_};refine !{_,_,_,_,rfl,aX,rfl,_,rfl,?_};refine a_ !!!⟨a_ ?_⟩;refine !!!{gt_str<|oW h1,_,rfl,?_};show if lC c.1=true then _ else _;rw[h1];exact dG !!!{h2,fo q}
inductive tE (ds:List D) (S:au) (R:KD) (Z:KX):Prop where
 |mk (cs:List<|Str×Str) (h0:ds=[.tup<|cs.map aA]) (h1:cs.length<=8) (h2:∀p,S p=none->R (.ref p) (S.set p<|.lst<|(cs.map Prod.fst).map D.str))
theorem qd(T:Txt w K mg t):Ok P w base T.m_ 1 tE:=by
 refine T.m_.F.bG AL ?_;obtain⟨cs,e,hl,q⟩;refine{_,(s1<|sr<|vd (N:=["name","kind"]) (src:=[none,none]) (kD (ae CD) ["columns"] rfl rfl<|by trivial) (Km<|dv 0) (W0<|show(["name","kind"]:List Str).Nodup by trivial) (qX rfl rfl) rf (λ_ _ _ _ _=>sC) λ_ _ _ _ _=>(dv 0)),?_};refine !{_,.inl rfl,?_};refine comp_map (λd=>match d with|.tup (x::_)=>x|_=>.av) trivial (by show(cs.map aA).length<=1000;rw[za];lia) (λd hd Q hQ=>?_) λp hp=>?_;obtain⟨c,hc,rfl⟩:=zg.mp hd;exact !{rfl,_,_,rfl,_,_,rfl,rfl,_,rfl,hQ};have e:(cs.map aA).map (λd=>match d with|.tup (x::_)=>x|_=>.av)=(cs.map Prod.fst).map D.str:=by rw[zx,zx];rfl
 show Fo (S.set p<|.lst<|(cs.map aA).map _) (R<|.ref p);rw[e];exact fo<|q p hp
inductive ji (ds:List D) (S:au) (R:KD) (Z:KX):Prop where
 |mk (cs) (h0:ds=[.tup<|cs.map aA]) (h1:Gd cs) (h2:R .av S)
theorem oX(T:Txt w K mg t):Ok P w base T.gU 4 ji:=by
 refine T.gU.F.bG oR ?_;obtain⟨cs,e,⟨hl,hn,hg⟩,q⟩;refine{_,(sc (si (twd<|twor (cM<|tv<|cb dk T.ax aq<|al 0<|ac (t_ T.bw aW) an)<|tw1<|bq ox hr.u (cb aQ T.aM aE<|al 0 an)<|dg (v:=.int 8) T.qE {_,rfl} λ_=>aS _) (s1<|sA ⟨T.dR⟩ T.gT<|ac ds an) s0)<|sc (si (cM<|tv<|cb k_ T.lj gR<|ac (vd (N:=["column"]) (src:=[none]) (kD (ae qD) ["columns"] rfl rfl<|by trivial) (Km<|dv 0) (pT<|show(["column"]:List Str).Nodup by trivial) (aU rfl) aV (λ_ _ _ _ _=>sC) λ_ _ _ _ _=>(aT T.oM (xg T) hr<|al 0 an)) an) (s1<|sA ⟨T.dR⟩ T.gT<|ac ds an) s0)<|s1<|si (bq js hr.u (lse (aT T.m_ (qd T) hr<|al 0 an) T.aM T.N_)<|cb aQ T.aM aE<|al 0 an) (s1<|sA ⟨T.dR⟩ T.gT<|ac ds an) s0),?_};refine !{_,_,_,_,rfl,aX,rfl,_,rfl,?_};have e1:decide ((8:Int)<((cs.map aA).length:Nat))=false:=zq (by rw[za];lia);refine a_ !!!⟨?_⟩;show if decide ((8:Int)<((cs.map aA).length:Nat))=true then _ else _;rw[e1];refine a_ ?_;refine !{_,.inl rfl,?_};refine comp_map (λ_=>.bl true) trivial (by show(cs.map aA).length<=1000;rw[za];lia) (λd hd Q hQ=>?_) λp hp=>?_;obtain⟨c,hc,rfl⟩:=zg.mp hd;exact !{c,rfl,(hg c hc).1,(hg c hc).2,hQ};have e2:(cs.map aA).map (λ_=>D.bl true)=(cs.map λ_=>true).map D.bl:=by rw[zx,zx];rfl
 have e3:(cs.map λ_=>true).all id=true:=by rw[all_map];exact zZ.mpr λ_ _=>rfl
 refine{.ref p,cs.map λ_=>true,rfl,?_,_,rfl,?_};show(S.set p<|.lst<|(cs.map aA).map _) p=_;rw[aa,e2];rw[e3];refine a_ ?_;refine !{cs,rfl,hl,λp2 hG=>?_};refine{cs.map Prod.fst,aa,by rw[za];lia,_,rfl,_,rfl,_,rfl,?_};have e4:decide ((((jb<|cs.map Prod.fst).length:Nat):Int)=(((cs.map aA).length:Nat):Int))=true:=zu (by rw[(u7 _).mpr hn,za,za]);show if (if true=true then !decide ((((jb<|cs.map Prod.fst).length:Nat):Int)=(((cs.map aA).length:Nat):Int)) else _)=true then _ else _;rw[if_pos rfl,e4];exact a_ {S,(Sub.new hp).trans<|.new hG,q}
inductive nC (ds:List D) (S:au) (R:KD) (Z:KX):Prop where
 |mk (cs d) (h0:ds=[.tup<|cs.map aA,d]) (h1:cs.length<=8) (h2:Sf S d) (h3:R (.bl<|nB cs d) S)
theorem uH(T:Txt w K mg t):Ok P w base T.ma 4 nC:=by
 refine T.ma.F.bG uz ?_;obtain⟨cs,d,e,hl,⟨⟨⟨k,hk⟩,hz⟩,hw⟩,q⟩;refine{_,(sc (si (twd<|twor (cM<|tv<|cb dk T.ax aq<|al 1<|ac (t_ T.bw aW) an)<|tw1<|bq js hr.u (cb aQ T.aM aE<|al 1 an)<|cb aQ T.aM aE<|al 0 an) (s1<|sr db) s0)<|s1<|sr<|cb k_ T.lj gR<|ac (vd (N:=["column","value"]) (src:=[none,none]) (kD (ae wB) ["columns","thing"] rfl rfl<|by trivial) (izn T.I_<|al 0<|al 1 an) (W0<|show(["column","value"]:List Str).Nodup by trivial) (qX rfl rfl) rf (λ_ _ _ _ _=>sC) λ_ _ _ _ _=>(aT T.jU (j8 T) hr<|ac (ix hr.u (dv 0) di)<|al 1 an)) an),?_};refine !{_,_,_,_,rfl,aX,hk,_,rfl,?_};rcases QR hk with⟨ws,rfl,h0⟩|⟨h0,h1⟩;obtain⟨hw1,UK⟩:=hw ws rfl;rw[h0];refine a_ !!!!!⟨?_⟩;have e1:decide (((ws.length:Nat):Int)=(((cs.map aA).length:Nat):Int))=decide (ws.length=cs.length):=by rw[yM,za];lia
 unfold nB at q;dsimp only at q;show if (if true=true then !decide (((ws.length:Nat):Int)=(((cs.map aA).length:Nat):Int)) else _)=true then _ else _;rw[if_pos rfl,e1];refine bX (λh=>?_) λh=>?_;rw[nt h,zX]at q;exact fo q;have h:=nf h;rw[h,yb]at q;have h:=zC h;refine !!{cs.map aA,ws,rfl,by rw[za];exact h.symm,?_};refine comp_map pairF trivial (by show(cH (cs.map aA) ws).length<=1000;unfold cH;rw[List.length_zipWith,za];lia) (λd hd Q hQ=>?_) λp hp=>?_;unfold cH at hd;obtain⟨i,ei⟩:=yp hd;obtain⟨x,y,e2,e3,e4⟩:=List.getElem?_zipWith_eq_some.mp ei;subst e4;rw[zk]at e2;cases e5:cs[i]? with|none=>(rw[e5]at e2;cases e2)|some c=>rw[e5]at e2;cases e2;exact !{rfl,_,_,rfl,_,_,rfl,rfl,_,rfl,_,rfl,_,rfl,c.2,y,rfl,UK y<|zy e3,hQ}
 refine{.ref p,List.zipWith (λc v=>jv c.2 v) cs ws,rfl,?_,S,.new hp,q};show(S.set p<|.lst<|(cH (cs.map aA) ws).map pairF) p=_;rw[aa,Gy λ_ _=>rfl];rw[h0];have e:nB cs d=false:=by cases d with|tup ws=>exact absurd rfl (h1 ws)|_=>rfl
 rw[e]at q;exact dG<|dG<|fo q
inductive qf (t:fk) (ds:List D) (S:au) (R:KD) (Z:KX):Prop where
 |mk (cs k v) (h0:ds=[.tup<|cs.map aA,.tup [k,v]]) (h1:cs.length<=8) (h2:Gt S k) (h3:Sf S v) (h4:(oV cs k v=true->R .av S)) (h5:(oV cs k v=false->Z t.ig S))
theorem nD(T:Txt w K mg t):Ok P w base T.kH 5 (qf t):=by refine T.kH.F.bG wZ ?_;obtain⟨cs,k,v,e,hl,hk,hv,q1,q2⟩;refine{_,(sc (si (twd<|twor (cM<|tv<|cb dk T.ax aq<|al 1<|ac (t_ T.bw aW) an)<|tw1<|bq js hr.u (cb aQ T.aM aE<|al 1 an) di) (s1<|sA ⟨T.ik⟩ T.kG<|ac ds an) s0)<|sc (si (cM<|tv<|aT T.l_ (iw T) hr<|ac (ix hr.u (dv 1) di) an) (s1<|sA ⟨T.ik⟩ T.kG<|ac ds an) s0)<|s1<|si (cM<|tv<|aT T.ma (uH T) hr<|al 0<|ac (ix hr.u (dv 1) di) an) (s1<|sA ⟨T.ik⟩ T.kG<|ac ds an) s0),?_};refine !{_,_,_,_,rfl,aX,rfl,_,rfl,?_};refine a_ !!!⟨a_ ?_⟩;refine !!{k,rfl,hk,_,rfl,?_};unfold oV at q1 q2;refine bX (λh=>?_) λh=>?_;rw[nt h,zX]at q2;exact{sm<|by decide,fo<|q2 rfl};rw[nf h,yb]at q1 q2;refine !!!{cs,v,rfl,hl,hv,_,rfl,?_};refine bX (λh=>?_) λh=>?_;exact{sm<|by decide,fo<|q2<|nt h};exact fo<|q1<|nf h
theorem bg(h:n<=100000):n<sizeLine:=by rw[ye];lia
structure Std where
 b:Nat
 e:Option Nat
 ws:List D
def eD:Option Nat->D|none=>.av|some n=>.int (n:Nat)
def j9(s:Std):D:=.tup [.int (s.b:Nat),eD s.e,.tup s.ws]
noncomputable def Jf:List Std->Int->D|[],_=>.av|s::r,m=>if (s.b:Int)<=m then (match s.e with|none=>.tup s.ws|some n=>if m<=(n:Int) then .tup s.ws else .av) else Jf r m
noncomputable def wt(l:List Std)(m:Int):D:=Jf l.reverse m
abbrev Ra:=List<|Str×Addr×List Std
abbrev jx:=List<|Str×List Std
def iy(ra:Ra):jx:=ra.map λr=>(r.1,r.2.2)
def dZ(ra:Ra):List (Key×D):=ra.map λr=>(Sum.inr r.1,D.ref r.2.1)
noncomputable def lu(rs:jx)(k:Str):Option (List Std):=(rs.find? λr=>decide<|r.1=k).map (·.2)
noncomputable def ub(ra:Ra)(k:Str):Option (Addr×List Std):=(ra.find? λr=>decide<|r.1=k).map (·.2)
noncomputable def uc(ra:Ra)(k:Str)(s:List Std):Ra:=ra.map λr=>if r.1=k then (r.1,r.2.1,s) else r
noncomputable def C6(rs:jx)(k:Str)(s:List Std):jx:=if (lu rs k).isSome then rs.map λr=>if r.1=k then (r.1,s) else r else rs++[(k,s)]
theorem gY(ra:Ra)(k:Str):lu (iy ra) k=(ub ra k).map (·.2):=by unfold lu ub iy;induction ra with|nil=>rfl|cons r ra ih=>rw[zI,z0,z0];by_cases h:r.1=k;rw[zu h];rfl;rw[zq h];exact ih
theorem iz(ra:Ra)(k:Str):bZ (dZ ra) (.inr k)=(ub ra k).map λp=>D.ref p.1:=by unfold bZ ub dZ;induction ra with|nil=>rfl|cons r ra ih=>rw[zI,z0,z0];by_cases h:r.1=k;rw[zu h];have:decide ((Sum.inr r.1:Key)=.inr k)=true:=zu (by rw[h]);dsimp only;rw[this];rfl;rw[zq h];have:decide ((Sum.inr r.1:Key)=.inr k)=false:=zq λe=>h<|yN e;dsimp only;rw[this];exact ih
theorem dE(h:ub ra k=some (l,s)):(k,l,s)∈ra:=by unfold ub at h;cases q:ra.find? λr=>decide (r.1=k) with|none=>(rw[q]at h;cases h)|some r=>rw[q]at h;have h1:=List.find?_some q;have h2:=List.mem_of_find?_eq_some q;obtain⟨k',l',s'⟩:=r;have e:k'=k:=zC h1;cases h;rw[<-e];exact h2
theorem nE(h:ub ra k=none):∀r∈ra,r.1≠k:=by unfold ub at h;intro r hr e;have:=List.find?_eq_none.mp (Option.map_eq_none_iff.mp h) r hr;simp[e]at this
theorem gI:∀{l:List α}{x y:α},(l.map f).Nodup->x∈l->y∈l->f x=f y->x=y|z::l,x,y,nd,hx,hy,e=>by rw[zI]at nd;obtain⟨n1,n2⟩:=yo.mp nd;rcases zh.mp hx with ex|HW;rcases zh.mp hy with ey|TC;rw[ex,ey];exact absurd (zg.mpr {y,TC,by rw[<-e,ex]}) n1;rcases zh.mp hy with ey|TC;exact absurd (zg.mpr {x,HW,by rw[e,ey]}) n1;exact gI n2 HW TC e
structure C7(C:Addr)(S:au)(a ld lr:Addr)(cs:List (Str×Str))(dl:List D)(ra:Ra):Prop where
 ins:S a=some (.ins C [("columns",.tup<|cs.map aA),("deeds",.ref ld),("runs",.ref lr)])
 AQ:S ld=some (.lst dl)
 run:S lr=some (.cO<|dZ ra)
 cell:∀r∈ra,S r.2.1=some (.lst<|r.2.2.map j9)
 kn:(ra.map (·.1)).Nodup
 an:(ld::ra.map (·.2.1)).Nodup
 sz:∀r∈ra,r.2.2.length<=dl.length
def fp(a ld lr:Addr)(ra:Ra):List Addr:=a::ld::lr::ra.map (·.2.1)
def cq(C:Addr)(S:au)(a:Addr)(F:List Addr)(cs:List<|Str×Str)(dl:List D)(rs:jx):Prop:=∃ld lr ra,C7 C S a ld lr cs dl ra/\F=fp a ld lr ra/\rs=iy ra
def C8(F F':List Addr)(S S':au):Prop:=∀b c,b∉F->S b=some c->b∉F'/\S' b=some c
theorem C8.trans(a:C8 F F1 S S1)(b:C8 F1 F2 S1 S2):C8 F F2 S S2:=λp c h e=>by obtain⟨h1,e1⟩:=a p c h e;exact b p c h1 e1
section
variable{C a ld lr:Addr}{S:au}{cs:List (Str×Str)}{dl:List D}{ra:Ra}
theorem C7.C9(h:C7 C S a ld lr cs dl ra){l:Addr}{ds:List D}(e:S l=some (.lst ds)):l≠a/\l≠lr:=by constructor;rintro rfl;rw[h.ins]at e;cases e;rintro rfl;rw[h.run]at e;cases e
theorem C7.put(h:C7 C S a ld lr cs dl ra)(hk:ub ra k=some (l,s))(hs:s'.length<=dl.length):C7 C (S.set l<|.lst<|s'.map j9) a ld lr cs dl (uc ra k s'):=by
 have hm:=dE hk;have hl:=h.cell _ hm;obtain⟨n1,n2⟩:=h.C9 hl;obtain⟨Z5,nd2⟩:=yo.mp h.an;have n3:l≠ld:=λe=>Z5 (by rw[<-e];exact zg.mpr {_,hm,rfl});have e1:(uc ra k s').map (·.1)=ra.map (·.1):=by unfold uc;rw[zx];exact zU λr _=>by dsimp only[Function.comp];split<;>rfl
 have e2:(uc ra k s').map (·.2.1)=ra.map (·.2.1):=by unfold uc;rw[zx];exact zU λr _=>by dsimp only[Function.comp];split<;>rfl
 have e3:dZ (uc ra k s')=dZ ra:=by unfold dZ uc;rw[zx];exact zU λr _=>by dsimp only[Function.comp];split<;>rfl
 refine{by rw[ag n1.symm];exact h.ins,by rw[ag n3.symm];exact h.AQ,by rw[ag n2.symm,e3];exact h.run,λr hr=>?_,by rw[e1];exact h.kn,by rw[e2];exact h.an,λr hr=>?_};unfold uc at hr;obtain⟨r0,xX,e⟩:=zg.mp hr;by_cases q:r0.1=k;rw[if_pos q]at e;have er:r0=(k,l,s):=gI h.kn xX hm q;subst er e;rw[aa];rw[if_neg q]at e;subst e;have:r0.2.1≠l:=λe=>q (by have:=gI nd2 xX hm e;rw[this]);rw[ag this];exact h.cell _ xX;unfold uc at hr;obtain⟨r0,xX,e⟩:=zg.mp hr;by_cases q:r0.1=k;rw[if_pos q]at e;subst e;exact hs;rw[if_neg q]at e;subst e;exact h.sz _ xX
theorem C7.add(h:C7 C S a ld lr cs dl ra)(hk:ub ra k=none)(hl:S l=none)(hs:s.length<=dl.length)(e1:S' l=some (.lst<|s.map j9))(e2:S' lr=some (.cO<|dZ<|ra++[(k,l,s)]))(e3:∀b,b≠l->b≠lr->S' b=S b):C7 C S' a ld lr cs dl (ra++[(k,l,s)]):=by
 have n1:a≠l:=ib h.ins hl;have n2:ld≠l:=ib h.AQ hl;have n3:a≠lr:=by rintro rfl;have:=h.run;rw[h.ins]at this;cases this
 have n4:ld≠lr:=by rintro rfl;have:=h.run;rw[h.AQ]at this;cases this
 refine{by rw[e3 _ n1 n3];exact h.ins,by rw[e3 _ n2 n4];exact h.AQ,e2,λr hr=>?_,?_,?_,λr hr=>?_};rcases zP.mp hr with hr|hr;have hc:=h.cell r hr;rw[e3 _ (ib hc hl) (h.C9 hc).2];exact hc;rw[zE.mp hr];exact e1;rw[zG];exact mM h.kn λm=>by obtain⟨r,hr,e⟩:=zg.mp m;exact nE hk r hr e
 rw[zG,<-List.cons_append];refine mM h.an λm=>?_;rcases zh.mp m with e|m;exact n2 e.symm;obtain⟨r,hr,e⟩:=zg.mp m;exact ib (h.cell r hr) hl e;rcases zP.mp hr with hr|hr;exact h.sz r hr;rw[zE.mp hr];exact hs
theorem C7.QS(h:C7 C S a ld lr cs dl ra)(d:D):C7 C (S.set ld<|.lst<|dl++[d]) a ld lr cs (dl++[d]) ra:=by obtain⟨n1,n2⟩:=h.C9 h.AQ;obtain⟨Z5,nd2⟩:=yo.mp h.an;refine{by rw[ag n1.symm];exact h.ins,aa,by rw[ag n2.symm];exact h.run,λr hr=>?_,h.kn,h.an,λr hr=>by rw[zt];exact zK (h.sz r hr)<|Nat.le_add_right _ _};rw[ag λe=>Z5<|by rw[<-e];exact zg.mpr ⟨r,hr,rfl⟩];exact h.cell r hr
end
def Vz(C:Addr):kO:=λds S R _=>∃a F cs dl rs,ds=[.ref a]/\cq C S a F cs dl rs/\R (.int (dl.length:Nat)) S
theorem xh(T:Txt w K mg t):rh P w mg base T.fB 1 (Vz t.ak):=by refine T.fB.F.bG xb ?_;obtain⟨a,F,cs,dl,rs,e,⟨ld,lr,ra,h,_⟩,q⟩;refine{_,(s1<|sr<|cb aQ T.aM aE<|ac (fl T.aj T.cQ<|dv 0) an),?_};exact !{a,_,_,rfl,h.ins,rfl,_,rfl,.inl {dl,h.AQ,fo q}}
inductive fj (t:fk) (ds:List D) (S:au) (R:KD) (Z:KX):Prop where
 |mk (a F cs dl rs) (h0:ds=[.ref a]) (h1:cq t.ak S a F cs dl rs) (h2:R (.tup<|cs.map aA) S)
theorem aN(T:Txt w K mg t):rh P w mg base T.az 1 (fj t):=by refine T.az.F.bG j6 ?_;obtain⟨a,F,cs,dl,rs,e,⟨ld,lr,ra,h,_⟩,q⟩;refine{_,(s1<|sr<|fl T.aj T.df<|dv 0),?_};exact !{a,_,_,rfl,h.ins,rfl,fo q}
noncomputable def uI(n:Nat):D->Option Int|.av=>some n|.int i=>(if 0<=i/\i<=(n:Int) then some i else none)|_=>none
def Mt(C N:Addr):kO:=λds S R Z=>∃a F cs dl rs m,ds=[.ref a,m]/\cq C S a F cs dl rs/\Gt S m/\(∀i,uI dl.length m=some i->R (.int i) S)/\(uI dl.length m=none->Z N S)
theorem jj(T:Txt w K mg t):rh P w mg base T.cy 2 (Mt t.ak t.fN):=by
 refine T.cy.F.bG ju ?_;obtain⟨a,F,cs,dl,rs,m,e,hS,hm,q1,q2⟩;obtain⟨ld,lr,ra,h,hF,ua⟩:=id hS;refine{_,(sc (si (bq jr hr.u (dv 1) dn) (s1<|sr<|fI (dv 0) T.aj T.fB (xh T) hr) s0)<|sc (si (twd<|twor (cM<|tv<|aT T.jT (j7 T) hr<|al 1 an)<|tw1<|cM<|WO jH jH hr.u di (dv 1)<|fI (dv 0) T.aj T.fB (xh T) hr) (s1<|sA ⟨T.l9⟩ T.AH<|ac ds an) s0)<|s1<|sr<|dv 1),?_};refine !!⟨?_⟩;refine bX (λh1=>?_) λh1=>?_;have e:m=.av:=by cases m<;>first|rfl|cases h1
 subst e;exact !{a,_,rfl,h.ins,rfl,a,F,cs,dl,rs,rfl,hS,fo<|q1 _ rfl};refine !{m,rfl,hm,_,rfl,?_};refine bX (λh2=>?_) λh2=>?_;have h2:=nt h2;have e:uI dl.length m=none:=by cases m with|av=>(cases h1)|int i=>(cases h2)|_=>rfl
 exact dG {sm<|by decide,fo<|q2 e};have h2:=nf h2;obtain⟨i,rfl⟩:∃i,m=.int i:=by cases m<;>first|exact{_,rfl}|cases h2
 refine !!⟨?_⟩;refine bX (λh3=>?_) λh3=>?_;have h3:0<=i:=zC h3;refine !{a,_,rfl,h.ins,rfl,a,F,cs,dl,rs,rfl,hS,_,rfl,?_};refine bX (λh4=>?_) λh4=>?_;have h4:¬i<=((dl.length:Nat):Int):=yd<|nt h4;exact{sm<|by decide,fo<|q2<|if_neg λz=>h4 z.2};have h4:i<=((dl.length:Nat):Int):=zC<|nf h4;exact{_,rfl,fo<|q1 i<|if_pos ⟨h3,h4⟩};have h3:¬0<=i:=yd h3;exact{_,rfl,dG {sm<|by decide,fo<|q2<|if_neg λz=>h3 z.1}}
inductive lE (ds:List D) (S:au) (R:KD) (Z:KX):Prop where
 |mk (l vB m) (h0:ds=[.ref l,.int m]) (h1:S l=some (.lst<|vB.map j9)) (h2:R (wt vB m) S)
theorem j_(T:Txt w K mg t):Ok P w base T.gF 1 lE:=by
 refine T.gF.F.bG j5 ?_;obtain⟨l,vB,m,e,hl,q⟩;refine{_,(sc (Bv<|Ko (irv T.sT<|al 0 an) (gn (i:=2) j5.nd)<|s1<|si (bq jH hr.u (ix hr.u (dv 2) di)<|dv 1) (s1<|sr<|LP (twd<|twor (bq jr hr.u (ix hr.u (dv 2) di) dn)<|tw1<|bq jH hr.u (dv 1)<|ix hr.u (dv 2) di) (ix hr.u (dv 2) di) dn) s0)<|s1<|sr dn),?_};refine{λaI S'=>S'=S/\wt vB m=.av,?_,?_};refine !{_,_,rfl,hl,?_};refine{λi aI S'=>(∃o,aI=[some<|.ref l,some<|.int m,o])/\S'=S/\wt vB m=Jf (vB.reverse.drop i) m,{⟨none,rfl⟩,rfl,by rw[List.drop_zero];rfl},λi aI S' h=>by rw[h.2.1];exact hl,?_,?_};rintro i d aI S' hd ⟨⟨o,rfl⟩,rfl,hw⟩;rw[<-List.map_reverse,zk]at hd;cases e1:vB.reverse[i]? with|none=>(rw[e1]at hd;cases hd)|some sd=>rw[e1]at hd;cases hd;have e2:vB.reverse.drop i=sd::vB.reverse.drop (i+1):=(by obtain⟨hi,e⟩:=ze.mp e1;rw[List.drop_eq_getElem_cons hi,e]);obtain⟨sb,se,sw⟩:=sd;rw[e2]at hw;refine !!!!⟨?_⟩;unfold Jf at hw;refine bX (λh=>?_) λh=>?_;rw[if_pos<|zC h]at hw;refine !!!⟨?_⟩;(cases se with|none=>refine dG<|dG !!⟨?_⟩;rw[hw]at q;exact fo q|some n=>refine a_ !!!!⟨?_⟩;dsimp only at hw;refine bX (λh=>?_) λh=>?_;rw[if_pos<|zC h]at hw;rw[hw]at q;exact !!⟨fo q⟩;rw[if_neg<|yd h]at hw;rw[hw]at q;exact fo q);rw[if_neg<|yd h]at hw;exact{{_,rfl},rfl,hw}
 rintro aI S' ⟨_,rfl,hw⟩;refine fo {rfl,?_};rw[hw,yC,za,List.drop_eq_nil_of_le<|by rw[yC];exact zr _];rfl;rintro aI S' ⟨rfl,hw⟩;rw[hw]at q;exact fo q
noncomputable def Bx(rs:jx)(k:D)(i:Int):D:=match k with|.str z=>(if kW z=true then wt ((lu rs z).getD []) i else .av)|_=>.av
def VA(C N:Addr):kO:=λds S R Z=>∃a F cs dl rs k m,ds=[.ref a,k,m]/\cq C S a F cs dl rs/\Gt S k/\Gt S m/\(∀i,uI dl.length m=some i->R (Bx rs k i) S)/\(uI dl.length m=none->Z N S)
theorem nF(T:Txt w K mg t):rh P w mg base T.dD 3 (VA t.ak t.fN):=by
 refine T.dD.F.bG fX ?_;obtain⟨a,F,cs,dl,rs,k,m,e,hS,hk,hm,q1,q2⟩;obtain⟨ld,lr,ra,h,hF,ua⟩:=id hS;refine{_,(sc (bO (i:=3) fX.nd<|oG (dv 0) T.aj T.cy (jj T) hr<|al 2 an)<|sc (si (cM<|tv<|aT T.l_ (iw T) hr<|al 1 an) (s1<|sr dn) s0)<|s1<|sr<|aT T.gF (j_ T) hr<|ac (mg2 hr.u (fl T.aj T.bS<|dv 0) (dv 1)<|cB an)<|al 3 an),?_};refine !{a,_,rfl,h.ins,rfl,_,rfl,a,F,cs,dl,rs,m,rfl,hS,hm,λi hi=>?_,λhn=>fo<|q2 hn};have q:=q1 i hi;refine !{k,rfl,hk,_,rfl,?_};refine bX (λh1=>?_) λh1=>?_;have e:Bx rs k i=.av:=by cases k with|str z=>exact if_neg (by rw[show kW z=false from nt h1];exact zd)|_=>rfl
 rw[e]at q;exact fo q;have h1:=nf h1;obtain⟨z,rfl⟩:∃z,k=.str z:=by cases k with|str z=>exact⟨z,rfl⟩|_=>cases h1
 have e:Bx rs (.str z) i=wt ((lu rs z).getD []) i:=if_pos h1;rw[e]at q;refine !{a,_,_,rfl,h.ins,rfl,lr,_,rfl,h.run,_,rfl,sm<|by decide,λp hp=>{dZ ra,.inr z,?_,rfl,?_}};rw[ag<|ib h.run hp];exact h.run;rw[iz];refine{_,rfl,?_};cases e1:ub ra z with|none=>have e2:lu rs z=none:=(by rw[ua,gY,e1];rfl);rw[e2]at q;exact{p,[],i,rfl,aa,S,.new hp,q}|some ls=>obtain⟨l,vB⟩:=ls;have e2:lu rs z=some vB:=(by rw[ua,gY,e1];rfl);rw[e2]at q;have hc:=h.cell _<|dE e1;exact{l,vB,i,rfl,by rw[ag<|ib hc hp];exact hc,S,.new hp,q}
theorem Oc(h:ub ra k=some (l,s)):C6 (iy ra) k s'=iy (uc ra k s'):=by unfold C6;rw[gY,h,if_pos<|show(Option.map (λx:Addr×List Std=>x.2)<|some (l,s)).isSome=true from rfl];unfold iy uc;rw[zx,zx];exact zU λr _=>by dsimp only[Function.comp];split<;>rfl
theorem QT(h:ub ra k=none):C6 (iy ra) k s=iy (ra++[(k,l,s)]):=by unfold C6;rw[gY,h,if_neg<|show ¬(Option.map (λx:Addr×List Std=>x.2) none).isSome=true from zd];unfold iy;rw[zG];rfl
theorem QU(h:ub ra k=none):dput (dZ ra) (.inr k) (.ref l)=dZ (ra++[(k,l,s)]):=by
 unfold dput;have e:((dZ ra).any λkv=>decide<|kv.1=.inr k)=false:=by rw[List.any_eq_false];intro x hx;unfold dZ at hx;obtain⟨r,hr,rfl⟩:=zg.mp hx;simp only[zY];exact λe=>nE h r hr<|yN e
 rw[e,if_neg zd];unfold dZ;rw[zG];rfl
theorem Jg:fp a ld lr (uc ra k s)=fp a ld lr ra:=by unfold fp uc;rw[zx];congr 3;exact zU λr _=>by dsimp only[Function.comp];split<;>rfl
theorem tG(h:l∈F):C8 F F S (S.set l c):=λb x hb e=>{hb,by rw[ag<|show b≠l from λz=>hb<|by rw[z];exact h];exact e}
theorem Jh(h:r∈ra):r.2.1∈fp a ld lr ra:=zi _<|zi _<|zi _<|zg.mpr ⟨r,h,rfl⟩
def Mu(C:Addr):kO:=λds S R _=>∃a F cs dl rs z ws,ds=[.ref a,.str z,.tup ws]/\cq C S a F cs dl rs/\((lu rs z).getD []).length<dl.length/\dl.length<=9000/\rs.length<=9000/\∀S' F',cq C S' a F' cs dl (C6 rs z<|(lu rs z).getD []++[Std.mk dl.length none ws])->C8 F F' S S'->R .av S'
theorem AR(T:Txt w K mg t):rh P w mg base T.bP 2 (Mu t.ak):=by
 refine T.bP.F.bG ir ?_;rintro _ _ _ _ _ _ _ S R Z hr ⟨a,F,cs,dl,rs,z,ws,e,⟨ld,lr,ra,h,hF,ua⟩,hl,hd,hn,q⟩;subst e hF ua;have Nh:(dZ ra).length<=9000:=by unfold iy at hn;unfold dZ;rw[za]at hn⊢;exact hn
 refine{_,(s1<|se<|bm zN zV zW cC (ms2 (fl T.aj T.bS<|dv 0) (dv 1)<|cB an)<|ac (cN<|ac (fI (dv 0) T.aj T.fB (xh T) hr)<|ac dn<|al 2 an) an),?_};refine !{a,_,_,rfl,h.ins,rfl,lr,dZ ra,rfl,h.run,_,rfl,sm<|by decide,λp hp=>{dZ ra,.inr z,?_,rfl,bg<|by lia,λd rG=>?_,λhn=>?_}};rw[ag<|ib h.run hp];exact h.run;rw[iz]at rG;cases e1:ub ra z with|none=>(rw[e1]at rG;cases rG)|some ls=>obtain⟨l,vB⟩:=ls;rw[e1]at rG;cases rG;have e2:lu (iy ra) z=some vB:=(by rw[gY,e1];rfl);rw[e2]at q hl;have hc:=h.cell _<|dE e1;have KL:(S.set p<|.lst []) l=some (.lst<|vB.map j9):=(by rw[ag<|ib hc hp];exact hc);have hi':(S.set p<|.lst []) a=some (.ins t.ak [("columns",.tup<|cs.map aA),("deeds",.ref ld),("runs",.ref lr)]):=(by rw[ag<|ib h.ins hp];exact h.ins);have q_:C7 t.ak (S.set p<|.lst []) a ld lr cs dl ra:={hi',by rw[ag<|ib h.AQ hp];exact h.AQ,by rw[ag<|ib h.run hp];exact h.run,λr hr=>by rw[ag<|ib (h.cell r hr) hp];exact h.cell r hr,h.kn,h.an,h.sz};refine{{rfl,_,KL},_,rfl,a,_,rfl,hi',rfl,a,_,cs,dl,_,rfl,⟨ld,lr,ra,q_,rfl,rfl⟩,_,rfl,uF,?_};have hle:vB.length<dl.length:=hl;refine{l,vB.map j9,_,rfl,rfl,KL,bg<|by rw[za];lia,S.set l<|.lst<|(vB++[Std.mk dl.length none ws]).map j9,λb c hb=>?_,q _ _ {ld,lr,_,h.put e1<|by rw[zt];show vB.length+1<=_;lia,rfl,Oc e1} ?_};by_cases Z6:b=l;subst Z6;rw[aa]at hb⊢;rw[zG]at hb;exact hb;rw[ag Z6]at hb;rw[ag Z6,ag<|ib hb hp];exact hb;rw[Jg];exact tG<|Jh<|dE e1
 rw[iz]at hn;cases e1:ub ra z with|some ls=>(rw[e1]at hn;cases hn)|none=>have e2:lu (iy ra) z=none:=(by rw[gY,e1];rfl);rw[e2]at q hl;have npr:p≠lr:=(ib h.run hp).symm;generalize AS:(S.set p<|.lst []).set lr _=S1;have Z7:S1 p=some (.lst []):=(by rw[<-AS,ag npr,aa]);have s1r:S1 lr=some (.cO<|dZ<|ra++[(z,p,[])]):=(by rw[<-AS,aa,QU e1]);have Z8:∀b,b≠p->b≠lr->S1 b=S b:=λb h1 h2=>(by rw[<-AS,ag h2,ag h1]);have q_:C7 t.ak S1 a ld lr cs dl (ra++[(z,p,[])]):=h.add e1 hp (zT _) Z7 s1r Z8;refine{{rfl,_,Z7},_,rfl,a,_,rfl,q_.ins,rfl,a,_,cs,dl,_,rfl,{ld,lr,_,q_,rfl,rfl},_,rfl,uF,?_};refine{p,[],_,rfl,rfl,Z7,bg<|by show 0<=_;lia,S1.set p<|.lst<|[Std.mk dl.length none ws].map j9,.refl _,q _ _ {ld,lr,ra++[(z,p,[Std.mk dl.length none ws])],h.add e1 hp (by show 1<=_;have:0<dl.length:=hl;lia) aa ?_ λb h1 h2=>by rw[ag h1];exact Z8 b h1 h2,rfl,QT e1} ?_};rw[ag npr.symm,s1r];unfold dZ;rw[zG,zG];rfl;intro b c hb e;have h1:b≠p:=ib e hp;have h2:b≠lr:=λz=>hb (by rw[z];exact zi _<|zi _ zo);refine{λm=>?_,by rw[ag h1,Z8 b h1 h2];exact e};unfold fp at m hb;rw[zG]at m;rcases zh.mp m with m|m;exact hb<|m ▸ zo;rcases zh.mp m with m|m;exact hb<|m ▸ zi _ zo;rcases zh.mp m with m|m;exact h2 m;rcases zP.mp m with m|m;exact hb<|zi _<|zi _<|zi _ m;exact h1<|zE.mp m
noncomputable def i5(n:Nat)(l:List Std):List Std:=l.dropLast++(l.getLast?.map λs=>Std.mk s.b (some n) s.ws).toList
noncomputable def mn(rs:jx)(z:Str)(n:Nat):jx:=C6 rs z<|i5 n<|(lu rs z).getD []
noncomputable def uJ(rs:jx)(z:Str)(n:Nat)(ws:List D):jx:=C6 rs z<|(lu rs z).getD []++[Std.mk n none ws]
theorem Ji(h:cq C S a F cs dl rs)(z:Str):((lu rs z).getD []).length<=dl.length:=by obtain⟨ld,lr,ra,h,_,rfl⟩:=h;rw[gY];cases e:ub ra z with|none=>exact zT _|some ls=>exact h.sz _<|dE (l:=ls.1) (s:=ls.2) e
theorem Mv(rs:jx)(z:Str)(s:List Std):(C6 rs z s).length<=rs.length+1:=by unfold C6;split;rw[za];lia;rw[zt];exact zr _
theorem ft:lu (r::rs) k=if r.1=k then some r.2 else lu rs k:=by unfold lu;rw[z0];by_cases h:r.1=k;rw[zu h,if_pos h];rfl;rw[zq h,if_neg h]
theorem ke:lu (C6 rs z s) k=if k=z then some s else lu rs k:=by
 unfold C6;by_cases hs:(lu rs z).isSome=true;rw[if_pos hs];by_cases hk:k=z;subst hk;rw[if_pos rfl];induction rs with|nil=>(cases hs)|cons r rs ih=>rw[zI,ft];by_cases h:r.1=k;rw[if_pos h,if_pos h];rw[if_neg h,if_neg h];rw[ft,if_neg h]at hs;exact ih hs
 rw[if_neg hk];clear hs;induction rs with|nil=>rfl|cons r rs ih=>rw[zI,ft,ft,ih];by_cases h:r.1=z;rw[if_pos h,if_neg<|show ¬r.1=k from λe=>hk<|e.symm.trans h,if_neg<|show ¬r.1=k from λe=>hk<|e.symm.trans h];rw[if_neg h]
 rw[if_neg hs];have hn:lu rs z=none:=by cases e:lu rs z<;>simp_all
 clear hs;induction rs with|nil=>rw[List.nil_append,ft];by_cases hk:k=z;rw[if_pos hk,if_pos hk.symm];rw[if_neg hk,if_neg λe=>hk e.symm]|cons r rs ih=>rw[ft]at hn;by_cases h:r.1=z;rw[if_pos h]at hn;cases hn;rw[if_neg h]at hn;rw[List.cons_append,ft,ft,ih hn];by_cases h2:r.1=k;rw[if_pos h2,if_pos h2,if_neg<|show ¬k=z from λe=>h<|h2.trans e];rw[if_neg h2,if_neg h2]
def VB(C:Addr):kO:=λds S R _=>∃a F cs dl rs z,ds=[.ref a,.str z]/\cq C S a F cs dl rs/\(∃s,lu rs z=some s/\s≠[])/\dl.length<=9000/\∀S',cq C S' a F cs dl (mn rs z dl.length)->C8 F F S S'->R .av S'
theorem kJ(h:l≠[]):∃r s,l=r++[s]:={l.dropLast,l.getLast h,(List.dropLast_concat_getLast h).symm}
theorem eY(n:Nat)(r:List Std)(s:Std):i5 n (r++[s])=r++[Std.mk s.b (some n) s.ws]:=by unfold i5;rw[List.dropLast_concat,List.getLast?_concat];rfl
theorem Jj(T:Txt w K mg t):rh P w mg base T.cw 2 (VB t.ak):=by refine T.cw.F.bG eC ?_;rintro _ _ _ _ _ _ _ S R Z hr ⟨a,F,cs,dl,rs,z,e,⟨ld,lr,ra,h,hF,ua⟩,⟨s0,RW,EC⟩,hd,q⟩;subst e hF ua;rw[gY]at RW;cases e1:ub ra z with|none=>(rw[e1]at RW;cases RW)|some ls=>obtain⟨l,vB⟩:=ls;rw[e1]at RW;cases RW;obtain⟨r,sd,rfl⟩:=kJ EC;have hlen:=h.sz _<|dE e1;dsimp only at hlen;rw[zt]at hlen;have hlen:r.length+1<=dl.length:=hlen;have hc:=h.cell _<|dE e1;dsimp only at hc;have ed:bZ (dZ ra) (.inr z)=some (.ref l):=(by rw[iz,e1];rfl);refine{_,(sc (bO (i:=2) eC.nd<|bm0 zN PySem.F.slot_list_pop PySem.F.type_list_pop Uw<|ix hr.u (fl T.aj T.bS<|dv 0)<|dv 1)<|s1<|se<|bm zN zV zW cC (ix hr.u (fl T.aj T.bS<|dv 0)<|dv 1)<|ac (cN<|ac (ix hr.u (dv 2) di)<|ac (fI (dv 0) T.aj T.fB (xh T) hr)<|ac (ix hr.u (dv 2) di) an) an),?_};refine !{a,_,_,rfl,h.ins,rfl,_,rfl,dZ ra,_,h.run,ed,{rfl,_,hc},l,_,j9 sd,rfl,rfl,hc,?_,?_};rw[zG,zt];show(r.map j9++[j9 sd])[(r.map j9).length+1-1]?=_;simp;have e2:((r++[sd]).map j9).dropLast=r.map j9:=(by rw[zG];exact List.dropLast_concat);rw[e2];have h1:C7 t.ak (S.set l<|.lst<|r.map j9) a ld lr cs dl (uc ra z r):=h.put e1 (by lia);generalize AS:S.set l _=S1 at h1;have VC:ub (uc ra z r) z=some (l,r):=(by have hm:(z,l,r)∈uc ra z r:=(by unfold uc;exact zg.mpr {_,dE e1,if_pos rfl});cases e3:ub (uc ra z r) z with|none=>exact absurd rfl (nE e3 _ hm)|some x=>exact congrArg some<|congrArg Prod.snd<|gI (f:=λr:Str×Addr×List Std=>r.1) h1.kn (dE (l:=x.1) (s:=x.2) e3) hm rfl);have ed':bZ (dZ<|uc ra z r) (.inr z)=some (.ref l):=(by rw[iz,VC];rfl);have Xh:=h1.cell _<|dE VC;refine !{a,_,_,rfl,h1.ins,rfl,_,rfl,_,_,h1.run,ed',{rfl,_,Xh},_,rfl,_,rfl,_,rfl,a,_,rfl,h1.ins,rfl,a,_,cs,dl,_,rfl,{ld,lr,_,h1,rfl,rfl},_,rfl,_,rfl,uF,l,_,_,rfl,rfl,Xh,bg<|by rw[za];show r.length<=_;lia,?_};have h2:=h1.put (s':=r++[Std.mk sd.b (some dl.length) sd.ws]) VC (by rw[zt];exact hlen);have e4:mn (iy ra) z dl.length=iy (uc (uc ra z r) z<|r++[Std.mk sd.b (some dl.length) sd.ws]):=(by unfold mn;rw[gY,e1];show C6 (iy ra) z (i5 dl.length<|r++[sd])=_;rw[eY,Oc e1];unfold iy uc;rw[zx,zx,zx];exact zU λx _=>by dsimp only[Function.comp];by_cases hx:x.1=z<;>simp[hx]);refine{_,?_,q _ {ld,lr,_,h2,by rw[Jg,Jg],e4} ?_};show Sub (S1.set l<|.lst<|(r++[_]).map j9) (S1.set l<|.lst<|r.map j9++[_]);rw[zG];exact .refl _;rw[<-AS,bj];exact tG<|Jh<|dE e1
theorem ED(h:ofStr kW d=true):∃z,d=.str z/\kW z=true:=by cases d with|str z=>exact⟨z,rfl,h⟩|_=>cases h
theorem EF(h:oV cs k v=true):∃z ws,k=.str z/\v=.tup ws/\kW z=true:=by unfold oV at h;rw[zO]at h;obtain⟨z,rfl,hz⟩:=ED h.1;cases v with|tup ws=>exact⟨z,ws,rfl,rfl,hz⟩|_=>exact absurd h.2 zd
theorem tH:Gt S .av:={{.av,rfl},λ_=>nofun}
theorem Od(h:ai (wt l m)=false):l≠[]:=by rintro rfl;cases h
theorem xk(hz:kW z=true)(i:Int):Bx rs (.str z) i=wt ((lu rs z).getD []) i:=if_pos hz
inductive eZ (t:fk) (ds:List D) (S:au) (R:KD) (Z:KX):Prop where
 |mk (a F cs dl rs k) (h0:ds=[.ref a,k]) (h1:cq t.ak S a F cs dl rs) (h2:Gt S k) (h3:(ai (Bx rs k dl.length)=false->R .av S)) (h4:(ai (Bx rs k dl.length)=true->Z t.mY S))
theorem jk(T:Txt w K mg t):rh P w mg base T.cu 4 (eZ t):=by refine T.cu.F.bG jt ?_;obtain⟨a,F,cs,dl,rs,k,e,hS,hk,q1,q2⟩;obtain⟨ld,lr,ra,h,_⟩:=id hS;refine{_,(s1<|si (bq jr hr.u (Zd (dv 0) T.aj T.dD.e ((nF T).mono<|by decide) hr T.fh d1<|al 1 an) dn) (s1<|sA ⟨T.wJ⟩ T.Ja<|ac ds an) s0),?_};refine !{a,_,rfl,h.ins,rfl,_,rfl,a,F,cs,dl,rs,k,.av,rfl,hS,hk,tH,λi hi=>?_,λhn=>by cases hn};cases hi;refine{_,rfl,?_};refine bX (λh1=>?_) λh1=>?_;exact{uE,fo<|q2 h1};exact fo<|q1 h1
inductive kf (t:fk) (ds:List D) (S:au) (R:KD) (Z:KX):Prop where
 |mk (a F cs dl rs k v) (h0:ds=[.ref a,k,v]) (h1:cq t.ak S a F cs dl rs) (h2:cs.length<=8) (h3:Gt S k) (h4:Sf S v) (h5:dl.length<=8000) (h6:rs.length<=8000) (h7:(oV cs k v=false->Z t.ig S)) (h8:(oV cs k v=true->ai (Bx rs k dl.length)=false->Z t.sQ S)) (h9:(∀z ws,k=.str z->v=.tup ws->oV cs k v=true->ai (Bx rs k dl.length)=true->∀S' F',cq t.ak S' a F' cs (dl++[.tup [.str "put",k,v]]) (uJ rs z (dl.length+1) ws)->C8 F F' S S'->R .av S'))
theorem QV(T:Txt w K mg t):rh P w mg base T.fz 6 (kf t):=by refine T.fz.F.bG xa ?_;obtain⟨a,F,cs,dl,rs,k,v,e,hS,hc,hk,hv,hd,hn,q1,q2,q3⟩;obtain⟨ld,lr,ra,h,hF,ua⟩:=id hS;refine{_,(sc (se<|aT T.kH (nD T) hr<|ac (fl T.aj T.df<|dv 0)<|ac (cN<|al 1<|al 2 an) an)<|sc (si (bq oy hr.u (Zd (dv 0) T.aj T.dD.e ((nF T).mono<|by decide) hr T.fh d1<|al 1 an) dn) (s1<|sA ⟨T.sU⟩ T.Gk<|ac ds an) s0)<|sc (se<|bm zN zV zW cC (fl T.aj T.cQ<|dv 0)<|ac (cN<|ac ds<|al 1<|al 2 an) an)<|s1<|se<|oG (dv 0) T.aj T.bP (AR T) hr<|al 1<|al 2 an),?_};refine !{a,_,_,rfl,h.ins,rfl,_,rfl,_,rfl,cG,cs,k,v,rfl,hc,hk,hv,λGz=>?_,λxX=>fo<|q1 xX};refine !{a,_,rfl,h.ins,rfl,_,rfl,a,F,cs,dl,rs,k,.av,rfl,hS,hk,tH,λi hi=>?_,λhn=>by cases hn};cases hi;refine{_,rfl,?_};refine bX (λh1=>?_) λh1=>?_;exact{uE,fo<|q2 Gz<|nt h1};obtain⟨z,ws,rfl,rfl,hz⟩:=EF Gz;refine !{a,_,_,rfl,h.ins,rfl,{rfl,_,h.AQ},_,rfl,_,rfl,uF,ld,dl,_,rfl,rfl,h.AQ,bg<|by lia,?_};have FO:=h.QS<|.tup [.str "put",.str z,.tup ws];have AS:cq t.ak (S.set ld<|.lst<|dl++[.tup [.str "put",.str z,.tup ws]]) a F cs (dl++[.tup [.str "put",.str z,.tup ws]]) rs:=⟨ld,lr,ra,FO,hF,ua⟩;have hl:=Ji hS z;refine !{a,_,rfl,FO.ins,rfl,_,rfl,_,rfl,a,F,cs,_,rs,z,ws,rfl,AS,by rw[zt];exact Nat.lt_succ_of_le hl,by rw[zt];show dl.length+1<=_;lia,by lia,λS' F' q_ hK=>fo<|q3 z ws rfl rfl Gz (nf h1) S' F' ?_ ?_};have:(dl++[D.tup [.str "put",.str z,.tup ws]]).length=dl.length+1:=zt;rw[this]at q_;exact q_;refine C8.trans (tG ?_) hK;rw[hF];exact zi _ zo
inductive fY (t:fk) (ds:List D) (S:au) (R:KD) (Z:KX):Prop where
 |mk (a F cs dl rs k v) (h0:ds=[.ref a,k,v]) (h1:cq t.ak S a F cs dl rs) (h2:cs.length<=8) (h3:Gt S k) (h4:Sf S v) (h5:dl.length<=8000) (h6:rs.length<=8000) (h7:(oV cs k v=false->Z t.ig S)) (h8:(oV cs k v=true->ai (Bx rs k dl.length)=true->Z t.mY S)) (h9:(∀z ws,k=.str z->v=.tup ws->oV cs k v=true->ai (Bx rs k dl.length)=false->∀S' F',cq t.ak S' a F' cs (dl++[.tup [.str "change",k,v]]) (uJ (mn rs z dl.length) z (dl.length+1) ws)->C8 F F' S S'->R .av S'))
theorem GA(T:Txt w K mg t):rh P w mg base T.dh 6 (fY t):=by
 refine T.dh.F.bG qH ?_;obtain⟨a,F,cs,dl,rs,k,v,e,hS,hc,hk,hv,hd,hn,q1,q2,q3⟩;obtain⟨ld,lr,ra,h,hF,ua⟩:=id hS;refine{_,(sc (se<|aT T.kH (nD T) hr<|ac (fl T.aj T.df<|dv 0)<|ac (cN<|al 1<|al 2 an) an)<|sc (se<|oG (dv 0) T.aj T.cu (jk T) hr<|al 1 an)<|sc (se<|oG (dv 0) T.aj T.cw (Jj T) hr<|al 1 an)<|sc (se<|bm zN zV zW cC (fl T.aj T.cQ<|dv 0)<|ac (cN<|ac ds<|al 1<|al 2 an) an)<|s1<|se<|oG (dv 0) T.aj T.bP (AR T) hr<|al 1<|al 2 an),?_};refine !{a,_,_,rfl,h.ins,rfl,_,rfl,_,rfl,cG,cs,k,v,rfl,hc,hk,hv,λGz=>?_,λxX=>fo<|q1 xX};refine !{a,_,rfl,h.ins,rfl,_,rfl,a,F,cs,dl,rs,k,rfl,hS,hk,λh1=>?_,λh1=>fo<|q2 Gz h1};obtain⟨z,ws,rfl,rfl,hz⟩:=EF Gz;have EC:∃s,lu rs z=some s/\s≠[]:=by rw[xk hz]at h1;have:=Od h1;cases e:lu rs z with|none=>rw[e]at this;exact absurd rfl this|some s=>rw[e]at this;exact⟨s,rfl,this⟩
 refine !{a,_,rfl,h.ins,rfl,_,rfl,a,F,cs,dl,rs,z,rfl,hS,EC,by lia,λS1 AS VD=>?_};obtain⟨Sh,Z9,Z_,FO,VE,QW⟩:=id AS;refine !{a,_,_,rfl,FO.ins,rfl,{rfl,_,FO.AQ},_,rfl,_,rfl,uF,Sh,dl,_,rfl,rfl,FO.AQ,bg<|by lia,?_};have h2:=FO.QS<|.tup [.str "change",.str z,.tup ws];have VF:cq t.ak (S1.set Sh<|.lst<|dl++[.tup [.str "change",.str z,.tup ws]]) a F cs (dl++[.tup [.str "change",.str z,.tup ws]]) (mn rs z dl.length):=⟨Sh,Z9,Z_,h2,VE,QW⟩;have hl:=Ji AS z;have IA:(mn rs z dl.length).length<=rs.length+1:=Mv _ _ _;refine !{a,_,rfl,h2.ins,rfl,_,rfl,_,rfl,a,F,cs,_,_,z,ws,rfl,VF,by rw[zt];exact Nat.lt_succ_of_le hl,by rw[zt];show dl.length+1<=_;lia,by lia,λS' F' q_ hK=>fo<|q3 z ws rfl rfl Gz h1 S' F' ?_ ?_};have:(dl++[D.tup [.str "change",.str z,.tup ws]]).length=dl.length+1:=zt;rw[this]at q_;exact q_;refine VD.trans<|C8.trans (tG ?_) hK;rw[VE];exact zi _ zo
inductive i6 (t:fk) (ds:List D) (S:au) (R:KD) (Z:KX):Prop where
 |mk (a F cs dl rs k) (h0:ds=[.ref a,k]) (h1:cq t.ak S a F cs dl rs) (h2:Gt S k) (h3:dl.length<=8000) (h4:(ofStr kW k=false->Z t.ig S)) (h5:(ofStr kW k=true->ai (Bx rs k dl.length)=true->Z t.mY S)) (h6:(∀z,k=.str z->kW z=true->ai (Bx rs k dl.length)=false->∀S',cq t.ak S' a F cs (dl++[.tup [.str "take",k]]) (mn rs z dl.length)->C8 F F S S'->R .av S'))
theorem EG(T:Txt w K mg t):rh P w mg base T.dM 6 (i6 t):=by
 refine T.dM.F.bG uD ?_;obtain⟨a,F,cs,dl,rs,k,e,hS,hk,hd,q1,q2,q3⟩;obtain⟨ld,lr,ra,h,hF,ua⟩:=id hS;refine{_,(sc (si (cM<|tv<|aT T.l_ (iw T) hr<|al 1 an) (s1<|sA ⟨T.ik⟩ T.kG<|ac ds an) s0)<|sc (se<|oG (dv 0) T.aj T.cu (jk T) hr<|al 1 an)<|sc (se<|oG (dv 0) T.aj T.cw (Jj T) hr<|al 1 an)<|s1<|se<|bm zN zV zW cC (fl T.aj T.cQ<|dv 0)<|ac (cN<|ac ds<|al 1 an) an),?_};refine !{k,rfl,hk,_,rfl,?_};refine bX (λh0=>?_) λh0=>?_;exact{uE,fo<|q1<|nt h0};have h0:=nf h0;refine !{a,_,rfl,h.ins,rfl,_,rfl,a,F,cs,dl,rs,k,rfl,hS,hk,λh1=>?_,λh1=>fo<|q2 h0 h1};obtain⟨z,rfl,hz⟩:=ED h0;have EC:∃s,lu rs z=some s/\s≠[]:=by rw[xk hz]at h1;have:=Od h1;cases e:lu rs z with|none=>rw[e]at this;exact absurd rfl this|some s=>rw[e]at this;exact⟨s,rfl,this⟩
 refine !{a,_,rfl,h.ins,rfl,_,rfl,a,F,cs,dl,rs,z,rfl,hS,EC,by lia,λS1 AS VD=>?_};obtain⟨Sh,Z9,Z_,FO,VE,QW⟩:=id AS;refine !{a,_,_,rfl,FO.ins,rfl,{rfl,_,FO.AQ},_,rfl,cG,Sh,dl,_,rfl,rfl,FO.AQ,bg<|by lia,?_};refine fo<|q3 z rfl hz h1 _ {Sh,Z9,Z_,FO.QS _,VE,QW}<|VD.trans<|tG ?_;rw[VE];exact zi _ zo
inductive iA (t:fk) (ds:List D) (S:au) (R:KD) (Z:KX):Prop where
 |mk (a cs) (h0:ds=[.ref a,.tup<|cs.map aA]) (h1:Gd cs) (h2:S a=some (.ins t.ak [])) (h3:∀S' F,cq t.ak S' a F cs [] []->C8 [a] F S S'->R .av S')
theorem Mw(T:Txt w K mg t):rh P w mg base T.fS 5 (iA t):=by
 refine T.fS.F.bG nA ?_;obtain⟨a,cs,e,hg,ha,q⟩;refine{_,(sc (se<|aT T.gU (oX T) hr<|al 1 an)<|sc (sf T.aj T.df (dv 0)<|dv 1)<|sc (sf T.aj T.cQ (dv 0)<|cB an)<|s1<|sf T.aj T.bS (dv 0) Up),?_};refine !{cs,rfl,hg,_,rfl,_,rfl,a,[],rfl,ha,(show 0<1000 by decide),?_};refine{mm,λld Si=>!{a,[("columns",.tup<|cs.map aA)],rfl,?_,(show 1<1000 by decide),λlr IA=>!{a,[("columns",.tup<|cs.map aA),("deeds",.ref ld)],rfl,?_,(show 2<1000 by decide),?_}}};have nl:a≠ld:=by rintro rfl;rw[aa]at Si;cases Si
 rw[ag nl,aa];rfl;have nl:a≠lr:=by rintro rfl;rw[aa]at IA;cases IA
 rw[ag nl,aa];rfl;have n1:a≠ld:=by rintro rfl;rw[aa]at Si;cases Si
 have n2:a≠lr:=by rintro rfl;rw[aa]at IA;cases IA
 have n3:ld≠lr:=by rintro rfl;rw[ag n1.symm,aa]at IA;cases IA
 rw[ag n1.symm]at Si;rw[ag n2.symm,ag n3.symm,ag n2.symm]at IA;refine fo<|q _ (fp a ld lr []) {ld,lr,[],{aa,?_,?_,λr hr=>(nomatch hr),List.nodup_nil,(by simp),λr hr=>(nomatch hr)},rfl,rfl} λb c hb e=>?_;rw[ag n1.symm,ag n3,ag n1.symm,aa];rw[ag n2.symm,aa];rfl;have b1:b≠a:=λz=>hb (by rw[z];exact zo);have b2:b≠ld:=ib e Si;have b3:b≠lr:=ib e IA;refine{λm=>?_,by rw[ag b1,ag b3,ag b1,ag b2,ag b1];exact e};unfold fp at m;simp only[List.map_nil,zh,zM,or_false]at m;rcases m with m|m|m;exact b1 m;exact b2 m;exact b3 m
noncomputable def xl(rs:jx)(i:Int)(z:Str):D:=.tup [.str z,wt ((lu rs z).getD []) i]
noncomputable def mq(rs:jx)(i:Int)(ss:List Str):List D:=(ss.filter λz=>!ai (wt ((lu rs z).getD []) i)).map<|xl rs i
noncomputable def xm:D->Bool|.tup [_,x]=>!ai x|_=>false
theorem AU(ss:List Str):((ss.map<|xl rs i).filter xm).map id=mq rs i ss:=by unfold mq;rw[List.map_id,List.filter_map];rfl
def VG(C N:Addr):kO:=λds S R Z=>∃a F cs dl rs m,ds=[.ref a,m]/\cq C S a F cs dl rs/\rs.length<64/\Gt S m/\(∀i ss,uI dl.length m=some i->ss.Perm (rs.map (·.1))->PyProof.Rows.sortedS ss=true->∀p,S p=none->R (.ref p) (S.set p<|.lst<|mq rs i ss))/\(uI dl.length m=none->Z N S)
theorem GB(T:Txt w K mg t):rh P w mg base T.iN 3 (VG t.ak t.fN):=by
 refine T.iN.F.bG fb ?_;obtain⟨a,F,cs,dl,rs,m,e,hS,hn,hm,q1,q2⟩;obtain⟨ld,lr,ra,h,hF,ua⟩:=id hS;have ek:(dZ ra).map (·.1)=(rs.map (·.1)).map Sum.inr:=by rw[ua];unfold dZ iy;rw[zx,zx,zx];rfl
 have el:(dZ ra).length<64:=by rw[ua]at hn;unfold iy at hn;unfold dZ;rw[za]at hn⊢;exact hn
 refine{_,(sc (bO (i:=2) fb.nd<|oG (dv 0) T.aj T.cy (jj T) hr<|al 1 an)<|sc (Kq (i:=3) (N:=["key","then","self"]) (src:=[none,some 2,some 0]) fb.nd (kD (ae<|inClass bu 10) ["self","moment","then","rows"] rfl rfl<|by trivial) (il<|cb sD T.fQ eE<|ac (fl T.aj T.bS<|dv 0) an) (pT<|show(["key","then","self"]:List Str).Nodup by trivial) (aU rfl) aV (λ_ _ _ _ _=>sC) λ_ _ _ _ _=>(cN<|al 0<|ac (aT T.gF (j_ T) hr<|ac (ix hr.u (fl T.aj T.bS<|dv 2)<|dv 0)<|al 1 an) an))<|s1<|sr<|vd (N:=["row"]) (src:=[none]) (kD (ae<|inClass bu 10) ["self","moment","then","rows"] rfl rfl<|by trivial) (il<|dv 3) (pT<|show(["row"]:List Str).Nodup by trivial) (aU rfl) aV (λ_ _ _ _ _=>(if1<|bq oy hr.u (ix hr.u (dv 0) di) dn)) λ_ _ _ _ _=>(dv 0)),?_};refine !{a,_,rfl,h.ins,rfl,_,rfl,a,F,cs,dl,rs,m,rfl,hS,hm,λi hi=>?_,λhn=>fo<|q2 hn};refine !{a,_,_,rfl,h.ins,rfl,lr,dZ ra,rs.map (·.1),rfl,h.run,ek,el,λss hp hs p kX=>?_};have hlen:ss.length<64:=by rw[hp.length_eq,za];exact hn
 refine{_,aa,?_};refine comp_map (λd=>match d with|.str z=>xl rs i z|_=>.av) aa (by show(ss.map D.str).length<=1000;rw[za];omega) (λd hd Q hQ=>?_) λp2 hG=>?_;obtain⟨z,hz,rfl⟩:=zg.mp hd;have YO:z∈rs.map (·.1):=hp.mem_iff.mp hz;obtain⟨r,lF,e⟩:=zg.mp YO;rw[ua]at lF;unfold iy at lF;obtain⟨r0,xX,rfl⟩:=zg.mp lF;have e1:ub ra z=some r0.2:=by cases e3:ub ra z with|none=>exact absurd e (nE e3 _ xX)|some x=>exact congrArg some<|congrArg Prod.snd<|gI (f:=λr:Str×Addr×List Std=>r.1) h.kn (dE (l:=x.1) (s:=x.2) e3) xX e.symm
 have ed:bZ (dZ ra) (.inr z)=some (.ref r0.2.1):=by rw[iz,e1];rfl
 have hc:=h.cell _ xX;have eq:(lu rs z).getD []=r0.2.2:=by rw[ua,gY,e1];rfl
 have hQ:Q (.tup [.str z,wt ((lu rs z).getD []) i]) (S.set p<|.lst<|ss.map D.str):=hQ;rw[eq]at hQ;have hi1:(S.set p<|.lst<|ss.map D.str) a=_:=(ag<|ib h.ins kX).trans h.ins;have Gz:(S.set p<|.lst<|ss.map D.str) lr=_:=(ag<|ib h.run kX).trans h.run;have Xh:(S.set p<|.lst<|ss.map D.str) r0.2.1=_:=(ag<|ib hc kX).trans hc;exact !!{a,_,_,rfl,hi1,rfl,_,rfl,dZ ra,_,Gz,ed,_,rfl,_,_,i,rfl,Xh,cG,hQ};have em:(ss.map D.str).map (λd=>match d with|.str z=>xl rs i z|_=>.av)=ss.map (xl rs i):=by rw[zx];rfl
 refine !{ss.map<|xl rs i,by show((S.set p _).set p2<|.lst<|(ss.map D.str).map _) p2=_;rw[aa,em],?_};refine fC xm id (by show((S.set p _).set p2<|.lst<|(ss.map D.str).map _) p2=_;rw[aa,em]) (by show(ss.map<|xl rs i).length<=1000;rw[za];omega) (λd hd Q Q' hQ C_=>?_) λp3 Oe=>?_;obtain⟨z,hz,rfl⟩:=zg.mp hd;refine !!!⟨?_⟩;exact bX (λh=>!⟨hQ h⟩) λh=>C_ h;have aaa:S p3=none:=by cases e:S p3 with|none=>rfl|some c=>exact absurd Oe<|by rw[ag (ib e<|by have:(S.set p<|.lst<|ss.map D.str) p2=none:=hG;cases e':S p2 with|none=>rfl|some c'=>rw[ag<|ib e' kX,e']at this;cases this),ag<|ib e kX,e];exact nofun
 refine{S.set p3<|.lst<|mq rs i ss,λb c hb=>?_,q1 i ss hi hp hs p3 aaa};show((((S.set p<|.lst<|ss.map D.str).set p2 _).set p3<|.lst<|((ss.map<|xl rs i).filter xm).map id)) b=some c;rw[AU];by_cases hb3:b=p3;subst hb3;rw[aa]at hb⊢;exact hb;rw[ag hb3]at hb;have aac:S p2=none:=by cases e':S p2 with|none=>rfl|some c'=>have:(S.set p<|.lst<|ss.map D.str) p2=none:=hG;rw[ag<|ib e' kX,e']at this;cases this
 rw[ag hb3,ag<|ib hb aac,ag<|ib hb kX];exact hb
theorem GC{S:au}{p:Addr}{c:Ce}(h:S p=some c):S.set p c=S:=by funext b;by_cases e:b=p;subst e;rw[aa,h];rw[ag e]
theorem Jl{S:au}{p q:Addr}{c e:Ce}(h:S q=none)(hn:p≠q):Sub (S.set p c) ((S.set q e).set p c):=λb x hb=>by by_cases VH:b=p;subst VH;rw[aa]at hb⊢;exact hb;rw[ag VH]at hb⊢;exact(Sub.new h) _ _ hb
theorem dpI:∀xs:List Int,DpAll S (xs.map D.int) (xs.map PyData.int)/\PyData.canLayAll0 (xs.map PyData.int)=true/\PyData.depthAll (xs.map PyData.int)<=0|[]=>{by simp only[List.map_nil,DpAll],rfl,zT _}|x::xs=>by obtain⟨a,b,c⟩:=dpI (S:=S) xs;exact{by simp only[zI,DpAll];exact{_,_,rfl,by simp only[Dp],a},by simp only[zI,PyData.canLayAll0,PyData.canLay0,b,Bool.and_self],by simp only[zI,PyData.depthAll,PyData.depth];lia}
theorem Mx{S:au}{a b:Addr}{xs:List Int}{R:KD}(e1:S a=some (.lst<|xs.map D.int))(e2:S b=some (.lst []))(q:R (.bl xs.isEmpty) S):Eh false (.ref a) (.ref b) S R:=by obtain⟨k1,k2,k3⟩:=dpI (S:=S) xs;refine{.list<|xs.map PyData.int,.list [],{_,_,e1,rfl,k1},{[],[],e2,rfl,by simp only[DpAll]},by simp only[PyData.canLay0];exact k2,by simp only[PyData.canLay0,PyData.canLayAll0],.inl<|by simp only[PyData.depth];lia,?_};rw[if_neg zd,show PyData.eqv (.list<|xs.map PyData.int) (.list [])=xs.isEmpty by cases xs<;>simp[PyData.eqv,PyData.eqvAll]];exact q
theorem Mz{k n:Nat}(h:k<n):seqIndex? ((k:Nat):Int) n=some k:=by have e:(if ((k:Nat):Int)<0 then ((k:Nat):Int)+(n:Int) else ((k:Nat):Int))=((k:Nat):Int):=if_neg (by lia);unfold seqIndex?;dsimp only;rw[e,if_pos<|by simp;lia];rfl
theorem bL{p:Bool}{A B:Prop}(h:p=false)(q:B):if p=true then A else B:=by rw[h];exact a_ q
theorem qg{p:Bool}{A B:Prop}(h:p=true)(q:A):if p=true then A else B:=by rw[h];exact dG q
theorem bH{L:List D}{S:au}{p:Addr}{n:Int}{R:KD}(h0:0<=n)(h1:n<(L.length:Int))(hp:S p=none)(q:∀d,d∈L->R d S):Y5 p n (S.set p<|.lst L) λd S'=>Fo S' (R d):=by obtain⟨v,e1,e2⟩:=mP (l:=L) h0 h1;exact{L,v,aa,e1,S,.new hp,q v<|zy e2}
theorem nG{xs:List Int}{i:Int}{P:Int->Prop}(h0:0<=i)(h1:i<((xs.map D.int).length:Int))(h:∀x∈xs,P x):∃x,mD (xs.map D.int) i=some (.int x)/\P x:=by obtain⟨d,e1,e2⟩:=mP (l:=xs.map D.int) h0 h1;obtain⟨x,hx,rfl⟩:=zg.mp<|zy e2;exact{x,e1,h x hx}
inductive qh (ds:List D) (S:au) (R:KD) (Z:KX):Prop where
 |mk (ns:List Int) (k:Nat) (h0:ds=[.lU<|ns.map D.int,.int k]) (h1:∀c:Int,R (.int c) S)
theorem fZ(T:Txt w K mg t):Ok P w base T.eJ 1 qh:=by
 refine T.eJ.F.bG w_ ?_;obtain⟨ns,k,e,q⟩;refine{_,(sc (si (bq wg hr.u (dv 1)<|cb aQ T.aM aE<|al 0 an) (s1<|sr<|ix hr.u (dv 0)<|dv 1) s0)<|s1<|sr di),?_};refine !!!!⟨?_⟩;refine bX (λh=>?_) λh=>?_;have h:(k:Int)<(((ns.map D.int).length:Nat):Int):=zC h;have hk:k<ns.length:=by rw[za]at h;lia
 exact !!{.int ns[k],dy<|by rw[zk];simp[hk],fo<|q _};exact fo<|q 0
inductive vE (ds:List D) (S:au) (R:KD) (Z:KX):Prop where
 |mk (c:Int) (n:Nat) (h0:ds=[.int c,.int (n:Nat)]) (h1:n<=20) (h2:∀(xs:List Int) p,xs.length=n->(∀x∈xs,0<=x)->S p=none->R (.ref p) (S.set p<|.lst<|xs.map D.int))
theorem iB(T:Txt w K mg t):Ok P w base T.gG 1 vE:=by
 refine T.gG.F.bG cS ?_;obtain⟨c,n,e,hn,q⟩;refine{_,(sc (bO (i:=2) cS.nd<|cB an)<|sc (bO (i:=3) cS.nd di)<|sc (Bv<|si (bq Y3 hr.u (dv 0)<|bo mS hr.u di di) (s1<|bO (i:=3) cS.nd<|bo mR hr.u (dv 0)<|bo mS hr.u di di) s0)<|sc (Bv<|ZQ (twd<|twand (bq ox hr.u (dv 3) di)<|tw1<|bq wg hr.u (cb aQ T.aM aE<|al 2 an)<|dv 1)<|sc (se<|bm zN zV zW cC (dv 2)<|ac (bo ba hr.u (dv 3)<|bo mS hr.u di di) an)<|s1<|bO (i:=3) cS.nd<|bo bR hr.u (dv 3)<|bo mS hr.u di di)<|sc (bO (i:=4) cS.nd<|bo bf hr.u (bo ba hr.u (dv 0)<|bo bf hr.u (bo mS hr.u di di) di) di)<|sc (Bv<|Ko (NO T.gD<|ac (bo bf hr.u (dv 1) di) an) (gn (i:=5) cS.nd)<|sc (bO (i:=4) cS.nd<|bo ba hr.u (bo bf hr.u (bo bf hr.u (bo sy hr.u (dv 4)<|dv 4)<|bo sy hr.u di<|dv 4)<|dv 5)<|bo bf hr.u (bo mS hr.u di di) di)<|s1<|si (bq ox hr.u (dv 5) di) (s1<|se<|bm zN zV zW cC (dv 2)<|ac (bo ba hr.u (bo sy hr.u (dv 4)<|bo bf hr.u (bo bR hr.u (dv 4) di) di)<|bo bf hr.u (bo mS hr.u di di) di) an) s0)<|s1<|sr<|IQ (dv 2) o0<|o1<|dv 1),?_};refine{mm,λlf MA=>?_};refine{λaI S'=>∃r:Int,aI=[some<|.int c,some<|.int (n:Nat),some<|.ref lf,some<|.int r,none,none]/\S'=S.set lf (.lst []),?_,?_};refine{_,rfl,{by decide,by decide,by decide},_,rfl,bX (λh=>?_) λh=>fo {0,rfl,rfl}};exact{_,rfl,{by decide,by decide,by decide},fo !⟨rfl⟩};rintro aI S' ⟨r,rfl,rfl⟩;refine{λaI S'=>∃(r:Int)(xs:List Int),aI=[some<|.int c,some<|.int (n:Nat),some<|.ref lf,some<|.int r,none,none]/\S'=S.set lf (.lst<|xs.map D.int)/\xs.length<=n/\∀x∈xs,0<=x,?_,?_};refine{λm aI S'=>∃(r:Int)(xs:List Int),aI=[some<|.int c,some<|.int (n:Nat),some<|.ref lf,some<|.int r,none,none]/\S'=S.set lf (.lst<|xs.map D.int)/\xs.length+m=n/\∀x∈xs,0<=x,{n,r,[],rfl,rfl,Nat.zero_add _,λ_ h=>(nomatch h)},?_};rintro m aI S' ⟨r,xs,rfl,rfl,hl,hx⟩;have hS:(S.set lf<|.lst<|xs.map D.int) lf=some (.lst<|xs.map D.int):=aa;refine !!⟨bX (λh1=>!!⟨.inl {_,hS,_,rfl,_,rfl,bX (λh2=>?_) λh2=>?_}⟩) λh1=>a_<|fo {r,xs,rfl,rfl,by lia,hx}⟩;have h2:(((xs.map D.int).length:Nat):Int)<((n:Nat):Int):=zC h2;rw[za]at h2;refine{_,rfl,{rfl,_,hS},_,rfl,{by decide,by decide,by decide},by decide,lf,_,_,rfl,rfl,hS,bg<|by rw[za];lia,?_};refine{_,rfl,{by decide,by decide,by decide},{by decide,by trivial},m-1,by lia,_,xs++[r%10^(15:Int).toNat],rfl,?_,by rw[zt];show xs.length+1+_=_;lia,λx HW=>?_};rw[bj,zG];rfl;rcases zP.mp HW with h|h;exact hx x h;rw[zE.mp h];exact zL _ (by decide);exact fo {r,xs,rfl,rfl,by lia,hx};rintro aI S' ⟨r,xs,rfl,rfl,hl,hx⟩;have nb:∀z:Int,0<=z%1000000000000000009/\z%1000000000000000009<1000000000000000009:=λz=>{zL z<|by decide,zJ z<|by decide};have e18:((10:Int)^(18:Int).toNat+9)=1000000000000000009:=by decide
 refine{_,rfl,{by decide,by decide,by decide},by decide,?_};refine{λaI S'=>∃(o4 o5:Option D)(ys:List Int),aI=[some<|.int c,some<|.int (n:Nat),some<|.ref lf,some<|.int r,o4,o5]/\S'=S.set lf (.lst<|ys.map D.int)/\n<=ys.length/\ys.length<=40/\∀x∈ys,0<=x,?_,?_};refine !{((n:Nat):Int)+3,rfl,by lia,by lia,?_};refine{λi aI S'=>∃(nu:Int)(o5:Option D)(ys:List Int),aI=[some<|.int c,some<|.int (n:Nat),some<|.ref lf,some<|.int r,some<|.int nu,o5]/\0<=nu/\nu<1000000000000048280/\S'=S.set lf (.lst<|ys.map D.int)/\ys.length=xs.length+(i-3)/\∀x∈ys,0<=x,?_,λ_ _ _ _=>trivial,?_,?_};have:=nb c;rw[e18];exact{_,none,xs,rfl,by lia,by lia,rfl,rfl,hx};rintro i d aI S' hd ⟨nu,o5,ys,rfl,n0,n1,rfl,hyl,hy⟩;have hd:(dQ 0 (((n:Nat):Int)+3).toNat)[i]?=some d:=hd;obtain⟨hi,rfl⟩:=cP hd;refine !!{.inl {by lia,by lia},_,rfl,.inl {by decide,by decide},_,rfl,{by decide,by decide,by decide},by decide,?_};rw[e18];have b1:=nb<|nu*nu+48271*nu+(0+(i:Nat));generalize (nu*nu+48271*nu+(0+(i:Nat)))%1000000000000000009=nu2 at b1⊢;have hS:(S.set lf<|.lst<|ys.map D.int) lf=some (.lst<|ys.map D.int):=aa;refine !!⟨bX (λh=>?_) λh=>?_⟩;have h:(2:Int)<0+((i:Nat):Int):=zC h;refine{_,rfl,{rfl,_,hS},_,rfl,_,rfl,{by decide,by trivial},.inl {by lia,by lia},{by decide,by decide,by decide},by decide,lf,_,_,rfl,rfl,hS,bg<|by rw[za];lia,?_};refine{nu2,_,ys++[nu2*(nu2/1009+69621)%(10^(18:Int).toNat+9)],rfl,by lia,by lia,?_,by rw[zt];show ys.length+1=_;lia,λx HW=>?_};rw[bj,zG];rfl;rcases zP.mp HW with h|h;exact hy x h;rw[zE.mp h];exact zL _ (by decide);have h:¬(2:Int)<0+((i:Nat):Int):=yd h;exact{nu2,_,ys,rfl,by lia,by lia,rfl,by lia,hy};rintro aI S' ⟨nu,o5,ys,rfl,_,_,rfl,hyl,hy⟩;rw[show({dQ 0 (((n:Nat):Int)+3).toNat,λ_=>True}:q9).xs.length=(((n:Nat):Int)+3).toNat from b_]at hyl;exact fo {_,_,ys,rfl,rfl,by lia,by lia,hy};rintro aI S' ⟨o4,o5,ys,rfl,rfl,NW,Nn,hy⟩;refine !!!{_,aa,λp hp=>?_};have Kw:S p=none:=by rw[ag<|show p≠lf by rintro rfl;rw[aa]at hp;cases hp]at hp;exact hp
 have e:bK (ys.map D.int) none (some ((n:Nat):Int))=(ys.take n).map D.int:=by unfold bK;rw[HT.sIx_nat,HT.sIx_none,za,Nat.min_eq_left NW,List.drop_zero,Nat.sub_zero,List.map_take]
 rw[e];refine{_,λb x hb=>?_,q (ys.take n) p (by rw[ym];lia) (λx HW=>hy x<|List.mem_of_mem_take HW) Kw};by_cases VH:b=p;subst VH;rw[aa]at hb⊢;exact hb;rw[ag VH]at hb⊢;exact(Sub.new MA) _ _ hb
inductive vF (ds:List D) (S:au) (R:KD) (Z:KX):Prop where
 |mk (p:Addr) (xs:List Int) (h0:ds=[.ref p]) (h1:S p=some (.lst<|xs.map D.int)) (h2:xs.length<=20) (h3:∀x∈xs,0<=x) (h4:∀(x:Int)(ys:List Int),0<=x->ys.length<=xs.length->(∀y∈ys,0<=y)->R (.int x) (S.set p<|.lst<|ys.map D.int))
theorem AV(T:Txt w K mg t):Ok P w base T.rA 1 vF:=by refine T.rA.F.bG CY ?_;obtain⟨p,xs,e,hp,hl,hx,q⟩;refine{_,(sc (si (bq bA hr.u (dv 0)<|cB an) (s1<|sr di) s0)<|s1<|sr<|bm zN PySem.F.slot_list_pop PySem.F.type_list_pop LR (dv 0)<|ac di an),?_};refine !{mm,λp2 hG=>Mx ((Sub.new hG) _ _ hp) aa !⟨?_⟩};cases xs with|nil=>refine qg rfl {S.set p<|.lst [],?_,q 3 [] (by decide) (zr _) λ_ h=>(nomatch h)};rw[GC<|show S p=some (.lst []) from hp];exact .new hG|cons x xs=>refine bL rfl !⟨{rfl,_,(Sub.new hG) _ _ hp},p,_,_,0,.int x,rfl,rfl,(Sub.new hG) _ _ hp,by decide,by decide,Mz (k:=0)<|by simp,rfl,?_⟩;refine{_,?_,q x xs (hx x zo) (by simp) λy hy=>hx y<|zi _ hy};exact Jl hG λe=>by rw[e,hG]at hp;cases hp
noncomputable abbrev KW:List Str:=["a","ab","b","abc","z","a1","b22","aa","m","m0","ba","zzzzzzzzz"]
noncomputable abbrev KU:List Str:=["","0","b7","zz","9"]
noncomputable abbrev KS:List Str:=KW.flatMap λa=>KU.map λb=>a++b
theorem f_:∀z∈KS,kW z=true/\z.cps.size<=12/\PyData.strOk z=true:=by trivial
theorem VI:∀a∈KW,∀b∈KU,a.length+b.length<=1000:=by trivial
noncomputable abbrev By:List Str:=["key","a","ab","at","up","mark","b","price"]
theorem Jm:∀z∈By,lC z=true/\PyData.strOk z=true:=by trivial
noncomputable abbrev WDS:List Str:=["","a","ab","b","a b","B","~","=b"]
theorem QX:∀z∈WDS,p8 z=true:=by trivial
noncomputable def eN:D->Bool|.av=>true|.int _=>true|.str z=>decide (z.cps.size<=40)&&PyData.strOk z|_=>false
def Vg(kind:Str)(d:D):Prop:=jv kind d=true/\eN d=true
theorem MB(h:p8 z=true):eN (.str z)=true:=by unfold p8 at h;rw[zO,zZ]at h;show(decide (z.cps.size<=40)&&PyData.strOk z)=true;rw[h.1,yb];unfold PyData.strOk;rw[<-Array.all_toList,zZ];intro c hc;have:=h.2 c hc;unfold EA at this;simp only[zO,zY]at this⊢;lia
theorem QY{k:Str}(h:k ="number")(i:Int):Vg k (.int i):={by rw[h];rfl,rfl}
theorem QZ{k:Str}(h:¬k ="number")(hz:p8 z=true):Vg k (.str z):={by unfold jv;rw[if_neg h];exact hz,MB hz}
theorem Q0(k:Str):Vg k .av:=⟨rfl,rfl⟩
inductive vG (ds:List D) (S:au) (R:KD) (Z:KX):Prop where
 |mk (k:Str) (x:Int) (h0:ds=[.str k,.int x]) (h1:∀d,Vg k d->R d S)
theorem tI(T:Txt w K mg t):Ok P w base T.ng 1 vG:=by refine T.ng.F.bG s_ ?_;obtain⟨k,x,e,q⟩;refine{_,(sc (si (bq bA hr.u (bo ba hr.u (dv 1) di) di) (s1<|sr dn) s0)<|sc (si (bq bA hr.u (dv 0) ds) (sc (bO (i:=2) s_.nd<|bo sy hr.u (bo ba hr.u (bo bR hr.u (dv 1) di)<|bo mS hr.u di di)<|bo mS hr.u di di)<|s1<|sr<|wq<|ix hr.u (cB<|ac di<|ac di<|ac di<|ac di<|ac (Ag di)<|ac (Ag di)<|al 2<|ac (bo mR hr.u di<|dv 2) an)<|bo ba hr.u (bo bR hr.u (dv 1) di) di) s0)<|s1<|sr<|wq<|ix hr.u (cB<|ac ds<|ac ds<|ac ds<|ac ds<|ac ds<|ac ds<|ac ds<|ac ds an)<|bo ba hr.u (bo bR hr.u (dv 1) di) di),?_};refine !{by decide,_,rfl,bX (λ_=>fo<|q _<|Q0 k) λ_=>!!⟨?_⟩};have i0:0<=x/5%8:=zL _ (by decide);have i1:x/5%8<8:=zJ _ (by decide);refine bX (λh=>?_) λh=>?_;have h:k ="number":=zC h;have g0:0<=x/40%10^(15:Int).toNat:=zL _ (by decide);have g1:x/40%10^(15:Int).toNat<10^(15:Int).toNat:=zJ _ (by decide);refine{_,rfl,{by decide,by trivial},{by decide,by decide,by decide},by decide,{by decide,by decide,by decide},.inl {Int.lt_of_lt_of_le (by decide) g0,Int.lt_trans g1<|by decide},?_};generalize x/40%10^(15:Int).toNat*10^(44:Int).toNat=gr;refine !!!!{Gv,λp hp=>!⟨{by decide,by trivial},by decide,bH i0 i1 hp λd hd=>?_⟩};have hd:d∈[D.int 0,.int 1,.int 2,.int 10,.int (-1),.int (-2),.int gr,.int<|0-gr]:=hd;simp only[zh,zM,or_false]at hd;rcases hd with rfl|rfl|rfl|rfl|rfl|rfl|rfl|rfl<;>exact fo (q _<|QY h _);refine{Gv,λp hp=>!⟨{by decide,by trivial},by decide,bH i0 i1 hp λd hd=>?_⟩};have hd:d∈WDS.map D.str:=hd;obtain⟨z,hz,rfl⟩:=zg.mp hd;exact fo<|q _<|QZ (yd h)<|QX z hz
inductive EH (ds:List D) (S:au) (R:KD) (Z:KX):Prop where
 |mk (x:Int) (h0:ds=[.int x]) (h1:∀z∈KS,R (.str z) S)
theorem Dc(T:Txt w K mg t):Ok P w base T.AI 1 EH:=by
 refine T.AI.F.bG AN ?_;obtain⟨x,e,q⟩;refine{_,(sc (bO (i:=1) AN.nd<|wq<|ix hr.u (cB<|ac ds<|ac ds<|ac ds<|ac ds<|ac ds<|ac ds<|ac ds<|ac ds<|ac ds<|ac ds<|ac ds<|ac ds an)<|bo ba hr.u (dv 0) di)<|s1<|sr<|bo bf hr.u (dv 1)<|wq<|ix hr.u (cB<|ac ds<|ac ds<|ac ds<|ac ds<|ac ds<|ac ds<|ac ds<|ac ds an)<|bo ba hr.u (bo bR hr.u (dv 0) di) di),?_};refine{Vy,λp hp=>!{by decide,bH (zL _<|by decide) (zJ _<|by decide) hp λd hd=>?_}};have hd:d∈KW.map D.str:=hd;obtain⟨a,ha,rfl⟩:=zg.mp hd;refine !{Gv,λp hp=>!⟨{by decide,by trivial},by decide,bH (zL _<|by decide) (zJ _<|by decide) hp λd hd=>?_⟩};obtain⟨b,hb,rfl⟩:∃b∈KU,d=.str b:=by have hd:d∈[D.str "",.str "",.str "",.str "",.str "0",.str "b7",.str "zz",.str "9"]:=hd;simp only[zh,zM,or_false]at hd;rcases hd with h|h|h|h|h|h|h|h<;>exact{_,by simp,h}
 exact{sm<|VI a ha b hb,fo<|q _<|List.mem_flatMap.mpr {a,ha,zg.mpr ⟨b,hb,rfl⟩}}
theorem cW:∀{l:List α}{m:List β},Paired rel l m->∀{i:Nat}{b:β},m[i]?=some b->∃a,l[i]?=some a/\rel a b|_,_,.nil,_,_,h=>by simp at h|_,_,.cons r t,0,b,h=>(by rw[List.getElem?_cons_zero]at h⊢;cases h;exact{_,rfl,r})|_,_,.cons r t,i+1,b,h=>by rw[List.getElem?_cons_succ]at h⊢;exact cW t h
theorem oY:∀{l:List α}{m:List β},m.length=l.length->(∀(i:Nat) a b,l[i]?=some a->m[i]?=some b->rel a b)->Paired rel l m|[],[],_,_=>.nil|a::l,b::m,h,k=>.cons (k 0 a b rfl rfl)<|oY (by simpa using h) λi x y e1 e2=>k (i+1) x y (by rw[List.getElem?_cons_succ];exact e1)<|by rw[List.getElem?_cons_succ];exact e2
def Wg(cs:List<|Str×Str)(ws:List D):Prop:=Paired (λ(c:Str×Str) v=>Vg c.2 v) cs ws
noncomputable def tJ(tr j:Nat):Str:=By.getD ((tr+3*j)%8) ""
theorem Jn:∀tr<8,∀i<9,((List.range i).map<|tJ tr).Nodup:=by trivial
theorem Q1(tr j:Nat):tJ tr j∈By:=by have:(tr+3*j)%8<8:=Nat.mod_lt _ (by decide);unfold tJ;rw[zH,zf<|show(tr+3*j)%8<By.length from this];exact List.getElem_mem _
theorem Q2(tr j:Nat):tJ (tr%8) j=tJ tr j:=by unfold tJ;rw[show(tr%8+3*j)%8=(tr+3*j)%8 by lia]
def Cg(cs:List<|Str×Str):Prop:=Gd cs/\∀c∈cs,c.1∈By
inductive qj (ds:List D) (S:au) (R:KD) (Z:KX):Prop where
 |mk (c:Int) (h0:ds=[.int c]) (h1:∀cs,Cg cs->R (.tup<|cs.map aA) S)
theorem Dd(T:Txt w K mg t):Ok P w base T.oP 2 qj:=by
 refine T.oP.F.bG dj ?_;obtain⟨c,e,q⟩;refine{_,(sc (bO (i:=1) dj.nd<|aT T.gG (iB T) hr<|al 0<|ac di an)<|sc (bO (i:=2) dj.nd<|cB<|ac ds<|ac ds<|ac ds<|ac ds<|ac ds<|ac ds<|ac ds<|ac ds an)<|sc (bO (i:=3) dj.nd<|wq<|ix hr.u (cB<|ac di<|ac di<|ac di<|ac di<|ac di<|ac di<|ac di<|ac di an)<|bo ba hr.u (ix hr.u (dv 1) di) di)<|sc (bO (i:=4) dj.nd<|cB an)<|sc (Bv<|Ko (NO T.gD<|al 3 an) (gn (i:=5) dj.nd)<|sc (se<|bm zN zV zW cC (dv 4)<|ac (cN<|ac (ix hr.u (dv 2)<|bo ba hr.u (bo bf hr.u (ix hr.u (dv 1) di)<|bo sy hr.u di<|dv 5) di)<|ac (wq<|ix hr.u (cB<|ac ds<|ac ds an)<|bo ba hr.u (ix hr.u (dv 1) di) di) an) an)<|s1<|sls (dv 1) di<|bo bR hr.u (ix hr.u (dv 1) di) di)<|s1<|sr<|ct gz T.bw aW<|al 4 an),?_};refine !{c,3,rfl,by decide,λxs lx Kx hx y6=>?_};obtain⟨x0,x1,x2,rfl⟩:∃x0 x1 x2,xs=[x0,x1,x2]:=by match xs,Kx with|[a,b,c],_=>exact⟨a,b,c,rfl⟩
 obtain⟨tr,rfl⟩:=Int.eq_ofNat_of_zero_le<|hx x1 (by simp);refine{Gv,λln UW=>?_};have Hc:((S.set lx<|.lst<|[x0,((tr:Nat):Int),x2].map D.int).set ln<|.lst<|By.map D.str) lx=some (.lst<|[x0,((tr:Nat):Int),x2].map D.int):=(ag<|ib aa UW).trans aa;have NW:((S.set lx<|.lst<|[x0,((tr:Nat):Int),x2].map D.int).set ln<|.lst<|By.map D.str) ln=some (.lst<|By.map D.str):=aa;have s1:=(Sub.new (c:=.lst<|[x0,((tr:Nat):Int),x2].map D.int) y6).trans<|.new (c:=.lst<|By.map D.str) UW;have nxn:lx≠ln:=ib aa UW;rw[show[D.str "key",.str "a",.str "ab",.str "at",.str "up",.str "mark",.str "b",.str "price"]=By.map D.str from rfl];generalize (S.set lx<|.lst<|[x0,((tr:Nat):Int),x2].map D.int).set ln (.lst<|By.map D.str)=S1 at Hc NW s1⊢;refine{Gv,λp hp=>!{_,_,(Sub.new hp) _ _ Hc,rfl,by decide,bH (zL _<|by decide) (zJ _<|by decide) hp λd hd=>?_}};obtain⟨m,rfl,hm⟩:∃m:Nat,d=.int m/\m<=8:=by have hd:d∈[D.int 1,.int 2,.int 3,.int 0,.int 2,.int 1,.int 8,.int 3]:=hd;simp only[zh,zM,or_false]at hd;rcases hd with h|h|h|h|h|h|h|h;exact{1,h,by decide};exact{2,h,by decide};exact{3,h,by decide};exact{0,h,by decide};exact{2,h,by decide};exact{1,h,by decide};exact{8,h,by decide};exact{3,h,by decide}
 refine{mm,λlf MA=>?_};have adV:S1 lx≠none:=by rw[Hc];nofun
 have nxf:lx≠lf:=ib Hc MA;have nnf:ln≠lf:=ib NW MA;have sz:=s1.trans<|Sub.new (c:=.lst []) MA;have aae:S lf=none:=by cases e:S lf with|none=>rfl|some z=>have:=s1 _ _ e;rw[MA]at this;cases this
 refine{λaI S'=>∃(cs:List (Str×Str))(o6:Option D),aI=[some<|.int c,some<|.ref lx,some<|.ref ln,some<|.int (m:Nat),some<|.ref lf,o6]/\Cg cs/\S' lf=some (.lst<|cs.map aA)/\Sub S S',?_,?_};refine !{((m:Nat):Int),rfl,by lia,by lia,?_};refine{λi aI S'=>∃(cs:List (Str×Str))(y2:Int)(o6:Option D),aI=[some<|.int c,some<|.ref lx,some<|.ref ln,some<|.int (m:Nat),some<|.ref lf,o6]/\cs.map Prod.fst=(List.range i).map (tJ tr)/\(∀c∈cs,c.2 ="number"\/c.2 ="word")/\S' lx=some (.lst<|[x0,((tr:Nat):Int),y2].map D.int)/\S' ln=some (.lst<|By.map D.str)/\S' lf=some (.lst<|cs.map aA)/\Sub S S',{[],x2,none,rfl,rfl,λ_ h=>(nomatch h),(ag nxf).trans Hc,(ag nnf).trans NW,aa,sz},λ_ _ _ _=>trivial,?_,?_};rintro i d aI S' hd ⟨cs,y2,o6,rfl,hn,hk,hX,hN,hF,hs⟩;have hd:(dQ 0 ((m:Nat):Int).toNat)[i]?=some d:=hd;obtain⟨hi,rfl⟩:=cP hd;have Bs:cs.length=i:=by have:=congrArg List.length hn;simpa using this
 have enm:mD (By.map D.str) ((((tr:Nat):Int)+3*(0+((i:Nat):Int)))%8)=some (.str<|tJ tr i):=by rw[show(((tr:Nat):Int)+3*(0+((i:Nat):Int)))%8=(((tr+3*i)%8:Nat):Int) by lia];have eO:(tr+3*i)%8<8:=Nat.mod_lt _ (by decide);refine dy ?_;rw[zk];unfold tJ;rw[zH,zf<|show(tr+3*i)%8<By.length from eO];rfl
 refine{_,rfl,{rfl,_,hF},_,rfl,_,rfl,_,_,hX,rfl,_,rfl,.inl {by decide,by decide},by decide,_,_,hN,enm,cG,λp hp=>!{_,_,(Sub.new hp) _ _ hX,rfl,by decide,bH (zL _<|by decide) (zJ _<|by decide) hp λd hd=>?_}};obtain⟨kd,rfl,VJ⟩:∃kd:Str,d=.str kd/\(kd ="number"\/kd ="word"):=by have hd:d∈[D.str "number",.str "word"]:=hd;simp only[zh,zM,or_false]at hd;rcases hd with h|h;exact{_,h,.inl rfl};exact{_,h,.inr rfl}
 refine{cG,lf,_,_,rfl,rfl,hF,bg<|by rw[za];lia,?_};have Df:(S'.set lf<|.lst<|cs.map aA++[.tup [.str<|tJ tr i,.str kd]]) lx=some (.lst<|[x0,((tr:Nat):Int),y2].map D.int):=(ag nxf).trans hX;refine !{_,_,Df,rfl,{by decide,by trivial},_,rfl,lx,_,2,2,rfl,rfl,Df,rfl,?_};refine{cs++[(tJ tr i,kd)],y2/2,_,rfl,?_,?_,aa,(ag nxn.symm).trans<|(ag nnf).trans hN,?_,λb x hb=>?_};rw[zG,hn,List.range_succ,zG];rfl;intro c hc;rcases zP.mp hc with h|h;exact hk c h;rw[zE.mp h];exact VJ;rw[ag nxf.symm,aa,zG];rfl;have hbx:b≠lx:=ib hb y6;rw[ag hbx,ag<|ib hb aae];exact hs b x hb;rintro aI S' ⟨cs,y2,o6,rfl,hn,hk,hX,hN,hF,hs⟩;rw[show({dQ 0 ((m:Nat):Int).toNat,λ_=>True}:q9).xs.length=((m:Nat):Int).toNat from b_,show((m:Nat):Int).toNat=m by lia]at hn;have Bs:cs.length=m:=by have:=congrArg List.length hn;simpa using this
 have RT:∀c∈cs,c.1∈By:=λc hc=>by have:c.1∈cs.map Prod.fst:=zg.mpr ⟨c,hc,rfl⟩;rw[hn]at this;obtain⟨j,_,e⟩:=zg.mp this;rw[<-e];exact Q1 tr j
 have hnd:(cs.map Prod.fst).Nodup:=by rw[hn,zU λj _=>(Q2 tr j).symm];exact Jn (tr%8) (Nat.mod_lt _<|by decide) m<|by lia
 exact fo {cs,_,rfl,{{by lia,hnd,λc hc=>{(Jm _<|RT c hc).1,hk c hc}},RT},hF,hs};rintro aI S' ⟨cs,o6,rfl,hc,hF,hs⟩;exact !{_,_,rfl,.inl hF,S,hs,q cs hc}
inductive tK (ds:List D) (S:au) (R:KD) (Z:KX):Prop where
 |mk (cs:List<|Str×Str) (l:Addr) (xs:List Int) (h0:ds=[.tup<|cs.map aA,.ref l]) (h1:Gd cs) (h2:S l=some (.lst<|xs.map D.int)) (h3:cs.length<=xs.length) (h4:∀ws,Wg cs ws->R (.tup ws) S)
theorem GF(T:Txt w K mg t):Ok P w base T.sX 2 tK:=by
 refine T.sX.F.bG AO ?_;obtain⟨cs,l,xs,e,hg,hl,Kx,q⟩;have h8:=hg.1;refine{_,(s1<|sr<|ct gz T.bw aW<|ac (vd (N:=["_law_k","_law_xs","_law_columns_here"]) (src:=[none,some 1,some 0]) (kD (ae CG) ["_law_columns_here","_law_xs"] rfl rfl<|by trivial) (NO T.gD<|ac (cb aQ T.aM aE<|al 0 an) an) (pT<|show(["_law_k","_law_xs","_law_columns_here"]:List Str).Nodup by trivial) (aU rfl) aV (λ_ _ _ _ _=>sC) λ_ _ _ _ _=>(aT T.ng (tI T) hr<|ac (ix hr.u (ix hr.u (dv 2)<|dv 0) di)<|ac (ix hr.u (dv 1)<|dv 0) an)) an),?_};refine !!!{by rw[za];lia,by rw[za];lia,?_};rw[za];refine iu (λd v=>∃(j:Nat) (c:Str×Str),d=.int (0+(j:Nat))/\cs[j]?=some c/\Vg c.2 v) trivial (by show(dQ 0 _).length<=_;rw[b_];lia) (λd hd Q hQ=>?_) λout hp p kX=>?_;obtain⟨j,hj⟩:=yp hd;have hj:(dQ 0 ((cs.length:Nat):Int).toNat)[j]?=some d:=hj;obtain⟨hjn,rfl⟩:=cP hj;have hjc:j<cs.length:=by lia
 have ec:=zf hjc;generalize cs[j]=c at ec;have ex:(xs.map D.int)[j]?=some (.int<|xs[j]'(by lia)):=by rw[zk,zf<|show j<xs.length by lia];rfl
 generalize xs[j]'_=x at ex;have ej:(0:Int)+((j:Nat):Int)=((j:Nat):Int):=Int.zero_add _;refine !!{aA c,by rw[ej];exact dy<|by rw[zk,ec];rfl,_,rfl,_,rfl,_,rfl,_,_,hl,by rw[ej];exact dy ex,c.2,x,rfl,λv hv=>hQ v ⟨j,c,rfl,ec,hv⟩};have hw:Wg cs out:=by have hlen:=yH hp;rw[show({dQ 0 ((cs.length:Nat):Int).toNat,λ_=>True}:q9).xs=dQ 0 ((cs.length:Nat):Int).toNat from rfl,b_]at hlen;refine oY (by lia) λj c v ec ev=>?_;obtain⟨d,hd,j',c',e1,e2,hv⟩:=cW hp ev;have hd:(dQ 0 ((cs.length:Nat):Int).toNat)[j]?=some d:=hd;obtain⟨_,e3⟩:=cP hd;rw[e3]at e1;have e1:(0:Int)+((j:Nat):Int)=0+((j':Nat):Int):=D.int.inj e1;obtain rfl:j=j':=(by lia);rw[ec]at e2;cases e2;exact hv
 exact{_,out,rfl,.inl aa,S,.new kX,q out hw}
abbrev Kn:=List<|Str×List D
noncomputable def gb(kn:Kn):List (Key×D):=kn.map λr=>(Sum.inr r.1,D.tup r.2)
noncomputable def iE(kn:Kn)(z:Str):Option (List D):=(kn.find? λr=>decide<|r.1=z).map (·.2)
structure KI(cs:List (Str×Str))(kn:Kn):Prop where
 nd:(kn.map (·.1)).Nodup
 ok:∀r∈kn,r.1∈KS/\Wg cs r.2
theorem bQ:iE (r::kn) k=if r.1=k then some r.2 else iE kn k:=by unfold iE;rw[z0];by_cases h:r.1=k;rw[zu h,if_pos h];rfl;rw[zq h,if_neg h]
theorem nH(kn:Kn)(k:Str):bZ (gb kn) (.inr k)=(iE kn k).map D.tup:=by induction kn with|nil=>rfl|cons r kn ih=>rw[bQ];unfold bZ gb at *;rw[zI,z0];by_cases h:r.1=k;have:decide ((Sum.inr r.1:Key)=.inr k)=true:=zu (by rw[h]);dsimp only;rw[this,if_pos h];rfl;have:decide ((Sum.inr r.1:Key)=.inr k)=false:=zq λe=>h<|yN e;dsimp only;rw[this,if_neg h];exact ih
theorem rC(h:iE kn k=some ws):(k,ws)∈kn:=by induction kn with|nil=>(cases h)|cons r kn ih=>rw[bQ]at h;by_cases hk:r.1=k;rw[if_pos hk]at h;cases h;rw[<-hk];exact zo;rw[if_neg hk]at h;exact zi _<|ih h
theorem mr(h:k∈kn.map (·.1)):∃ws,iE kn k=some ws:=by induction kn with|nil=>(cases h)|cons r kn ih=>rw[bQ];by_cases hk:r.1=k;exact{r.2,if_pos hk};rw[if_neg hk];rw[zI]at h;rcases zh.mp h with e|h;exact absurd e.symm hk;exact ih h
theorem sub_len[DecidableEq α]:∀{l m:List α},l.Nodup->(∀x∈l,x∈m)->l.length<=m.length|[],m,_,_=>zT _|a::l,m,nd,h=>by obtain⟨n1,n2⟩:=yo.mp nd;have h1:=sub_len (m:=m.erase a) n2 λx hx=>(List.mem_erase_of_ne λe=>n1<|by rw[<-e];exact hx).mpr<|h x<|zi _ hx;have h2:=List.length_erase_of_mem<|h a zo;have h3:0<m.length:=List.length_pos_of_mem<|h a zo;rw[zQ];omega
theorem KI.len(h:KI cs kn):kn.length<=60:=by
 have:=sub_len h.nd (m:=KS) λx hx=>by obtain⟨r,hr,rfl⟩:=zg.mp hx;exact(h.ok r hr).1
 rw[za]at this;exact zK this<|by trivial
noncomputable def qI(kn:Kn)(z:Str)(ws:List D):Kn:=if (iE kn z).isSome then kn.map λr=>if r.1=z then (r.1,ws) else r else kn++[(z,ws)]
noncomputable def oZ(kn:Kn)(z:Str):Kn:=kn.filter λr=>decide<|r.1≠z
theorem Jo(kn:Kn)(z:Str)(ws:List D):dput (gb kn) (.inr z) (.tup ws)=gb (qI kn z ws):=by
 unfold dput qI;have e:((gb kn).any λkv=>decide<|kv.1=.inr z)=(iE kn z).isSome:=by induction kn with|nil=>rfl|cons r kn ih=>unfold gb at *;rw[zI,yQ,ih,bQ];by_cases h:r.1=z;rw[if_pos h,zu<|by rw[h],Bool.true_or];rfl;rw[if_neg h,zq λe=>h<|yN e,yU]
 rw[e];split;unfold gb;rw[zx,zx];refine zU λr _=>?_;dsimp only[Function.comp];by_cases h:r.1=z;rw[if_pos h,if_pos<|by rw[h]];rw[if_neg h,if_neg λe=>h<|yN e];unfold gb;rw[zG];rfl
theorem Jp(kn:Kn)(z:Str):Af (gb kn) (.inr z)=gb (oZ kn z):=by unfold Af oZ gb;rw[List.filter_map];congr 1;refine List.filter_congr λr _=>?_;dsimp only[Function.comp];rw[yM];exact{λh e=>h<|by rw[e],λh e=>h<|yN e}
theorem MC:iE (qI kn z ws) k=if k=z then some ws else iE kn k:=by
 unfold qI;by_cases hs:(iE kn z).isSome=true;rw[if_pos hs];by_cases hk:k=z;subst hk;rw[if_pos rfl];induction kn with|nil=>(cases hs)|cons r rs ih=>rw[zI,bQ];by_cases h:r.1=k;rw[if_pos h,if_pos h];rw[if_neg h,if_neg h];rw[bQ,if_neg h]at hs;exact ih hs
 rw[if_neg hk];clear hs;induction kn with|nil=>rfl|cons r rs ih=>rw[zI,bQ,bQ,ih];by_cases h:r.1=z;rw[if_pos h,if_neg<|show ¬r.1=k from λe=>hk<|e.symm.trans h,if_neg<|show ¬r.1=k from λe=>hk<|e.symm.trans h];rw[if_neg h]
 rw[if_neg hs];have hn:iE kn z=none:=by cases e:iE kn z<;>simp_all
 clear hs;induction kn with|nil=>rw[List.nil_append,bQ];by_cases hk:k=z;rw[if_pos hk,if_pos hk.symm];rw[if_neg hk,if_neg λe=>hk e.symm]|cons r rs ih=>rw[bQ]at hn;by_cases h:r.1=z;rw[if_pos h]at hn;cases hn;rw[if_neg h]at hn;rw[List.cons_append,bQ,bQ,ih hn];by_cases h2:r.1=k;rw[if_pos h2,if_pos h2,if_neg<|show ¬k=z from λe=>h<|h2.trans e];rw[if_neg h2,if_neg h2]
theorem EI:iE (oZ kn z) k=if k=z then none else iE kn k:=by unfold oZ;induction kn with|nil=>(split<;>rfl)|cons r kn ih=>rw[List.filter_cons,bQ];by_cases h:r.1=z;rw[if_neg<|by simp[h],ih];by_cases hk:k=z;rw[if_pos hk,if_pos hk];rw[if_neg hk,if_neg hk,if_neg<|show ¬r.1=k from λe=>hk<|e.symm.trans h];rw[if_pos<|by simp[h],bQ,ih];by_cases hk:k=z;rw[if_pos hk,if_pos hk,if_neg<|show ¬r.1=k from λe=>h<|e.trans hk];rw[if_neg hk,if_neg hk]
theorem KI.put(h:KI cs kn)(hz:z∈KS)(hw:Wg cs ws):KI cs (qI kn z ws):=by
 unfold qI;split;refine{?_,λr hr=>?_};have:(kn.map λr=>if r.1=z then (r.1,ws) else r).map (·.1)=kn.map (·.1):=by rw[zx];exact zU λr _=>by dsimp only[Function.comp];split<;>rfl
 rw[this];exact h.nd;obtain⟨r0,xX,e⟩:=zg.mp hr;by_cases q:r0.1=z;rw[if_pos q]at e;subst e;exact{(h.ok r0 xX).1,hw};rw[if_neg q]at e;subst e;exact h.ok r0 xX;rename_i hs;refine{?_,λr hr=>?_};rw[zG];refine mM h.nd λm=>hs ?_;obtain⟨Xi,e⟩:=mr m;show(iE kn z).isSome=true;rw[show iE kn z=some Xi from e];rfl;rcases zP.mp hr with hr|hr;exact h.ok r hr;rw[zE.mp hr];exact⟨hz,hw⟩
theorem KI.del(h:KI cs kn)(z:Str):KI cs (oZ kn z):={(List.Sublist.map _ yt).nodup h.nd,λr hr=>h.ok r (yk.mp hr).1}
def GD(ks:List Str)(cs:List<|Str×Str)(kn:Kn)(d:D):Prop:=(∃z ws,z∈ks/\Wg cs ws/\iE kn z=none/\d=.tup [.str "put",.str z,.tup ws])\/(∃z ws,z∈KS/\Wg cs ws/\(iE kn z).isSome=true/\d=.tup [.str "change",.str z,.tup ws])\/∃z,z∈KS/\(iE kn z).isSome=true/\d=.tup [.str "take",.str z]
def Ly(S:au)(n:Nat)(d:D):Prop:=∃p,Dp S d p/\p.canLay0=true/\p.depth<=n
theorem Ly.all:∀{ds:List D},(∀d∈ds,Ly S n d)->∃ps:List PyData,DpAll S ds ps/\PyData.canLayAll0 ps=true/\PyData.depthAll ps<=n/\ps.length=ds.length|[],_=>{[],by simp only[DpAll],rfl,zT _,rfl}|d::ds,h=>by obtain⟨p,h1,h2,h3⟩:=h d zo;obtain⟨ps,k1,k2,k3,k4⟩:=Ly.all λx hx=>h x<|zi _ hx;refine{p::ps,by simp only[DpAll];exact⟨p,ps,rfl,h1,k1⟩,by simp only[PyData.canLayAll0,h2,k2,Bool.and_self],by simp only[PyData.depthAll];lia,by rw[zQ,zQ,k4]}
theorem Ly.tup{S:au}{n:Nat}{ds:List D}(h:∀d∈ds,Ly S n d):Ly S (n+1) (.tup ds):=by obtain⟨ps,k1,k2,k3,_⟩:=Ly.all h;exact{.tuple ps,by simp only[Dp];exact⟨ps,rfl,k1⟩,by simp only[PyData.canLay0];exact k2,by simp only[PyData.depth];lia}
theorem Ly.str(h:PyData.strOk z=true):Ly S 0 (.str z):={.str z,by simp only[Dp],by simp only[PyData.canLay0];exact h,by simp only[PyData.depth];lia}
theorem Ly.le(h:Ly S n d)(l:n<=m):Ly S m d:=by obtain⟨p,a,b,c⟩:=h;exact{p,a,b,zK c l}
theorem Ly.av:Ly S 0 .av:={.none,by simp only[Dp],by simp only[PyData.canLay0],by simp only[PyData.depth];lia}
theorem Ly.plain(h:eN d=true):Ly S 0 d:=by cases d with|av=>exact Ly.av|int i=>exact{.int i,by simp only[Dp],by simp only[PyData.canLay0],by simp only[PyData.depth];lia}|str z=>have h:(decide (z.cps.size<=40)&&PyData.strOk z)=true:=h;rw[zO]at h;exact Ly.str h.2|_=>cases h
theorem Ly.dl(h:Ly S n d):∃p,Dl S d p/\p.canLay0=true/\p.depth<=n:=by obtain⟨p,a,b,c⟩:=h;refine{p,?_,b,c};cases d with|ref x=>simp only[Dp]at a|_=>exact a
theorem Ly.lst{S:au}{n:Nat}{a:Addr}{ds:List D}(e:S a=some (.lst ds))(h:∀d∈ds,Ly S n d):∃p,Dl S (.ref a) p/\p.canLay0=true/\p.depth<=n+1/\∀b,S b=some (.lst ds)->Dl S (.ref b) p:=by obtain⟨ps,k1,k2,k3,_⟩:=Ly.all h;exact{.list ps,⟨ds,ps,e,rfl,k1⟩,by simp only[PyData.canLay0];exact k2,by simp only[PyData.depth];lia,λb hb=>⟨ds,ps,hb,rfl,k1⟩}
theorem nI{S:au}{a b:Addr}{ds:List D}{R:KD}{neg:Bool}(e1:S a=some (.lst ds))(e2:S b=some (.lst ds))(h:∀d∈ds,Ly S 60 d)(q:R (.bl<|!neg) S):Eh neg (.ref a) (.ref b) S R:=by
 obtain⟨p,k1,k2,k3,k4⟩:=Ly.lst e1 h;have e:(if neg then !PyData.eqv p p else PyData.eqv p p)=!neg:=by rw[SeqAt.eqv_refl p k2];cases neg<;>rfl
 exact{p,p,k1,k4 b e2,k2,k2,.inl<|by lia,by rw[e];exact q}
theorem AW(ps:List PyData):PyData.eqv (.list ps) (.list [])=ps.isEmpty:=by cases ps<;>simp[PyData.eqv,PyData.eqvAll]
theorem Jq(ps:List PyData):PyData.eqv (.tuple ps) (.tuple [])=ps.isEmpty:=by cases ps<;>simp[PyData.eqv,PyData.eqvAll]
theorem eq_nil{S:au}{a b:Addr}{ds:List D}{R:KD}(e1:S a=some (.lst ds))(e2:S b=some (.lst []))(h:∀d∈ds,Ly S 60 d)(q:R (.bl ds.isEmpty) S):Eh false (.ref a) (.ref b) S R:=by obtain⟨ps,k1,k2,k3,k4⟩:=Ly.all h;refine{.list ps,.list [],⟨ds,ps,e1,rfl,k1⟩,{[],[],e2,rfl,by simp only[DpAll]},by simp only[PyData.canLay0];exact k2,by simp only[PyData.canLay0,PyData.canLayAll0],.inl<|by simp only[PyData.depth];lia,?_};rw[if_neg zd,AW,show ps.isEmpty=ds.isEmpty by cases ps<;>cases ds<;>first|rfl|cases k4];exact q
theorem MD{S:au}{ds:List D}{R:KD}(h:∀d∈ds,Ly S 60 d)(q:R (.bl ds.isEmpty) S):Eh false (.tup ds) (.tup []) S R:=by obtain⟨ps,k1,k2,k3,k4⟩:=Ly.all h;refine{.tuple ps,.tuple [],by simp only[Dl,Dp];exact⟨ps,rfl,k1⟩,by simp only[Dl,Dp];exact{[],rfl,by simp only[DpAll]},by simp only[PyData.canLay0];exact k2,by simp only[PyData.canLay0,PyData.canLayAll0],.inl<|by simp only[PyData.depth];lia,?_};rw[if_neg zd,Jq,show ps.isEmpty=ds.isEmpty by cases ps<;>cases ds<;>first|rfl|cases k4];exact q
theorem Wg.all(h:Wg cs ws):∀d∈ws,eN d=true:=by unfold Wg at h;induction h with|nil=>exact λ_ h=>(nomatch h)|cons r t ih=>intro d hd;rcases zh.mp hd with e|hd;rw[e];exact r.2;exact ih d hd
theorem Wg.ly{cs:List<|Str×Str}{ws:List D}(h:Wg cs ws){S:au} : Ly S 1 (.tup ws):=Ly.tup λd hd=>Ly.plain<|h.all d hd
theorem KI.ly{cs:List<|Str×Str}{kn:Kn}(hI:KI cs kn){ss:List Str}(hp:ss.Perm (kn.map (·.1))){S:au} : ∀d∈ss.map D.str,Ly S 60 d:=λd hd=>by obtain⟨z,hz,rfl⟩:=zg.mp hd;obtain⟨r,hr,e⟩:=zg.mp<|hp.mem_iff.mp hz;rw[<-e];exact(Ly.str (f_ _ (hI.ok r hr).1).2.2).le<|zT _
def Mo(sp:kO):kO:=λds S R Z=>∃R0 Z0,sp ds S R0 Z0/\(∀d S',R0 d S'->R d S')/\∀C S',Z0 C S'->Z C S'
theorem Q3(F:bI P w K mg base (fE P w mg) k f fd ps<|q8 K sp):bI P w K mg base (fE P w mg) k f fd ps (q8 K<|Mo sp):=F.imp <| by rintro vs H Q E ⟨ds,S,R,Z,v,hS,⟨R0,Z0,h,h1,h2⟩,hR,hZ⟩;exact{ds,S,R0,Z0,v,hS,h,λd S' u H' r=>hR d S' u H'<|h1 _ _ r,λC S' H' z=>hZ C S' H'<|h2 _ _ z}
abbrev Of:=kf
abbrev AX:=fY
abbrev Jr:=i6
def KnD(kn:Kn)(d:D)(fu:Kn):Prop:=(∃(n:Str) (z:Str) (ws:List D),(n ="put"\/n ="change")/\d=.tup [.str n,.str z,.tup ws]/\fu=qI kn z ws)\/∃z,(iE kn z).isSome=true/\d=.tup [.str "take",.str z]/\fu=oZ kn z
inductive Dg (t:fk) (ds:List D) (S:au) (R:KD) (Z:KX):Prop where
 |mk (a fs) (h0:S a=some (.ins t.ak fs)) (h1:fs.map Prod.fst=(["columns","deeds","runs"]:List Str)) (h2:((∃k v,ds=[.ref a,.tup [.str "put",k,v]]/\Of t [.ref a,k,v] S R Z)\/(∃k v,ds=[.ref a,.tup [.str "change",k,v]]/\AX t [.ref a,k,v] S R Z)\/∃k,ds=[.ref a,.tup [.str "take",k]]/\Jr t [.ref a,k] S R Z))
theorem lk0:∀{fs:List (Str×D)},m∉fs.map Prod.fst->fs.lookup m=none|[],_=>rfl| (a,b)::fs,h=>by rw[zI,zh]at h;rw[yc,show(m==a)=false from beq_false_of_ne λe=>h<|.inl e];exact lk0 λq=>h<|.inr q
theorem lk3{fs:List<|Str×D}(h:fs.map Prod.fst=(["columns","deeds","runs"]:List Str)){m:Str}(hm:m∉(["columns","deeds","runs"]:List Str)):fs.lookup m=none:=lk0<|by rw[h];exact hm
def Oh(t:fk):kO:=λds S R Z=>Dg t ds S (λ_=>R .av) Z
theorem ME(T:Txt w K mg t):Ok P w base T.wR 7 (Oh t):=by have kh:rh P w mg base T.fz 6 (Mo<|Of t):=Q3<|QV T;have gf:rh P w mg base T.dh 6 (Mo<|AX t):=Q3<|GA T;have i7:rh P w mg base T.dM 6 (Mo<|Jr t):=Q3<|EG T;refine T.wR.F.ok Gr (λds S R Z ⟨_,_,_,_,h⟩=>by rcases h with⟨_,_,e,_⟩|⟨_,_,e,_⟩|⟨_,e,_⟩<;>rw[e]<;>rfl) λg_ A outer s H E ds S R Z hr ⟨a,fs,ha,hf,h⟩=>?_;rcases h with⟨k,v,e,h⟩|⟨k,v,e,h⟩|⟨k,e,h⟩;subst e;refine{_,(s1<|si (bq bA hr.u (ix hr.u (dv 1) di) ds) (s1<|se<|oG (dv 0) T.aj T.fz kh hr<|ac (ix hr.u (dv 1) di)<|ac (ix hr.u (dv 1) di) an)<|s1<|si (bq bA hr.u (ix hr.u (dv 1) di) ds) (s1<|se<|oG (dv 0) T.aj T.dh gf hr<|ac (ix hr.u (dv 1) di)<|ac (ix hr.u (dv 1) di) an)<|s1<|se<|oG (dv 0) T.aj T.dM i7 hr<|ac (ix hr.u (dv 1) di) an),?_};refine !!!⟨?_⟩;refine bX (λ_=>?_) λh=>absurd h (by decide);exact !{a,_,rfl,ha,lk3 hf<|by decide,_,rfl,_,rfl,_,rfl,_,rfl,_,Z,h,λd S' r=>fo r,λC S' z=>fo z};subst e;refine{_,(s1<|si (bq bA hr.u (ix hr.u (dv 1) di) ds) (s1<|se<|oG (dv 0) T.aj T.fz kh hr<|ac (ix hr.u (dv 1) di)<|ac (ix hr.u (dv 1) di) an)<|s1<|si (bq bA hr.u (ix hr.u (dv 1) di) ds) (s1<|se<|oG (dv 0) T.aj T.dh gf hr<|ac (ix hr.u (dv 1) di)<|ac (ix hr.u (dv 1) di) an)<|s1<|se<|oG (dv 0) T.aj T.dM i7 hr<|ac (ix hr.u (dv 1) di) an),?_};refine !!!⟨?_⟩;refine bX (λh=>absurd h<|by decide) λ_=>?_;refine !!!⟨?_⟩;refine bX (λ_=>?_) λh=>absurd h (by decide);exact !{a,_,rfl,ha,lk3 hf<|by decide,_,rfl,_,rfl,_,rfl,_,rfl,_,Z,h,λd S' r=>fo r,λC S' z=>fo z};subst e;refine{_,(s1<|si (bq bA hr.u (ix hr.u (dv 1) di) ds) (s1<|se<|oG (dv 0) T.aj T.fz kh hr<|ac (ix hr.u (dv 1) di)<|ac (ix hr.u (dv 1) di) an)<|s1<|si (bq bA hr.u (ix hr.u (dv 1) di) ds) (s1<|se<|oG (dv 0) T.aj T.dh gf hr<|ac (ix hr.u (dv 1) di)<|ac (ix hr.u (dv 1) di) an)<|s1<|se<|oG (dv 0) T.aj T.dM i7 hr<|ac (ix hr.u (dv 1) di) an),?_};refine !!!⟨?_⟩;refine bX (λh=>absurd h<|by decide) λ_=>?_;refine !!!⟨?_⟩;refine bX (λh=>absurd h<|by decide) λ_=>?_;exact !{a,_,rfl,ha,lk3 hf<|by decide,_,rfl,_,rfl,_,Z,h,λd S' r=>fo r,λC S' z=>fo z}
noncomputable def p3(p:Str×Str×Str):D:=.tup [.str p.1,.str p.2.1,.str p.2.2]
noncomputable def nJ(z:Str):Bool:=decide (z ="up")||decide (z ="down")
noncomputable def GG(z:Str):Bool:=decide (z ="first")||decide (z ="last")
theorem Js(z a b:Str)(x y:V):(([(a,x),(b,y)]:List (Str×V)).lookup z).isSome=(decide (z=a)||decide (z=b)):=by rw[yc,yc];by_cases h:z=a;rw[show(z==a)=true by simp[h],zu h];rfl;rw[show(z==a)=false by simp[h],zq h];by_cases h2:z=b;rw[show(z==b)=true by simp[h2],zu h2];rfl;rw[show(z==b)=false by simp[h2],zq h2];rfl
noncomputable def gJ(cs:List<|Str×Str)(p:Str×Str×Str):Bool:=decide (p.1∈cs.map Prod.fst)&&(nJ p.2.1&&GG p.2.2)
noncomputable def Dh(cs:List<|Str×Str)(ps:List<|Str×Str×Str)(wy:Str):Bool:=decide (ps.length<=8)&&(ps.all (gJ cs)&&(decide ((ps.map Prod.fst).Nodup)&&nJ wy))
theorem nK(l:List<|Str×D)(z:Str)(h:bZ (fH l) (.inr z)=some d):∃p∈l,p.1=z/\d=p.2:=by
 have all:∀(l:List (Str×D))(c:List (Key×D)),bZ (l.foldl (λc p=>dput c (.inr p.1) p.2) c) (.inr z)=some d->(∃p∈l,p.1=z/\d=p.2)\/bZ c (.inr z)=some d:=by intro l;induction l with|nil=>intro c h;exact .inr h|cons p l ih=>intro c h;rcases ih _ h with⟨q,hq,e⟩|h;exact .inl {q,zi _ hq,e};rw[Am]at h;by_cases e:(.inr z:Key)=.inr p.1;rw[if_pos e]at h;exact .inl {p,zo,(yN e).symm,(zR h).symm};rw[if_neg e]at h;exact .inr h
 rcases all l [] h with h|h;exact h;cases h
def Pok(p:Str×Str×Str):Prop:=p.1.cps.size<=1000/\p.2.1.cps.size<=1000/\p.2.2.cps.size<=1000
inductive AY (ds:List D) (S:au) (R:KD) (Z:KX):Prop where
 |mk (z) (h0:ds=[.str z]) (h1:R (.bl<|nJ z) S)
theorem vH(T:Txt w K mg t):Ok P w base T.wM 1 AY:=by refine T.wM.F.bG Gn ?_;obtain⟨z,e,q⟩;refine{_,(s1<|sr<|sx (cb dk T.ax aq<|al 0<|ac (t_ T.pW jF) an)<|Ia<|Zx T.AF (dv 0)<|dg (v:=.ref t.jO) T.wG rfl λ_=>iH _),?_};refine !{_,_,_,_,rfl,cZ,rfl,_,rfl,dG !{z,rfl,rfl,?_}};rw[Js];exact fo q
inductive AZ (ds:List D) (S:au) (R:KD) (Z:KX):Prop where
 |mk (z) (h0:ds=[.str z]) (h1:R (.bl<|GG z) S)
theorem GH(T:Txt w K mg t):Ok P w base T.CK 1 AZ:=by refine T.CK.F.bG Gq ?_;obtain⟨z,e,q⟩;refine{_,(s1<|sr<|sx (cb dk T.ax aq<|al 0<|ac (t_ T.pW jF) an)<|Ia<|Zx T.AG (dv 0)<|dg (v:=.ref t.jP) T.wH rfl λ_=>iH _),?_};refine !{_,_,_,_,rfl,cZ,rfl,_,rfl,dG !{z,rfl,rfl,?_}};rw[Js];exact fo q
inductive nL (ds:List D) (S:au) (R:KD) (Z:KX):Prop where
 |mk (cs z) (h0:ds=[.tup<|cs.map aA,.str z]) (h1:Gd cs) (h2:z.cps.size<=1000) (h3:(∀k,(z,k)∈cs->R (.str k) S)) (h4:(z∉cs.map Prod.fst->R .av S))
theorem gZ(T:Txt w K mg t):Ok P w base T.eG 3 nL:=by
 refine T.eG.F.bG uy ?_;obtain⟨cs,z,e,hg,hz,q1,q2⟩;refine{_,(sc (si (cM<|tv<|aT T.rn (tw T) hr<|al 1 an) (s1<|sr dn) s0)<|s1<|sr<|mg1 hr.u (ct Iv T.I9 Ec<|al 0 an)<|dv 1),?_};refine !{.str z,rfl,gt_str hz,_,rfl,?_};refine bX (λh=>?_) λh=>?_;have h:lC z=false:=nt h;refine fo<|q2 λm=>?_;obtain⟨c,hc,rfl⟩:=zg.mp m;rw[(hg.2.2 c hc).1]at h;cases h;have ek:cs.map aA=(cs.map λc=>(c.1,D.str c.2)).map El:=by rw[zx];rfl
 refine !{(cs.map λc=>(c.1,D.str c.2)),by rw[ek],λp hp=>{p,_,rfl,aa,_,rfl,_,.inr z,aa,rfl,S,.new hp,?_}};have h1:=vg (cs.map λc=>(c.1,D.str c.2)) z;cases q3:bZ (fH<|cs.map λc=>(c.1,D.str c.2)) (.inr z) with|none=>(rw[q3]at h1;refine q2 λm=>?_;obtain⟨c,hc,e⟩:=zg.mp m;have:(cs.map λc=>(c.1,D.str c.2)).any (λp=>decide<|p.1=z)=true:=List.any_eq_true.mpr {_,zg.mpr ⟨c,hc,rfl⟩,zu e};rw[this]at h1;cases h1)|some d=>obtain⟨p,hp,e1,rfl⟩:=nK _ _ q3;obtain⟨c,hc,rfl⟩:=zg.mp hp;have e1:c.1=z:=e1;exact q1 c.2<|by rw[<-e1];exact hc
inductive vI (ds:List D) (S:au) (R:KD) (Z:KX):Prop where
 |mk (cs p) (h0:ds=[.tup<|cs.map aA,p3 p]) (h1:Gd cs) (h2:Pok p) (h3:R (.bl<|gJ cs p) S)
theorem Di(T:Txt w K mg t):Ok P w base T.wO 4 vI:=by
 have xn:Ok P w base T.eG 3 (λds S R _=>∃cs z,ds=[.tup<|cs.map aA,.str z]/\Gd cs/\z.cps.size<=1000/\∀d,ai d=!decide (z∈cs.map Prod.fst)->R d S):=(gZ T).Qo <| by rintro ds S R Z ⟨cs,z,e,hg,hz,q⟩;exact{cs,z,e,hg,hz,λk hk=>q _<|by rw[zu<|zg.mpr {_,hk,rfl}];rfl,λhn=>q _<|by rw[zq hn];rfl}
 refine T.wO.F.bG CV ?_;obtain⟨cs,p,e,hg,hp,q⟩;refine{_,(sc (si (twd<|twor (cM<|tv<|cb dk T.ax aq<|al 1<|ac (t_ T.bw aW) an)<|tw1<|bq js hr.u (cb aQ T.aM aE<|al 1 an) di) (s1<|sr db) s0)<|s1<|sr<|sx (cm oy hr.u (aT T.eG xn hr<|al 0<|ac (ix hr.u (dv 1) di) an) dn)<|sx (aT T.wM (vH T) hr<|ac (ix hr.u (dv 1) di) an)<|Ia<|aT T.CK (GH T) hr<|ac (ix hr.u (dv 1) di) an),?_};refine !{_,_,_,_,rfl,aX,rfl,_,rfl,a_ !!!⟨a_ ?_⟩};refine !!!{cs,p.1,rfl,hg,hp.1,λd hd=>!⟨?_⟩};unfold gJ at q;refine bX (λh=>?_) λh=>?_;have h:(!ai d)=true:=h;rw[hd,Bool.not_not]at h;rw[h,yb]at q;refine !!{p.2.1,rfl,_,rfl,?_};refine bX (λh2=>?_) λh2=>?_;rw[h2,yb]at q;exact !!{p.2.2,rfl,fo q};rw[h2,zX]at q;exact fo q;have h:(!ai d)=false:=h;rw[hd,Bool.not_not]at h;rw[h,zX]at q;exact fo q
inductive lG (t:fk) (ds:List D) (S:au) (R:KD) (Z:KX):Prop where
 |mk (cs ps wy) (h0:ds=[.tup<|cs.map aA,.tup [.tup<|ps.map p3,.str wy]]) (h1:Gd cs) (h2:(∀p∈ps,Pok p)) (h3:(Dh cs ps wy=true->R .av S)) (h4:(Dh cs ps wy=false->Z t.l4 S))
theorem gk(T:Txt w K mg t):Ok P w base T.eU 5 (lG t):=by
 refine T.eU.F.bG fU ?_;obtain⟨cs,ps,wy,e,hg,hp,q1,q2⟩;have Sj:(ps.map p3).length=ps.length:=za _;refine{_,(sc (si (twd<|twor (cM<|tv<|cb dk T.ax aq<|al 1<|ac (t_ T.bw aW) an)<|tw1<|bq js hr.u (cb aQ T.aM aE<|al 1 an) di) (s1<|sA ⟨T.dH⟩ T.eS<|ac ds an) s0)<|sc (bO (i:=2) fU.nd<|ix hr.u (dv 1) di)<|sc (si (twd<|twor (cM<|tv<|cb dk T.ax aq<|al 2<|ac (t_ T.bw aW) an)<|tw1<|bq ox hr.u (cb aQ T.aM aE<|al 2 an)<|dg (v:=.int 8) T.jR {_,rfl} λ_=>aS _) (s1<|sA ⟨T.dH⟩ T.eS<|ac ds an) s0)<|sc (si (cM<|tv<|cb k_ T.lj gR<|ac (vd (N:=["part","columns"]) (src:=[none,some 0]) (kD (ae lh) ["columns","order","parts","names"] rfl rfl<|by trivial) (Km<|dv 2) (pT<|show(["part","columns"]:List Str).Nodup by trivial) (aU rfl) aV (λ_ _ _ _ _=>sC) λ_ _ _ _ _=>(aT T.wO (Di T) hr<|al 1<|al 0 an)) an) (s1<|sA ⟨T.dH⟩ T.eS<|ac ds an) s0)<|sc (Kq (i:=3) (N:=["part"]) (src:=[none]) fU.nd (kD (ae lh) ["columns","order","parts","names"] rfl rfl<|by trivial) (Km<|dv 2) (pT<|show(["part"]:List Str).Nodup by trivial) (aU rfl) aV (λ_ _ _ _ _=>sC) λ_ _ _ _ _=>(ix hr.u (dv 0) di))<|sc (si (bq js hr.u (lse (dv 3) T.aM T.N_)<|cb aQ T.aM aE<|al 3 an) (s1<|sA ⟨T.dH⟩ T.eS<|ac ds an) s0)<|s1<|si (cM<|tv<|aT T.wM (vH T) hr<|ac (ix hr.u (dv 1) di) an) (s1<|sA ⟨T.dH⟩ T.eS<|ac ds an) s0),?_};refine !{_,_,_,_,rfl,aX,rfl,_,rfl,a_ !!!⟨a_ ?_⟩};refine !!!{_,_,_,_,rfl,aX,rfl,_,rfl,a_ !!!⟨?_⟩};refine bX (λh=>?_) λh=>?_;have h:(8:Int)<(((ps.map p3).length:Nat):Int):=zC h;rw[Sj]at h;exact{uE,fo<|q2<|by unfold Dh;rw[zq<|by omega];rfl};have h:¬(8:Int)<(((ps.map p3).length:Nat):Int):=yd h;rw[Sj]at h;have h8:ps.length<=8:=by omega
 unfold Dh at q1 q2;rw[zu h8,yb]at q1 q2;refine !{_,.inl rfl,?_};refine iu (λd v=>∃p,d=p3 p/\v=.bl (gJ cs p)) trivial (by show(ps.map p3).length<=_;omega) (λd hd Q hQ=>?_) λout ho p kX=>?_;obtain⟨p,VL,rfl⟩:=zg.mp hd;exact !!{cs,p,rfl,hg,hp p VL,hQ _ ⟨p,rfl,rfl⟩};have eo:out=(ps.map<|gJ cs).map D.bl:=by have:∀{ps:List (Str×Str×Str)}{out:List D},Paired (λd v=>∃p,d=p3 p/\v=.bl (gJ cs p)) (ps.map p3) out->out=(ps.map<|gJ cs).map D.bl:=(by intro ps;induction ps with|nil=>(intro out h;cases h;rfl)|cons x ps ih=>intro out h;cases h with|cons r t=>obtain⟨p,e1,e2⟩:=r;have:x=p:=(by obtain⟨a,b,c⟩:=x;obtain⟨a',b',c'⟩:=p;unfold p3 at e1;injection e1 with e1;injection e1 with h1 e1;injection e1 with h2 e1;injection e1 with h3 _;injection h1 with h1;injection h2 with h2;injection h3 with h3;rw[show a=a' from h1,show b=b' from h2,show c=c' from h3]);rw[e2,ih t,<-this];rfl);exact this ho
 subst eo;refine{.ref p,ps.map<|gJ cs,rfl,aa,_,rfl,?_};rw[show(ps.map<|gJ cs).all id=ps.all (gJ cs) from all_map];refine bX (λha=>?_) λha=>?_;have ha:=nt ha;exact{uE,S,.new kX,q2<|by rw[ha];rfl};have ha:=nf ha;rw[ha,yb]at q1 q2;refine !{_,.inl rfl,?_};refine comp_map (λd=>match d with|.tup (x::_)=>x|_=>.av) trivial (by show(ps.map p3).length<=_;omega) (λd hd Q hQ=>?_) λp2 hG=>?_;obtain⟨p,VL,rfl⟩:=zg.mp hd;exact !!⟨hQ⟩;have e3:(ps.map p3).map (λd=>match d with|.tup (x::_)=>x|_=>.av)=(ps.map Prod.fst).map D.str:=by rw[zx,zx];rfl
 rw[show({ps.map p3,λ_=>True}:q9).xs=ps.map p3 from rfl,e3];have sb:Sub S ((S.set p<|.lst<|(ps.map<|gJ cs).map D.bl).set p2<|.lst<|(ps.map Prod.fst).map D.str):=(Sub.new kX).trans<|.new hG;have VF:((S.set p<|.lst<|(ps.map<|gJ cs).map D.bl).set p2<|.lst<|(ps.map Prod.fst).map D.str) p2=some (.lst<|(ps.map Prod.fst).map D.str):=aa;generalize (S.set p<|.lst<|(ps.map<|gJ cs).map D.bl).set p2 (.lst<|(ps.map Prod.fst).map D.str)=S2 at sb VF⊢;refine !{ps.map Prod.fst,VF,by rw[za];omega,_,rfl,_,rfl,.inl {_,VF,_,rfl,?_}};have e4:decide ((((jb<|ps.map Prod.fst).length:Nat):Int)=((((ps.map Prod.fst).map D.str).length:Nat):Int))=decide ((ps.map Prod.fst).Nodup):=by rw[yM,<-u7,za];omega
 refine bX (λhn=>?_) λhn=>?_;have hn:(!decide ((((jb<|ps.map Prod.fst).length:Nat):Int)=((((ps.map Prod.fst).map D.str).length:Nat):Int)))=true:=hn;rw[e4]at hn;exact{uE,S,sb,q2<|by rw[nt hn];rfl};have hn:(!decide ((((jb<|ps.map Prod.fst).length:Nat):Int)=((((ps.map Prod.fst).map D.str).length:Nat):Int)))=false:=hn;rw[e4]at hn;rw[nf hn,yb]at q1 q2;refine !!{wy,rfl,_,rfl,?_};refine bX (λhw=>?_) λhw=>?_;exact{uE,S,sb,q2<|nt hw};exact{S,sb,q1<|nf hw}
def xo(o:Str)(c:Str×Str)(v:D):Prop:=o ="is"\/(v≠.av/\(o ="below"\/o ="above"\/(o ="begins"/\c.2 ="word")))
def Lf(cs:List<|Str×Str)(d:D):Prop:=d=.tup [.str "every"]\/(∃ks:List Str,d=.tup [.str "key",.tup<|ks.map .str]/\ks.length<=8/\∀k∈ks,k∈KS)\/∃(o:Str) (c:Str×Str) (v:D),c∈cs/\Vg c.2 v/\xo o c v/\d=.tup [.str o,.str c.1,v]
def Sg(cs:List<|Str×Str):Nat->D->Prop|0,_=>False|n+1,d=>Lf cs d\/(∃e,d=.tup [.str "not",e]/\Sg cs n e)\/∃(o:Str) (ds:List D),(o ="and"\/o ="or")/\d=.tup [.str o,.tup ds]/\ds.length<=8/\∀e∈ds,Sg cs n e
theorem Oi(h:Vg k v):Gt S v:=by have h:=h.2;cases v with|av=>(exact{{_,rfl},λz e=>by cases e})|int i=>(exact{{_,rfl},λz e=>by cases e})|str z=>unfold eN at h;simp only[zO,zY]at h;exact gt_str (by lia)|_=>cases h
noncomputable def nM:D->List D|.tup [.str o,.tup ds]=>(if o ="not" then[.tup ds] else if o ="and"\/o ="or" then ds else[])|.tup [.str o,e]=>(if o ="not" then[e] else[])|_=>[]
noncomputable def qk:Nat->D->Nat|0,_=>0|n+1,d=>((nM d).map<|qk n).sum+1
theorem xp(e:D):nM (.tup [.str "not",e])=[e]:=by cases e<;>rfl
theorem xq{o:Str}(h:o ="and"\/o ="or")(ds:List D):nM (.tup [.str o,.tup ds])=ds:=by rcases h with rfl|rfl<;>rfl
def Sq(cs:List<|Str×Str)(d:D):Prop:=Sg cs 7 d/\qk 7 d<=200
inductive iC (ds:List D) (S:au) (R:KD) (Z:KX):Prop where
 |mk (es) (h0:ds=[.tup es]) (h1:es.length<=8) (h2:R (.bl true) S)
theorem ql(T:Txt w K mg t):Ok P w base T.dW 1 iC:=by refine T.dW.F.bG nj ?_;obtain⟨es,e,hl,q⟩;refine{_,(s1<|sr<|sx (cb dk T.ax aq<|al 0<|ac (t_ T.bw aW) an)<|Ia<|cm jH hr.u (cb aQ T.aM aE<|al 0 an)<|dg (v:=.int 8) T.l8 {_,rfl} λ_=>aS _),?_};refine !{_,_,_,_,rfl,aX,rfl,_,rfl,dG !!⟨?_⟩};have e1:decide (((es.length:Nat):Int)<=8)=true:=zu (by lia);show Fo S (R<|.bl<|decide<|((es.length:Nat):Int)<=8);rw[e1];exact fo q
inductive g8 (ds:List D) (S:au) (R:KD) (Z:KX):Prop where
 |mk (cs o c v) (h0:ds=[.tup<|cs.map aA,.tup [.str o,.str c.1,v]]) (h1:Gd cs) (h2:c∈cs) (h3:Vg c.2 v) (h4:xo o c v) (h5:R (.bl true) S)
theorem tL(T:Txt w K mg t):Ok P w base T.jX 4 g8:=by
 refine T.jX.F.bG jZ ?_;obtain⟨cs,o,c,v,e,hg,hc,hv,ho,q⟩;have hn:∀k,(c.1,k)∈cs->k=c.2:=λk hk=>by have:=gI hg.2.1 hk hc rfl;rw[<-this]
 refine{_,(sc (bO (i:=2) jZ.nd<|aT T.eG (gZ T) hr<|al 0<|ac (ix hr.u (dv 1) di) an)<|sc (si (twd<|twor (bq jr hr.u (dv 2) dn)<|tw1<|cM<|tv<|aT T.jU (j8 T) hr<|al 2<|ac (ix hr.u (dv 1) di) an) (s1<|sr db) s0)<|sc (si (bq bA hr.u (ix hr.u (dv 1) di) ds) (s1<|sr db) s0)<|sc (si (twd<|twand (bq bA hr.u (ix hr.u (dv 1) di) ds)<|tw1<|bq js hr.u (dv 2) ds) (s1<|sr db) s0)<|s1<|sr<|cm oy hr.u (ix hr.u (dv 1) di) dn),?_};refine !!!{cs,c.1,rfl,hg,oW (hg.2.2 c hc).1,λk hk=>?_,λhk=>absurd (zg.mpr ⟨c,hc,rfl⟩) hk};cases hn k hk;refine !!⟨a_ !!!{c.2,v,rfl,Oi hv,_,rfl,?_}⟩;rw[hv.1];refine a_ !!!⟨?_⟩;rcases ho with rfl|⟨hvn,ho⟩;exact qg (by trivial)<|fo q;have NX:ai v=false:=by cases v<;>first|rfl|exact absurd rfl hvn
 have e9:(!ai v)=true:=by rw[NX];rfl
 have fin:Fo S (R<|.bl<|!ai v):=by rw[e9];exact fo q
 rcases ho with rfl|rfl|⟨rfl,hw⟩;refine bL (by trivial) !!!⟨bL (by trivial) !!⟨fin⟩⟩;refine bL (by trivial) !!!⟨bL (by trivial) !!⟨fin⟩⟩;refine bL (by trivial) !!!⟨qg (by trivial) !!⟨?_⟩⟩;rw[hw];exact bL (by trivial) !!⟨fin⟩
theorem MF(h:z∈KS):z.cps.size<=1000:=zK (f_ z h).2.1<|by decide
inductive qm (ds:List D) (S:au) (R:KD) (Z:KX):Prop where
 |mk (cs n d) (h0:ds=[.tup<|cs.map aA,d]) (h1:Gd cs) (h2:Sg cs n d) (h3:R (.bl true) S)
theorem xr(T:Txt w K mg t):Ok P w base T.oO 5 qm:=by
 refine T.oO.F.bG w5 ?_;obtain⟨cs,n,d,e,hg,hs,q⟩;refine{_,(sc (si (twd<|twor (cM<|tv<|cb dk T.ax aq<|al 1<|ac (t_ T.bw aW) an)<|twor (bq bA hr.u (cb aQ T.aM aE<|al 1 an) di)<|tw1<|cM<|tv<|cb dk T.ax aq<|ac (ix hr.u (dv 1) di)<|ac (t_ T.pW jF) an) (s1<|sr db) s0)<|sc (si (bq js hr.u (mgk T.Gj (by decide) (gK T.CI)<|ix hr.u (dv 1) di)<|cb aQ T.aM aE<|al 1 an) (s1<|sr db) s0)<|sc (si (bq Ct hr.u (ix hr.u (dv 1) di)<|cN<|ac ds<|ac ds<|ac ds<|ac ds an) (s1<|sr<|aT T.jX (tL T) hr<|al 0<|al 1 an) s0)<|sc (si (bq bA hr.u (ix hr.u (dv 1) di) ds) (s1<|sr<|sx (aT T.dW (ql T) hr<|ac (ix hr.u (dv 1) di) an)<|Ia<|cb k_ T.lj gR<|ac (vd (N:=["key"]) (src:=[none]) (kD (ae Ax) ["columns","thing"] rfl rfl<|by trivial) (Km<|ix hr.u (dv 1) di) (pT<|show(["key"]:List Str).Nodup by trivial) (aU rfl) aV (λ_ _ _ _ _=>sC) λ_ _ _ _ _=>(aT T.l_ (iw T) hr<|al 0 an)) an) s0)<|sc (si (bq Ct hr.u (ix hr.u (dv 1) di)<|cN<|ac ds<|ac ds an) (s1<|sr<|aT T.dW (ql T) hr<|ac (ix hr.u (dv 1) di) an) s0)<|s1<|sr db),?_};cases n with|zero=>exact hs.elim|succ n =>
 rcases hs with (rfl|⟨ks,rfl,VM,Cz⟩|⟨o,c,v,hc,hv,ho,rfl⟩)|⟨e,rfl,he⟩|⟨o,es,ho,rfl,MG,_⟩;refine !{_,_,_,_,rfl,aX,rfl,_,rfl,a_ !!!⟨bL rfl !!{_,_,_,_,rfl,cZ,rfl,_,rfl,a_ ?_}⟩};refine !!!!!!⟨bL rfl ?_⟩;exact !!{uG,rfl,rfl,_,rfl,bL (by trivial) !!!⟨bL (by trivial) !!{cG,rfl,rfl,_,rfl,bL (by trivial)<|fo q}⟩};refine !{_,_,_,_,rfl,aX,rfl,_,rfl,a_ !!!⟨bL rfl !!{_,_,_,_,rfl,cZ,rfl,_,rfl,a_ ?_}⟩};refine !!!!!!⟨bL rfl ?_⟩;refine !!{uG,rfl,rfl,_,rfl,bL (by trivial) !!!⟨qg (by trivial) ?_⟩};refine !!!{by rw[za];exact VM,_,rfl,dG !!{_,.inl rfl,?_}};refine comp_map (λ_=>.bl true) trivial (by show(ks.map D.str).length<=1000;rw[za];lia) (λd hd Q hQ=>?_) λp hp=>?_;obtain⟨k,hk,rfl⟩:=zg.mp hd;refine !{.str k,rfl,gt_str<|MF<|Cz k hk,?_};show Q (.bl<|kW k) S;rw[(f_ k<|Cz k hk).1];exact hQ;have e2:(ks.map D.str).map (λ_=>D.bl true)=(ks.map λ_=>true).map D.bl:=by rw[zx,zx];rfl
 have e3:(ks.map λ_=>true).all id=true:=by rw[all_map];exact zZ.mpr λ_ _=>rfl
 refine{.ref p,ks.map λ_=>true,rfl,?_,S,.new hp,?_};show(S.set p<|.lst<|(ks.map D.str).map _) p=_;rw[aa,e2];rw[e3];exact q;have h4:o ="is"\/o ="below"\/o ="above"\/o ="begins":=by rcases ho with h|⟨_,h|h|⟨h,_⟩⟩;exact .inl h;exact .inr<|.inl h;exact .inr<|.inr<|.inl h;exact .inr<|.inr<|.inr h
 refine !{_,_,_,_,rfl,aX,rfl,_,rfl,a_ !!!⟨bL rfl !!{_,_,_,_,rfl,cZ,rfl,_,rfl,a_ ?_}⟩};have fin:∀Zq:KX,g8 [D.tup<|cs.map aA,.tup [.str o,.str c.1,v]] S (λd S'=>Fo S'<|R d) Zq:=λ_=>{cs,o,c,v,rfl,hg,hc,hv,ho,fo q};rcases h4 with rfl|rfl|rfl|rfl;exact !!!!!!⟨bL rfl !!{uG,rfl,rfl,_,rfl,qg (by trivial) !!⟨(fin _)⟩}⟩;exact !!!!!!⟨bL rfl !!{uG,rfl,rfl,_,rfl,qg (by trivial) !!⟨(fin _)⟩}⟩;exact !!!!!!⟨bL rfl !!{uG,rfl,rfl,_,rfl,qg (by trivial) !!⟨(fin _)⟩}⟩;exact !!!!!!⟨bL rfl !!{uG,rfl,rfl,_,rfl,qg (by trivial) !!⟨(fin _)⟩}⟩;refine !{_,_,_,_,rfl,aX,rfl,_,rfl,a_ !!!⟨bL rfl !!{_,_,_,_,rfl,cZ,rfl,_,rfl,a_ ?_}⟩};refine !!!!!!⟨bL rfl ?_⟩;exact !!{uG,rfl,rfl,_,rfl,bL (by trivial) !!!⟨bL (by trivial) !!{cG,rfl,rfl,_,rfl,bL (by trivial)<|fo q}⟩};have h8:es.length<=8:=by lia
 rcases ho with rfl|rfl;refine !{_,_,_,_,rfl,aX,rfl,_,rfl,a_ !!!⟨bL rfl !!{_,_,_,_,rfl,cZ,rfl,_,rfl,a_ ?_}⟩};refine !!!!!!⟨bL rfl ?_⟩;exact !!{uG,rfl,rfl,_,rfl,bL (by trivial) !!!⟨bL (by trivial) !!{cG,rfl,rfl,_,rfl,qg (by trivial) !!!{h8,fo q}}⟩};refine !{_,_,_,_,rfl,aX,rfl,_,rfl,a_ !!!⟨bL rfl !!{_,_,_,_,rfl,cZ,rfl,_,rfl,a_ ?_}⟩};refine !!!!!!⟨bL rfl ?_⟩;exact !!{uG,rfl,rfl,_,rfl,bL (by trivial) !!!⟨bL (by trivial) !!{cG,rfl,rfl,_,rfl,qg (by trivial) !!!{h8,fo q}}⟩}
inductive jl (ds:List D) (S:au) (R:KD) (Z:KX):Prop where
 |mk (l es cs m) (h0:ds=[.ref l]) (h1:S l=some (.lst es)) (h2:(es.flatMap nM).length<=900) (h3:(∀e∈es,Sg cs (m+1) e)) (h4:∀p,S p=none->R (.ref p) (S.set p<|.lst<|es.flatMap nM))
theorem o9(T:Txt w K mg t):Ok P w base T.gW 1 jl:=by
 refine T.gW.F.bG eK ?_;obtain⟨l,es,cs,m,e,hl,h8,MG,q⟩;refine{_,(sc (bO (i:=1) eK.nd<|cB an)<|sc (Bv<|Ko (il<|dv 0) (gn (i:=2) eK.nd)<|sc (Bv<|si (bq bA hr.u (ix hr.u (dv 2) di) ds) (s1<|se<|bm zN zV zW cC (dv 1)<|ac (ix hr.u (dv 2) di) an) s0)<|s1<|si (bq Ct hr.u (ix hr.u (dv 2) di)<|cN<|ac ds<|ac ds an) (s1<|se<|bm zN PySem.F.slot_list_extend PySem.F.type_list_extend FX (dv 1)<|ac (ix hr.u (dv 2) di) an) s0)<|s1<|sr<|dv 1),?_};refine{mm,λf hf=>?_};have MA:l≠f:=ib hl hf;refine{λaI S'=>∃o,aI=[some<|.ref l,some<|.ref f,o]/\S'=S.set f (.lst<|es.flatMap nM),?_,?_};refine !{es,(ag MA).trans hl,?_};refine{λi aI S'=>∃o,aI=[some<|.ref l,some<|.ref f,o]/\S'=S.set f (.lst<|(es.take i).flatMap nM),⟨none,rfl,rfl⟩,?_,?_,?_};rintro i aI S' ⟨o,rfl,rfl⟩;exact(ag MA).trans hl;rintro i e aI S' he ⟨o,rfl,rfl⟩;have he:es[i]?=some e:=he;have hem:=MG e<|zy he;have et:(es.take<|i+1).flatMap nM=(es.take i).flatMap nM++nM e:=by rw[List.take_add_one,he,List.flatMap_append];simp
 have MH:((es.take i).flatMap nM).length+(nM e).length<=900:=by rw[<-zt,<-et];refine zK ?_ h8;(conv=>rhs;rw[<-List.take_append_drop (i+1) es,List.flatMap_append,zt]);exact Nat.le_add_right _ _
 generalize (es.take i).flatMap nM=fs at et MH⊢;have Sk:(S.set f<|.lst fs) f=some (.lst fs):=aa;have keep:nM e=[]->∃o,[some<|D.ref l,some<|D.ref f,some e]=[some<|.ref l,some<|.ref f,o]/\S.set f (.lst fs)=S.set f (.lst<|(es.take<|i+1).flatMap nM):=λh=>!⟨by rw[et,h,List.append_nil]⟩;have more:∀ds,nM e=ds->∃o,[some<|D.ref l,some<|D.ref f,some e]=[some<|.ref l,some<|.ref f,o]/\(S.set f<|.lst fs).set f (.lst<|fs++ds)=S.set f (.lst<|(es.take<|i+1).flatMap nM):=λds h=>!⟨by rw[et,h,bj]⟩;rcases hem with (rfl|⟨ks,rfl,_,_⟩|⟨o,c,v,_,_,ho,rfl⟩)|⟨e',rfl,WV⟩|⟨o,ds,ho,rfl,hds,hd⟩;refine{λqS S2=>qS=_/\S2=S.set f (.lst fs),!!!⟨bL (by trivial)<|fo ⟨rfl,rfl⟩⟩,?_};rintro _ _ ⟨rfl,rfl⟩;exact !!{cG,rfl,rfl,_,rfl,bL (by trivial)<|keep rfl};refine{λqS S2=>qS=_/\S2=S.set f (.lst fs),!!!⟨bL (by trivial)<|fo ⟨rfl,rfl⟩⟩,?_};rintro _ _ ⟨rfl,rfl⟩;exact !!{cG,rfl,rfl,_,rfl,bL (by trivial)<|keep rfl};rcases ho with rfl|⟨_,rfl|rfl|⟨rfl,_⟩⟩;refine{λqS S2=>qS=_/\S2=S.set f (.lst fs),!!!⟨bL (by trivial)<|fo ⟨rfl,rfl⟩⟩,?_};rintro _ _ ⟨rfl,rfl⟩;exact !!{cG,rfl,rfl,_,rfl,bL (by trivial)<|keep rfl};refine{λqS S2=>qS=_/\S2=S.set f (.lst fs),!!!⟨bL (by trivial)<|fo ⟨rfl,rfl⟩⟩,?_};rintro _ _ ⟨rfl,rfl⟩;exact !!{cG,rfl,rfl,_,rfl,bL (by trivial)<|keep rfl};refine{λqS S2=>qS=_/\S2=S.set f (.lst fs),!!!⟨bL (by trivial)<|fo ⟨rfl,rfl⟩⟩,?_};rintro _ _ ⟨rfl,rfl⟩;exact !!{cG,rfl,rfl,_,rfl,bL (by trivial)<|keep rfl};refine{λqS S2=>qS=_/\S2=S.set f (.lst fs),!!!⟨bL (by trivial)<|fo ⟨rfl,rfl⟩⟩,?_};rintro _ _ ⟨rfl,rfl⟩;exact !!{cG,rfl,rfl,_,rfl,bL (by trivial)<|keep rfl};refine{λqS S2=>qS=_/\S2=(S.set f<|.lst fs).set f (.lst<|fs++[e']),!!!⟨qg (by trivial) !⟨{rfl,_,Sk},_,rfl,_,rfl,f,_,_,rfl,rfl,Sk,bg<|by rw[xp]at MH;simp at MH;omega,fo ⟨rfl,rfl⟩⟩⟩,?_};rintro _ _ ⟨rfl,rfl⟩;exact !!{cG,rfl,rfl,_,rfl,bL (by trivial)<|more _<|xp e'};have eds:=xq ho ds;rw[eds]at MH;rcases ho with rfl|rfl;refine{λqS S2=>qS=_/\S2=S.set f (.lst fs),!!!⟨bL (by trivial)<|fo ⟨rfl,rfl⟩⟩,?_};rintro _ _ ⟨rfl,rfl⟩;exact !!{cG,rfl,rfl,_,rfl,qg (by trivial) !⟨{rfl,_,Sk},_,rfl,_,rfl,f,_,_,rfl,rfl,Sk,sm<|by omega,more _ eds⟩};refine{λqS S2=>qS=_/\S2=S.set f (.lst fs),!!!⟨bL (by trivial)<|fo ⟨rfl,rfl⟩⟩,?_};rintro _ _ ⟨rfl,rfl⟩;exact !!{cG,rfl,rfl,_,rfl,qg (by trivial) !⟨{rfl,_,Sk},_,rfl,_,rfl,f,_,_,rfl,rfl,Sk,sm<|by omega,more _ eds⟩};rintro aI S' ⟨o,rfl,rfl⟩;refine fo {o,rfl,?_};rw[show({es,λS=>S l=some (.lst es)}:q9).xs=es from rfl,yK];rintro aI S' ⟨o,rfl,rfl⟩;exact{_,rfl,fo<|q f hf}
theorem Jt{cs:List<|Str×Str}{n:Nat}{d:D}(h:Sg cs (n+1) d):∀f∈nM d,Sg cs n f:=by
 rcases h with (rfl|⟨ks,rfl,_,_⟩|⟨o,c,v,_,_,ho,rfl⟩)|⟨e',rfl,WV⟩|⟨o,ds,ho,rfl,hds,hd⟩;exact nofun;exact nofun;exact nofun;rw[xp];exact λf hf=>by rw[zE.mp hf];exact WV
 rw[xq ho];exact hd
theorem Ju(n:Nat):∀es:List D,(es.map<|qk<|n+1).sum=es.length+((es.flatMap nM).map<|qk n).sum|[]=>rfl|e::es=>by have:=Ju n es;rw[zI,List.sum_cons,zQ,List.flatMap_cons,zG,List.sum_append,this,show qk (n+1) e=((nM e).map<|qk n).sum+1 from rfl];lia
theorem Q4{cs:List<|Str×Str}{n:Nat}{es:List D}(h:∀e∈es,Sg cs (n+1) e):(es.flatMap nM).length<=((es.flatMap nM).map<|qk n).sum:=by
 have h:∀f∈es.flatMap nM,Sg cs n f:=λf hf=>by obtain⟨e,he,hf⟩:=List.mem_flatMap.mp hf;exact Jt (h e he) f hf
 generalize es.flatMap nM=fs at h⊢;induction fs with|nil=>exact zr _|cons f fs ih=>have h1:=h f zo;have ih:=ih λx hx=>h x<|zi _ hx;have:1<=qk n f:=(by cases n with|zero=>exact h1.elim|succ n=>exact Nat.le_add_left _ _);rw[zI,List.sum_cons,zQ];lia
inductive lH (ds:List D) (S:au) (R:KD) (Z:KX):Prop where
 |mk (cs d) (h0:ds=[.tup<|cs.map aA,d]) (h1:Gd cs) (h2:Sq cs d) (h3:R .av S)
theorem gm(T:Txt w K mg t):Ok P w base T.eV 6 lH:=by
 refine T.eV.F.bG bF ?_;obtain⟨cs,d,e,hg,hd,q⟩;refine{_,(sc (bO (i:=2) bF.nd<|cB<|al 1 an)<|sc (bO (i:=3) bF.nd di)<|sc (bO (i:=4) bF.nd di)<|s1<|ZQ (bq ox hr.u (cb aQ T.aM aE<|al 2 an) di)<|sc (sau (i:=3) bF.nd di)<|sc (sau (i:=4) bF.nd<|cb aQ T.aM aE<|al 2 an)<|sc (si (twd<|twor (bq ox hr.u (dv 3)<|dg (v:=.int 8) T.wD {_,rfl} λ_=>aS _)<|tw1<|bq ox hr.u (dv 4)<|dg (v:=.int 200) T.jS {_,rfl} λ_=>aS _) (s1<|sA ⟨T.iO⟩ T.pX<|ac ds an) s0)<|sc (si (cM<|tv<|cb k_ T.lj gR<|ac (vd (N:=["thing","columns"]) (src:=[none,some 0]) (kD (ae uv) ["columns","sieve","level","deep","parts"] rfl rfl<|by trivial) (il<|dv 2) (pT<|show(["thing","columns"]:List Str).Nodup by trivial) (aU rfl) aV (λ_ _ _ _ _=>sC) λ_ _ _ _ _=>(aT T.oO (xr T) hr<|al 1<|al 0 an)) an) (s1<|sA ⟨T.iO⟩ T.pX<|ac ds an) s0)<|s1<|bO (i:=2) bF.nd<|aT T.gW (o9 T) hr<|al 2 an),?_};refine !{uE,λl0 Se=>?_};refine{λm aI S'=>∃(l:Addr) (es:List D) (dp p:Nat),aI=[some<|.tup<|cs.map aA,some d,some<|.ref l,some<|.int dp,some<|.int p]/\S' l=some (.lst es)/\Sub S S'/\(∀e∈es,Sg cs m e)/\dp+m=7/\p+(es.map<|qk m).sum<=200,{7,l0,[d],0,0,rfl,aa,.new Se,λe he=>by rw[zE.mp he];exact hd.1,rfl,by have:=hd.2;simp only[zI,List.map_nil,List.sum_cons,List.sum_nil];lia},?_};rintro m aI S' ⟨l,es,dp,p,rfl,hl,sb,MG,hdp,hp⟩;refine !!⟨.inl {_,hl,_,rfl,?_}⟩;refine bX (λh1=>?_) λh1=>?_;have B7:0<es.length:=by have h1:(0:Int)<((es.length:Nat):Int):=zC h1;lia
 obtain⟨e0,he0⟩:=List.exists_mem_of_length_pos B7;obtain⟨n,rfl⟩:∃n,m=n+1:=by cases m with|zero=>exact(MG e0 he0).elim|succ n=>exact⟨n,rfl⟩
 have ad4:=Ju n es;have T7:=Q4 (cs:=cs) (n:=n) (es:=es) MG;refine !!!!!⟨.inl {_,hl,_,rfl,?_}⟩;refine !!⟨bL (zq<|by lia) !!⟨bL (zq<|by lia) ?_⟩⟩;refine !{es,hl,?_};refine comp_map (λ_=>.bl true) hl (by show es.length<=1000;lia) (λe he Q hQ=>?_) λp1 vJ=>?_;exact !!{cs,_,e,rfl,hg,MG e he,hQ};have e2:es.map (λ_=>D.bl true)=(es.map λ_=>true).map D.bl:=by rw[zx];rfl
 have e3:(es.map λ_=>true).all id=true:=by rw[all_map];exact zZ.mpr λ_ _=>rfl
 refine{.ref p1,es.map λ_=>true,rfl,?_,_,rfl,?_};show(S'.set p1<|.lst<|es.map _) p1=_;rw[aa,e2];rw[e3];refine a_ ?_;have s1:=sb.trans<|.new (c:=.lst<|es.map λ_=>D.bl true) vJ;have A1:(S'.set p1<|.lst<|es.map λ_=>D.bl true) l=some (.lst es):=(ag<|ib hl vJ).trans hl;refine !{l,es,cs,n,rfl,A1,by lia,MG,λp2 h3=>?_};refine{n,Nat.lt_succ_self n,p2,es.flatMap nM,dp+1,p+es.length,?_,aa,s1.trans<|.new h3,λf hf=>?_,by lia,by lia};show[_,_,_,some<|D.int<|((dp:Nat):Int)+1,some<|D.int<|((p:Nat):Int)+((es.length:Nat):Int)]=_;rw[show(((dp:Nat):Int)+1)=((dp+1:Nat):Int) by lia,show(((p:Nat):Int)+((es.length:Nat):Int))=((p+es.length:Nat):Int) by lia];obtain⟨e,he,hf⟩:=List.mem_flatMap.mp hf;exact Jt (MG e he) f hf;exact⟨S,sb,q⟩
noncomputable def Ky(cs:List<|Str×Str)(z:Str):Nat:=(cs.map Prod.fst).idxOf z
noncomputable def ao(cs:List<|Str×Str)(ws:List D)(z:Str):D:=(ws[Ky cs z]?).getD .av
noncomputable def ah(r:Str×List D):D:=.tup [.str r.1,.tup r.2]
theorem tM:∀{l:List α}{m:List β},Paired rel l m->∀{i:Nat}{a:α},l[i]?=some a->∃b,m[i]?=some b/\rel a b|_,_,.nil,_,_,h=>by simp at h|_,_,.cons r t,0,a,h=>(by rw[List.getElem?_cons_zero]at h⊢;cases h;exact{_,rfl,r})|_,_,.cons r t,i+1,a,h=>by rw[List.getElem?_cons_succ]at h⊢;exact tM t h
theorem o_(hg:Gd cs)(h:c∈cs):cs[Ky cs c.1]?=some c/\(cs.map Prod.fst)[Ky cs c.1]?=some c.1:=by
 have hm:c.1∈cs.map Prod.fst:=zg.mpr ⟨c,h,rfl⟩;have hi:(cs.map Prod.fst).idxOf c.1<(cs.map Prod.fst).length:=List.idxOf_lt_length_of_mem hm;have e1:(cs.map Prod.fst)[(cs.map Prod.fst).idxOf c.1]?=some c.1:=by rw[zf hi,List.getElem_idxOf]
 refine{?_,e1};obtain⟨j,ej⟩:=yp h;have ej1:(cs.map Prod.fst)[j]?=some c.1:=by rw[zk,ej];rfl
 obtain⟨b1,c1⟩:=ze.mp e1;obtain⟨b2,c2⟩:=ze.mp ej1;have:=(List.getElem_inj hg.2.1 (h₀:=b1) (h₁:=b2)).mp<|c1.trans c2.symm;unfold Ky;rw[this];exact ej
theorem nN(hg:Gd cs)(hw:Wg cs ws)(h:c∈cs):ws[Ky cs c.1]?=some (ao cs ws c.1)/\Vg c.2 (ao cs ws c.1):=by obtain⟨v,e,r⟩:=tM hw (o_ hg h).1;unfold ao;rw[e];exact⟨rfl,r⟩
noncomputable def ph:D->D->Bool|.av,.av=>true|.int i,.int j=>decide (i=j)|.str i,.str j=>decide (i=j)|_,_=>false
theorem cK(ha:eN a=true)(hb:eN b=true):ph a b=true↔a=b:=by cases a<;>cases b<;>first|(cases ha;done)|(cases hb;done)|simp[ph]
theorem A2(ha:eN a=true)(hb:eN b=true)(q:R (.bl<|if neg then !ph a b else ph a b) S):Eh neg a b S R:=by
 have mix:∀{a b:D},eN a=true->eN b=true->(∀p q,Dp S a p->Dp S b q->PyData.eqv p q=ph a b)->(∀i j,a=.int i->b≠.int j)->(∀i j,a=.str i->b≠.str j)->R (.bl<|if neg then !ph a b else ph a b) S->Eh neg a b S R:=by intro a b ha hb h h1 h2 q;obtain⟨p,p1,p2,p3⟩:=Ly.plain (S:=S) ha;obtain⟨r,r1,r2,r3⟩:=Ly.plain (S:=S) hb;have e:=h p r p1 r1;obtain⟨p',p1',p2',p3'⟩:=Ly.dl<|Ly.plain (S:=S) ha;cases a<;>cases b<;>first|(cases ha;done)|(cases hb;done)|exact absurd rfl (h1 _ _ rfl)|exact absurd rfl (h2 _ _ rfl)|exact{p,r,p1,r1,p2,r2,.inl<|by lia,by rw[e];exact q}
 cases a with|av=>(cases b with|av=>exact mix ha hb (λp q h1 h2=>by simp only[Dp]at h1 h2;subst h1 h2;rfl) nofun nofun q|int j=>exact mix ha hb (λp q h1 h2=>by simp only[Dp]at h1 h2;subst h1 h2;rfl) nofun nofun q|str j=>exact mix ha hb (λp q h1 h2=>by simp only[Dp]at h1 h2;subst h1 h2;rfl) nofun nofun q|_=>cases hb)|int i=>(cases b with|av=>exact mix ha hb (λp q h1 h2=>by simp only[Dp]at h1 h2;subst h1 h2;rfl) nofun nofun q|int j=>exact q|str j=>exact mix ha hb (λp q h1 h2=>by simp only[Dp]at h1 h2;subst h1 h2;rfl) nofun nofun q|_=>cases hb)|str i=>(cases b with|av=>exact mix ha hb (λp q h1 h2=>by simp only[Dp]at h1 h2;subst h1 h2;rfl) nofun nofun q|int j=>exact mix ha hb (λp q h1 h2=>by simp only[Dp]at h1 h2;subst h1 h2;rfl) nofun nofun q|str j=>exact q|_=>cases hb)|_=>cases ha
noncomputable def uK:D->D->Bool|.int i,.int j=>decide (i<j)|.str i,.str j=>u3 i j|_,_=>false
noncomputable def stP:D->D->Bool|.str i,.str j=>PySem.Txt.startswith i j|_,_=>false
noncomputable def EJ(o:Str)(a b:D):Bool:=if o ="is" then ph a b else if ai a then false else if o ="below" then uK a b else if o ="above" then uK b a else stP a b
noncomputable def GI:D->List D|.tup ds=>ds|_=>[]
noncomputable def VN(cs:List<|Str×Str)(r:Str×List D)(f:D->Bool):D->Bool|.tup [.str _]=>true|.tup [.str o,e]=>(if o ="not" then !f e else if o ="key" then BQ (jI<|.str r.1) ((GI e).map jI) else if o ="and" then (GI e).all f else (GI e).any f)|.tup [.str o,.str z,v]=>EJ o (ao cs r.2 z) v|_=>false
noncomputable def bU(cs:List<|Str×Str)(r:Str×List D):Nat->D->Bool|0,_=>false|n+1,d=>VN cs r (bU cs r n) d
theorem EK(cs:List<|Str×Str)(r:Str×List D)(n:Nat)(o:Str)(e:D):bU cs r (n+1) (.tup [.str o,e])=if o ="not" then !bU cs r n e else if o ="key" then BQ (jI<|.str r.1) ((GI e).map jI) else if o ="and" then (GI e).all (bU cs r n) else (GI e).any (bU cs r n):=rfl
theorem VO(cs:List<|Str×Str)(r:Str×List D)(n:Nat)(o z:Str)(v:D):bU cs r (n+1) (.tup [.str o,.str z,v])=EJ o (ao cs r.2 z) v:=rfl
theorem Jv(cs:List<|Str×Str)(r:Str×List D)(n:Nat)(ks:List D):bU cs r (n+1) (.tup [.str "key",.tup ks])=BQ (jI<|.str r.1) (ks.map jI):=by rw[EK,if_neg<|by trivial,if_pos rfl];rfl
theorem Jw(cs:List<|Str×Str)(r:Str×List D)(n:Nat)(e:D):bU cs r (n+1) (.tup [.str "not",e])=!bU cs r n e:=by rw[EK,if_pos rfl]
theorem Jx(cs:List<|Str×Str)(r:Str×List D)(n:Nat)(es:List D):bU cs r (n+1) (.tup [.str "and",.tup es])=es.all (bU cs r n):=by rw[EK,if_neg<|by trivial,if_neg<|by trivial,if_pos rfl];rfl
theorem MI(cs:List<|Str×Str)(r:Str×List D)(n:Nat)(es:List D):bU cs r (n+1) (.tup [.str "or",.tup es])=es.any (bU cs r n):=by rw[EK,if_neg<|by trivial,if_neg<|by trivial,if_neg<|by trivial];rfl
theorem xt{k:Str}(ha:Vg k a)(hb:Vg k b)(na:a≠.av)(nb:b≠.av):(∃i j,a=.int i/\b=.int j)\/∃i j,a=.str i/\b=.str j:=by obtain⟨a1,a2⟩:=ha;obtain⟨b1,b2⟩:=hb;cases a with|av=>exact absurd rfl na|int i=>(cases b with|av=>exact absurd rfl nb|int j=>exact .inl ⟨i,j,rfl,rfl⟩|str j=>(exfalso;unfold jv at a1 b1;simp only[ai,yU]at a1 b1;by_cases e:k ="number";rw[if_pos e]at b1;cases b1;rw[if_neg e]at a1;cases a1)|_=>cases b2)|str i=>(cases b with|av=>exact absurd rfl nb|str j=>exact .inr ⟨i,j,rfl,rfl⟩|int j=>(exfalso;unfold jv at a1 b1;simp only[ai,yU]at a1 b1;by_cases e:k ="number";rw[if_pos e]at a1;cases a1;rw[if_neg e]at b1;cases b1)|_=>cases b2)|_=>cases a2
theorem EL(h:Vg "word" a)(n:a≠.av):∃z,a=.str z:=by obtain⟨h1,h2⟩:=h;cases a with|av=>exact absurd rfl n|str z=>exact⟨z,rfl⟩|int i=>(unfold jv at h1;rw[if_neg<|by trivial]at h1;cases h1)|_=>cases h2
theorem bz(h:ai a=false):a≠.av:=by rintro rfl;cases h
inductive mw (ds:List D) (S:au) (R:KD) (Z:KX):Prop where
 |mk (cs r c) (h0:ds=[.tup<|cs.map aA,ah r,.str c.1]) (h1:Gd cs) (h2:Wg cs r.2) (h3:c∈cs) (h4:R (ao cs r.2 c.1) S)
theorem dO(T:Txt w K mg t):Ok P w base T.cD 2 mw:=by
 refine T.cD.F.bG AM ?_;obtain⟨cs,r,c,e,hg,hw,hc,q⟩;obtain⟨n1,n2⟩:=o_ hg hc;refine{_,(s1<|sr<|ix hr.u (ix hr.u (dv 1) di)<|bm zN PySem.F.slot_list_index PySem.F.type_list_index Ah (aT T.m_ (qd T) hr<|al 0 an)<|al 2 an),?_};refine !!!{cs,rfl,hg.1,λp hp=>?_};refine{{rfl,_,aa},_,rfl,(cs.map Prod.fst).map D.str,.str c.1,Ky cs c.1,rfl,aa,rfl,?_,{.str c.1,by rw[zk,n2];rfl,by show(c.1==c.1)=true;simp},?_,?_};rw[List.all_map];exact zZ.mpr λ_ _=>rfl;intro m u hm hu;rw[zk]at hu;cases e:(cs.map Prod.fst)[m]? with|none=>(rw[e]at hu;cases hu)|some z'=>rw[e]at hu;cases hu;show(z'==c.1)=false;have:z'≠c.1:=λq=>(by subst q;obtain⟨b1,c1⟩:=ze.mp e;obtain⟨b2,c2⟩:=ze.mp n2;have:=(List.getElem_inj hg.2.1 (h₀:=b1) (h₁:=b2)).mp<|c1.trans c2.symm;lia);simpa using this
 exact{_,dy (nN hg hw hc).1,S,.new hp,q}
inductive gp (ds:List D) (S:au) (R:KD) (Z:KX):Prop where
 |mk (o a b c) (h0:ds=[.str o,a,b]) (h1:Vg c.2 a) (h2:Vg c.2 b) (h3:xo o c b) (h4:R (.bl<|EJ o a b) S)
theorem qJ(T:Txt w K mg t):Ok P w base T.iQ 1 gp:=by
 refine T.iQ.F.bG qF ?_;obtain⟨o,a,b,c,e,ha,hb,ho,q⟩;refine{_,(sc (si (bq bA hr.u (dv 0) ds) (s1<|sr<|cm bA hr.u (dv 1)<|dv 2) s0)<|sc (si (bq jr hr.u (dv 1) dn) (s1<|sr db) s0)<|sc (si (bq bA hr.u (dv 0) ds) (s1<|sr<|cm wg hr.u (dv 1)<|dv 2) s0)<|sc (si (bq bA hr.u (dv 0) ds) (s1<|sr<|cm ox hr.u (dv 1)<|dv 2) s0)<|s1<|sr<|bm PySem.F.plainAttrs_str PySem.F.slot_str_startswith PySem.F.type_str_startswith Ih (dv 1)<|al 2 an),?_};unfold EJ at q;rcases ho with rfl|⟨nb,ho⟩;rw[if_pos rfl]at q;exact !!⟨qg (by trivial) !!⟨A2 ha.2 hb.2<|fo q⟩⟩;have ne:∀{A B:Bool},o≠"is"->R (.bl<|if o ="is" then A else B) S->R (.bl B) S:=λh q=>by rw[if_neg h]at q;exact q
 rcases ho with rfl|rfl|⟨rfl,hk⟩;rw[if_neg<|by trivial]at q;refine !!⟨bL (by trivial) !!⟨bX (λh=>?_) λh=>?_⟩⟩;rw[if_pos h]at q;exact fo q;rw[if_neg<|by rw[show ai a=false from h];exact zd,if_pos rfl]at q;refine !!⟨qg (by trivial) !!⟨?_⟩⟩;rcases xt ha hb (bz h) nb with⟨i,j,rfl,rfl⟩|⟨i,j,rfl,rfl⟩<;>exact fo q;rw[if_neg<|by trivial]at q;refine !!⟨bL (by trivial) !!⟨bX (λh=>?_) λh=>?_⟩⟩;rw[if_pos h]at q;exact fo q;rw[if_neg<|by rw[show ai a=false from h];exact zd,if_neg<|by trivial,if_pos rfl]at q;refine !!⟨bL (by trivial) !!⟨qg (by trivial) !!⟨?_⟩⟩⟩;rcases xt ha hb (bz h) nb with⟨i,j,rfl,rfl⟩|⟨i,j,rfl,rfl⟩<;>exact fo q;rw[if_neg<|by trivial]at q;refine !!⟨bL (by trivial) !!⟨bX (λh=>?_) λh=>?_⟩⟩;rw[if_pos h]at q;exact fo q;rw[if_neg<|by rw[show ai a=false from h];exact zd,if_neg<|by trivial,if_neg<|by trivial]at q;refine !!⟨bL (by trivial) !!⟨bL (by trivial) ?_⟩⟩;rw[hk]at ha hb;obtain⟨i,rfl⟩:=EL ha<|bz h;obtain⟨j,rfl⟩:=EL hb nb;exact !{rfl,_,rfl,i,j,rfl,rfl,fo q}
def Q5(n:Nat):kO:=λds S R _=>∃cs d r,ds=[.tup<|cs.map aA,d,ah r]/\Gd cs/\Sg cs n d/\Wg cs r.2/\R (.bl<|bU cs r n d) S
theorem kK(T:Txt w K mg t):∀n,Ok P w base T.passes (3+n) (Q5 n)
 |0=>by refine T.passes.F.ok (k:=2) vt (by rintro ds S R Z ⟨_,_,_,e,_⟩;exact by rw[e];rfl) (by rintro g_ A outer s H E ds S R Z hr ⟨cs,d,r,e,hg,hs,_⟩;exact hs.elim)
 |n+1=>by
  refine T.passes.F.ok (k:=3+n) vt (by rintro ds S R Z ⟨_,_,_,e,_⟩;rw[e];rfl) ?_;obtain⟨cs,d,r,e,hg,hs,hw,q⟩;refine{_,(sc (si (bq bA hr.u (ix hr.u (dv 1) di) ds) (s1<|sr db) s0)<|sc (si (bq bA hr.u (ix hr.u (dv 1) di) ds) (s1<|sr<|cm Ct hr.u (ix hr.u (dv 2) di)<|ix hr.u (dv 1) di) s0)<|sc (si (bq bA hr.u (ix hr.u (dv 1) di) ds) (s1<|sr<|Uo<|aT T.passes (kK T n) hr<|al 0<|ac (ix hr.u (dv 1) di)<|al 2 an) s0)<|sc (si (bq bA hr.u (ix hr.u (dv 1) di) ds) (s1<|sr<|cb k_ T.lj gR<|ac (vd (N:=["inner","columns","row"]) (src:=[none,some 0,some 2]) (kD (ae Ay) ["columns","sieve","row"] rfl rfl<|by trivial) (Km<|ix hr.u (dv 1) di) (pT<|show(["inner","columns","row"]:List Str).Nodup by trivial) (aU rfl) aV (λ_ _ _ _ _=>sC) λ_ _ _ _ _=>(aT T.passes (kK T n) hr<|al 1<|al 0<|al 2 an)) an) s0)<|sc (si (bq bA hr.u (ix hr.u (dv 1) di) ds) (s1<|sr<|cb UD T.Vx PX<|ac (vd (N:=["inner","columns","row"]) (src:=[none,some 0,some 2]) (kD (ae Ay) ["columns","sieve","row"] rfl rfl<|by trivial) (Km<|ix hr.u (dv 1) di) (pT<|show(["inner","columns","row"]:List Str).Nodup by trivial) (aU rfl) aV (λ_ _ _ _ _=>sC) λ_ _ _ _ _=>(aT T.passes (kK T n) hr<|al 1<|al 0<|al 2 an)) an) s0)<|s1<|sr<|aT T.iQ (qJ T) hr<|ac (ix hr.u (dv 1) di)<|ac (aT T.cD (dO T) hr<|al 0<|al 2<|ac (ix hr.u (dv 1) di) an)<|ac (ix hr.u (dv 1) di) an),?_};rcases hs with (rfl|⟨ks,rfl,VM,Cz⟩|⟨o,c,v,hc,hv,ho,rfl⟩)|⟨e,rfl,he⟩|⟨o,es,ho,rfl,MG,YJ⟩;exact !!!⟨qg (by trivial)<|fo q⟩;refine !!!⟨bL (by trivial) !!!⟨qg (by trivial) ?_⟩⟩;refine !!!!{rfl,?_,?_};rw[List.all_map];exact zZ.mpr λ_ _=>rfl;rw[Jv]at q;exact fo q;rw[VO]at q;have fin:∀Zq,gp [D.str o,ao cs r.2 c.1,v] S (λd S'=>Fo S'<|R d) Zq:=λ_=>{o,_,v,c,rfl,(nN hg hw hc).2,hv,ho,fo q};have h4:o ="is"\/o ="below"\/o ="above"\/o ="begins":=by rcases ho with h|⟨_,h|h|⟨h,_⟩⟩;exact .inl h;exact .inr<|.inl h;exact .inr<|.inr<|.inl h;exact .inr<|.inr<|.inr h
  rcases h4 with rfl|rfl|rfl|rfl;exact !!!⟨bL (by trivial) !!!⟨bL (by trivial) !!!⟨bL (by trivial) !!!⟨bL (by trivial) !!!⟨bL (by trivial) !!!!!!{cs,r,c,rfl,hg,hw,hc,_,rfl,_,rfl,fin _}⟩⟩⟩⟩⟩;exact !!!⟨bL (by trivial) !!!⟨bL (by trivial) !!!⟨bL (by trivial) !!!⟨bL (by trivial) !!!⟨bL (by trivial) !!!!!!{cs,r,c,rfl,hg,hw,hc,_,rfl,_,rfl,fin _}⟩⟩⟩⟩⟩;exact !!!⟨bL (by trivial) !!!⟨bL (by trivial) !!!⟨bL (by trivial) !!!⟨bL (by trivial) !!!⟨bL (by trivial) !!!!!!{cs,r,c,rfl,hg,hw,hc,_,rfl,_,rfl,fin _}⟩⟩⟩⟩⟩;exact !!!⟨bL (by trivial) !!!⟨bL (by trivial) !!!⟨bL (by trivial) !!!⟨bL (by trivial) !!!⟨bL (by trivial) !!!!!!{cs,r,c,rfl,hg,hw,hc,_,rfl,_,rfl,fin _}⟩⟩⟩⟩⟩;rw[Jw]at q;exact !!!⟨bL (by trivial) !!!⟨bL (by trivial) !!!⟨qg (by trivial) !!!!{cs,e,r,rfl,hg,he,hw,_,rfl,fo q}⟩⟩⟩;have hz:es.length<=1000:=by lia
  rcases ho with rfl|rfl;rw[Jx]at q;refine !!!⟨bL (by trivial) !!!⟨bL (by trivial) !!!⟨bL (by trivial) !!!⟨qg (by trivial) !!{_,.inl rfl,?_}⟩⟩⟩⟩;refine comp_map (λd=>.bl<|bU cs r n d) trivial hz (λd hd Q hQ=>!!!{cs,d,r,rfl,hg,YJ d hd,hw,hQ}) λp hp=>?_;refine{.ref p,es.map<|bU cs r n,rfl,?_,S,.new hp,?_};show(S.set p<|.lst<|es.map _) p=_;rw[aa,zx];rfl;rw[all_map];exact q;rw[MI]at q;refine !!!⟨bL (by trivial) !!!⟨bL (by trivial) !!!⟨bL (by trivial) !!!⟨bL (by trivial) !!!⟨qg (by trivial) !!{_,.inl rfl,?_}⟩⟩⟩⟩⟩;refine comp_map (λd=>.bl<|bU cs r n d) trivial hz (λd hd Q hQ=>!!!{cs,d,r,rfl,hg,YJ d hd,hw,hQ}) λp hp=>?_;refine{.ref p,es.map<|bU cs r n,rfl,?_,S,.new hp,?_};show(S.set p<|.lst<|es.map _) p=_;rw[aa,zx];rfl;rw[List.any_map];exact q
abbrev Row:=Str×List D
abbrev Part:=Str×Str×Str
theorem Q6{a b:Str}(h:a.cps.toList=b.cps.toList):a=b:=by obtain⟨x⟩:=a;obtain⟨y⟩:=b;exact congrArg Str.mk<|Array.ext' h
theorem EM(a:Str):u3 a a=false:=zq<|List.lt_irrefl _
theorem xu{a b:Str}(h:a≠b):u3 b a=!u3 a b:=by unfold u3;rw[yD];simp only[decide_eq_true_iff,Bool.not_eq_true',yi];constructor;exact λh1 h2=>List.lt_irrefl _<|List.lt_trans h1 h2;intro h1;by_cases h2:b.cps.toList<a.cps.toList;exact h2;exact absurd (Q6<|List.le_antisymm (List.not_lt.mp h2)<|List.not_lt.mp h1) h
theorem Q7(h1:u3 a b=true)(h2:u3 b c=true):u3 a c=true:=zu<|List.lt_trans (zC h1)<|zC h2
theorem EN(a:D):uK a a=false:=by cases a<;>first|rfl|exact EM _|exact zq (Int.lt_irrefl _)
theorem nO(ha:Vg k a)(hb:Vg k b)(na:a≠.av)(nb:b≠.av)(h:a≠b):uK b a=!uK a b:=by rcases xt ha hb na nb with⟨i,j,rfl,rfl⟩|⟨i,j,rfl,rfl⟩;have lW:i≠j:=λe=>h<|congrArg D.int e;show decide (j<i)=!decide (i<j);rw[yD];simp only[decide_eq_true_iff,Bool.not_eq_true',yi];lia;exact xu λe=>h<|congrArg D.str e
theorem Jy(h1:uK a b=true)(h2:uK b c=true):uK a c=true:=by cases a with|int i=>(cases b with|int j=>(cases c with|int l=>have h1:i<j:=zC h1;have h2:j<l:=zC h2;exact zu (by lia)|_=>cases h2)|_=>cases h1)|str i=>(cases b with|str j=>(cases c with|str l=>exact Q7 h1 h2|_=>cases h2)|_=>cases h1)|_=>cases h1
theorem Jz(h:Vc a b):uK a b=true:=by cases a with|int i=>(cases b with|int j=>exact zu h|_=>exact h.elim)|str i=>(cases b with|str j=>exact zu h|_=>exact h.elim)|_=>exact h.elim
noncomputable def dm(p:Part)(x y:D):Bool:=if (ai x != ai y)=true then ai x==decide (p.2.2 ="first") else uK x y==decide (p.2.1 ="up")
noncomputable def du(cs:List<|Str×Str)(wy:Str):List Part->Row->Row->Bool|[],a,b=>u3 a.1 b.1==decide (wy ="up")|p::ps,a,b=>if ph (ao cs a.2 p.1) (ao cs b.2 p.1)=true then du cs wy ps a b else dm p (ao cs a.2 p.1) (ao cs b.2 p.1)
theorem bxor:((!x)==u)=!(x==u):=by cases x<;>cases u<;>rfl
theorem d_(h:ai x=true):x=.av:=by cases x<;>first|rfl|cases h
theorem pj(hx:Vg k x)(hy:Vg k y)(h:x≠y):dm p y x=!dm p x y:=by unfold dm;cases nx:ai x with|true=>(cases ny:ai y with|true=>exact absurd ((d_ nx).trans (d_ ny).symm) h|false=>rw[if_pos<|by rfl,if_pos<|by rfl];cases decide (p.2.2 ="first")<;>rfl)|false=>cases ny:ai y with|true=>(rw[if_pos<|by rfl,if_pos<|by rfl];cases decide (p.2.2 ="first")<;>rfl)|false=>rw[if_neg<|by simp,if_neg<|by simp,nO hx hy (bz nx) (bz ny) h,bxor]
theorem MJ(hx:Vg k x)(hy:Vg k y)(hz:Vg k z)(hxy:x≠y)(hyz:y≠z)(h1:dm p x y=true)(h2:dm p y z=true):x≠z/\dm p x z=true:=by
 have hxz:x≠z:=by rintro rfl;have:=pj (p:=p) hx hy hxy;rw[h1,h2]at this;cases this
 refine{hxz,?_};unfold dm at h1 h2⊢;cases nx:ai x with|true=>(cases ny:ai y with|true=>exact absurd ((d_ nx).trans (d_ ny).symm) hxy|false=>rw[nx,ny,if_pos<|by rfl]at h1;cases nz:ai z with|true=>exact absurd ((d_ nx).trans (d_ nz).symm) hxz|false=>rw[if_pos<|by rfl];exact h1)|false=>cases ny:ai y with|true=>(rw[nx,ny,if_pos<|by rfl]at h1;cases nz:ai z with|true=>exact absurd ((d_ ny).trans (d_ nz).symm) hyz|false=>rw[ny,nz,if_pos<|by rfl]at h2;cases e:decide (p.2.2 ="first")<;>rw[e]at h1 h2<;>first|cases h1;done|cases h2;done)|false=>rw[nx,ny,if_neg<|by simp]at h1;cases nz:ai z with|true=>rw[ny,nz,if_pos<|by rfl]at h2;rw[if_pos<|by rfl];exact h2|false=>rw[ny,nz,if_neg<|by simp]at h2;rw[if_neg<|by simp];cases e:decide (p.2.1 ="up") with|true=>rw[e]at h1 h2;rw[Jy (a:=x) (b:=y) (c:=z) (by simpa using h1)<|by simpa using h2];rfl|false=>rw[e]at h1 h2;have h1:uK x y=false:=(by simpa using h1);have h2:uK y z=false:=(by simpa using h2);have a1:=nO hx hy (bz nx) (bz ny) hxy;have a2:=nO hy hz (bz ny) (bz nz) hyz;rw[h1]at a1;rw[h2]at a2;have a3:=Jy a2 a1;have a4:=nO hx hz (bz nx) (bz nz) hxz;rw[a3]at a4;cases q:uK x z with|true=>(rw[q]at a4;cases a4)|false=>rfl
def Pin(cs:List<|Str×Str)(ps:List Part):Prop:=∀p∈ps,∃c∈cs,c.1=p.1
section
variable{cs:List (Str×Str)}{wy:Str}
theorem Pin.tail(h:Pin cs<|p::ps):Pin cs ps:=λq hq=>h q<|zi _ hq
theorem xw(hg:Gd cs)(h:Pin cs<|p::ps):∃k,∀ws,Wg cs ws->Vg k (ao cs ws p.1):=by obtain⟨c,hc,e⟩:=h p zo;rw[<-e];exact{c.2,λws hw=>(nN hg hw hc).2}
theorem A3(hg:Gd cs):∀{ps:List Part}{a b:Row},Pin cs ps->Wg cs a.2->Wg cs b.2->a.1≠b.1->du cs wy ps b a=!du cs wy ps a b|[],a,b,_,_,_,h=>by show(u3 b.1 a.1==_)=!(u3 a.1 b.1==_);rw[xu h,bxor]|p::ps,a,b,hp,ha,hb,h=>by obtain⟨k,hk⟩:=xw hg hp;have va:=hk _ ha;have vb:=hk _ hb;unfold du;by_cases e:ao cs a.2 p.1=ao cs b.2 p.1;rw[if_pos<|(cK vb.2 va.2).mpr e.symm,if_pos<|(cK va.2 vb.2).mpr e];exact A3 hg hp.tail ha hb h;rw[if_neg λq=>e ((cK vb.2 va.2).mp q).symm,if_neg λq=>e<|(cK va.2 vb.2).mp q];exact pj va vb e
def Rg(cs:List<|Str×Str)(rs:List Row):Prop:=(∀r∈rs,Wg cs r.2)/\(rs.map Prod.fst).Nodup
theorem Rg.perm(h:Rg cs rs)(p:bT.Perm rs):Rg cs bT:={λr hr=>h.1 r<|p.mem_iff.mp hr,(p.map _).nodup_iff.mpr h.2}
theorem Rg.sub(h:Rg cs rs)(p:bT.Sublist rs):Rg cs bT:={λr hr=>h.1 r<|p.subset hr,h.2.sublist<|p.map _}
theorem MK(hg:Gd cs)(hp:Pin cs ps)(hr:Rg cs m)(hl:l.Pairwise λa b=>du cs wy ps a b=true)(hm:m.Pairwise λa b=>du cs wy ps a b=true)(pm:l.Perm m):l=m:=by refine List.Perm.eq_of_pairwise (le:=λa b=>du cs wy ps a b=true) (λa b ha hb h1 h2=>?_) hl hm pm;have ha:=pm.mem_iff.mp ha;by_cases e:a.1=b.1;exact gI (f:=Prod.fst) hr.2 ha hb e;have:=A3 (wy:=wy) hg hp (hr.1 a ha) (hr.1 b hb) e;rw[h1,h2]at this;cases this
end
theorem Dj{l m:List Nat}(hl:l.Nodup)(hm:m.Nodup)(h:∀x,x∈l↔x∈m):l.Perm m:=by induction l generalizing m with|nil=>(cases m with|nil=>exact .nil|cons y m=>exact absurd ((h y).mpr zo)<|by simp)|cons x l ih=>obtain⟨n1,n2⟩:=yo.mp hl;have hx:=(h x).mp zo;refine .trans ((ih n2 (hm.erase x) λy=>?_).cons x) (List.perm_cons_erase hx).symm;rw[hm.mem_erase_iff];constructor;intro hy;exact{λe=>n1<|e ▸ hy,(h y).mp<|zi _ hy};rintro⟨h1,h2⟩;rcases zh.mp ((h y).mpr h2) with e|e;exact absurd e h1;exact e
theorem map_range(d:α)(xs:List α):(List.range xs.length).map (λk=>xs.getD k d)=xs:=by refine List.ext_getElem (by simp) λi h1 h2=>?_;simp[zf h2]
theorem GJ{α:Type}(d:α){xs:List α}{g:Nat->Nat}(lt:∀k,k<xs.length->g k<xs.length)(inj:∀i j,i<xs.length->j<xs.length->g i=g j->i=j):((List.range xs.length).map λk=>xs.getD (g k) d).Perm xs:=by
 have nd:((List.range xs.length).map g).Nodup:=by refine List.pairwise_map.mpr<|List.nodup_range.imp_of_mem λ{a b} ha hb n e=>n<|inj a b (zS.mp ha) (zS.mp hb) e
 have sub:∀x∈(List.range xs.length).map g,x∈List.range xs.length:=λx hx=>by obtain⟨k,hk,rfl⟩:=zg.mp hx;exact zS.mpr<|lt k<|zS.mp hk
 have p:((List.range xs.length).map g).Perm (List.range xs.length):=Dj nd List.nodup_range λx=>by refine{sub x,λhx=>?_};by_cases h:x∈(List.range xs.length).map g;exact h;exfalso;have:=sub_len nd (m:=(List.range xs.length).erase x) λy hy=>(List.Nodup.mem_erase_iff List.nodup_range).mpr {λe=>h<|e ▸ hy,sub y hy};rw[za,List.length_erase_of_mem hx,List.length_range]at this;have:=zS.mp hx;lia
 have e:((List.range xs.length).map λk=>xs.getD (g k) d)=((List.range xs.length).map g).map λk=>xs.getD k d:=by rw[zx];rfl
 rw[e];have:=p.map λk=>xs.getD k d;rw[map_range]at this;exact this
theorem GK{α:Type}(d:α){xs:List α}{g:Nat->Nat}{r:α->α->Prop}(h:∀i j,i<j->j<xs.length->r (xs.getD (g i) d) (xs.getD (g j) d)):((List.range xs.length).map λk=>xs.getD (g k) d).Pairwise r:=by rw[List.pairwise_map,List.pairwise_iff_getElem];intro i j hi hj lW;rw[List.length_range]at hj;rw[List.getElem_range,List.getElem_range];exact h i j lW hj
noncomputable def r0:Row:=("",[])
theorem getD_map{rs:List Row}{j:Nat}(h:j<rs.length):(rs.map ah).getD j .av=ah (rs.getD j r0):=by rw[zH,zH,zk,zf h];rfl
theorem getD_mem{rs:List Row}{j:Nat}(h:j<rs.length):rs.getD j r0∈rs:=by rw[zH,zf h];exact List.getElem_mem h
theorem nQ{rs:List Row}{b:Bool}{f:D->D}{g:Nat->Nat}(h:QA b (λj=>f<|(rs.map ah).getD j .av) (rs.map ah).length g): ∃bT:List Row,(List.range (rs.map ah).length).map (λk=>(rs.map ah).getD (g k) .av)=bT.map ah/\bT.Perm rs/\∀q r:Row->Row->Prop,rs.Pairwise q->(∀x y,x∈rs->y∈rs->(if b=true then Vc (f<|ah y) (f<|ah x) else Vc (f<|ah x) (f<|ah y))->r x y)->(∀x y,x∈rs->y∈rs->f (ah x)=f (ah y)->q x y->r x y)->bT.Pairwise r:=by have hn:(rs.map ah).length=rs.length:=za _;rw[hn]at h⊢;refine{(List.range rs.length).map λk=>rs.getD (g k) r0,?_,GJ r0 h.lt h.inj,λq r hq h1 h2=>GK r0 λi j lW hj=>?_};rw[zx];exact zU λk hk=>getD_map<|h.lt k<|zS.mp hk;have gi:=h.lt i<|Nat.lt_trans lW hj;have gj:=h.lt j hj;have o:=h.ord i j lW hj;rw[getD_map gi,getD_map gj]at o;rcases o with o|⟨o,l⟩;exact h1 _ _ (getD_mem gi) (getD_mem gj) o;refine h2 _ _ (getD_mem gi) (getD_mem gj) o ?_;have:=List.pairwise_iff_getElem.mp hq (g i) (g j) gi gj l;rw[zH,zH,zf gi,zf gj];exact this
section
variable{cs:List (Str×Str)}{wy:Str}
noncomputable def valued(cs:List<|Str×Str)(p:Part)(r:Row):Bool:=!ai (ao cs r.2 p.1)
theorem ML(h1:ai x=true)(h2:ai y=true):ph x y=true:=by rw[d_ h1,d_ h2];rfl
theorem xx(h:ai x≠ai y):ph x y=false:=by cases x<;>cases y<;>first|rfl|exact absurd rfl h
theorem GL{ps:List Part}{p:Part}{L V:List Row}(hL:L.Pairwise λa b=>du cs wy ps a b=true)(hV:V.Perm<|L.filter<|valued cs p)(Xj:V.Pairwise λa b=>du cs wy (p::ps) a b=true): (if p.2.2 ="first" then L.filter (λr=>!valued cs p r)++V else V++L.filter (λr=>!valued cs p r)).Perm L/\(if p.2.2 ="first" then L.filter (λr=>!valued cs p r)++V else V++L.filter (λr=>!valued cs p r)).Pairwise λa b=>du cs wy (p::ps) a b=true:=by
 have hN:(L.filter λr=>!valued cs p r).Pairwise λa b=>du cs wy (p::ps) a b=true:=by refine(hL.sublist yt).imp_of_mem λ{a b} ha hb h=>?_;have ha:=(yk.mp ha).2;have hb:=(yk.mp hb).2;unfold valued at ha hb;rw[Bool.not_not]at ha hb;show(if ph (ao cs a.2 p.1) (ao cs b.2 p.1)=true then du cs wy ps a b else _)=true;rw[if_pos<|ML ha hb];exact h
 have Oj:∀a∈L.filter (λr=>!valued cs p r),∀b∈V,ai (ao cs a.2 p.1)=true/\ai (ao cs b.2 p.1)=false:=λa ha b hb=>by have ha:=(yk.mp ha).2;have hb:=(yk.mp<|hV.mem_iff.mp hb).2;unfold valued at ha hb;rw[Bool.not_not]at ha;exact{ha,by simpa using hb}
 have pm:(L.filter (λr=>!valued cs p r)++V).Perm L:=(List.Perm.append_left _ hV).trans<|List.perm_append_comm.trans<|List.filter_append_perm (valued cs p) L;by_cases e:p.2.2 ="first";rw[if_pos e];refine{pm,List.pairwise_append.mpr {hN,Xj,λa ha b hb=>?_}};obtain⟨na,nb⟩:=Oj a ha b hb;show(if ph (ao cs a.2 p.1) (ao cs b.2 p.1)=true then du cs wy ps a b else dm p (ao cs a.2 p.1) (ao cs b.2 p.1))=true;rw[xx<|by rw[na,nb];nofun,if_neg zd];unfold dm;rw[na,nb,if_pos<|by rfl,zu e];rfl;rw[if_neg e];refine{List.perm_append_comm.trans pm,List.pairwise_append.mpr {Xj,hN,λa ha b hb=>?_}};obtain⟨na,nb⟩:=Oj b hb a ha;show(if ph (ao cs a.2 p.1) (ao cs b.2 p.1)=true then du cs wy ps a b else dm p (ao cs a.2 p.1) (ao cs b.2 p.1))=true;rw[xx<|by rw[na,nb];nofun,if_neg zd];unfold dm;rw[na,nb,if_pos<|by rfl,zq e];rfl
end
noncomputable abbrev qK:Str:="sorted_by_keys.<locals>.<lambda>"
noncomputable abbrev qV:Str:="sorted_by_values.<locals>.<lambda>"
noncomputable def Q8:D->D|.tup (x::_)=>x|_=>.av
noncomputable def Dk(cs:List<|Str×Str)(z:Str):D->D|.tup [_,.tup ws]=>ao cs ws z|_=>.av
inductive JA (t:fk) (ds:List D) (S:au) (R:KD) (Z:KX):Prop where
 |mk (cs:List<|Str×Str) (l:Addr) (rs:List Row) (wy:Str) (h0:ds=[.ref l,.str wy]) (h1:nJ wy=true) (h2:S l=some (.lst<|rs.map ah)) (h3:rs.length<64) (h4:Rg cs rs) (h5:S t.aP=some (.tab qK)) (h6:∀(bT:List Row)(p:Addr),bT.Perm rs->(bT.Pairwise λa b=>du cs wy [] a b=true)->S p=none->R (.ref p) (S.set p<|.lst<|bT.map ah))
theorem cz{S S2:au}{p:Addr}{c:Ce}(h:Sub S S2):Sub (S.set p c) (S2.set p c):=λb e hb=>by by_cases q:b=p;subst q;rw[aa]at hb⊢;exact hb;rw[ag q]at hb⊢;exact h b e hb
theorem cn{S S2:au}{p:Addr}(h:Sub S S2)(e:S2 p=none):S p=none:=by cases q:S p with|none=>rfl|some c=>rw[h p c q]at e;cases e
theorem xy{z:Str}(h:nJ z=true):z ="up"\/z ="down":=by unfold nJ at h;simpa using h
theorem Rg.unlike(h:Rg cs rs):rs.Pairwise λa b=>a.1≠b.1:=List.pairwise_map.mp h.2
theorem nR(T:Txt w K mg t)(B:Bm mg base):Ok P w base T.fP 4 (JA t):=by
 refine T.fP.F.okC (k:=3) nr (by rintro ds S R Z ⟨_,_,_,_,e,_⟩;rw[e];rfl) ?_;rintro g_ A outer s H E ds S R Z t9 hr ⟨cs,l,rs,wy,e,Kz,hl,hn,lF,ht,q⟩;subst e;have Cz:Ar ((rs.map ah).map Q8):=.inl {rs.map Prod.fst,by rw[zx,zx];rfl};have un:rs.Pairwise λa b=>a.1≠b.1:=lF.unlike;have Nh:(rs.map ah).length<64:=by rw[za];exact hn
 refine{_,(sc (si (bq bA hr.u (dv 1) ds) (s1<|sr<|N4 (N:=["row"]) (src:=[none]) (t9.trans T.gE) ⟨T.dU,B⟩ hr (kD (ae ic) ["rows","way"] rfl rfl<|by trivial) (dv 0) (λ_ _ _ _=>(ix (hr.in1.in1.deeper _).units (dv 0) di)) T.fQ eE) s0)<|s1<|sr<|Vf (N:=["row"]) (src:=[none]) (t9.trans T.gE) ⟨T.dU,B⟩ hr (kD (ae ic) ["rows","way"] rfl rfl<|by trivial) (dv 0) (λ_ _ _ _=>(ix (hr.in1.in1.deeper _).units (dv 0) di)) T.fQ eE),?_};rcases xy Kz with rfl|rfl;refine !!⟨bL (by trivial) !{l,rs.map ah,Q8,rfl,hl,Nh,ht,Cz,λx hx S' hs Qk hQ=>?_,λg S2 p hg hs hp=>?_}⟩;obtain⟨r,hr,rfl⟩:=zg.mp hx;exact !!⟨hQ S'<|.refl _⟩;obtain⟨bT,e,pm,h⟩:=nQ hg;rw[e];refine{S.set p<|.lst<|bT.map ah,cz hs,q bT p pm (h _ _ un (λx y hx hy eO=>?_) λx y hx hy e ne=>absurd (D.str.inj e) ne)<|cn hs hp};show(u3 x.1 y.1==decide (("up": Str) ="up"))=true;have:u3 x.1 y.1=true:=zu eO;rw[this];rfl;refine !!⟨qg (by trivial) !{l,rs.map ah,Q8,rfl,hl,Nh,ht,Cz,λx hx S' hs Qk hQ=>?_,λg S2 p hg hs hp=>?_}⟩;obtain⟨r,hr,rfl⟩:=zg.mp hx;exact !!⟨hQ S'<|.refl _⟩;obtain⟨bT,e,pm,h⟩:=nQ hg;rw[e];refine{S.set p<|.lst<|bT.map ah,cz hs,q bT p pm (h _ _ un (λx y hx hy eO=>?_) λx y hx hy e ne=>absurd (D.str.inj e) ne)<|cn hs hp};show(u3 x.1 y.1==decide (("down": Str) ="up"))=true;have:u3 y.1 x.1=true:=zu eO;by_cases e:x.1=y.1;rw[e,EM]at this;cases this;rw[xu e]at this;have h2:u3 x.1 y.1=false:=by simpa using this
 rw[h2,zq<|by trivial];rfl
inductive JB (t:fk) (ds:List D) (S:au) (R:KD) (Z:KX):Prop where
 |mk (cs:List<|Str×Str) (ps:List Part) (p:Part) (wy:Str) (l:Addr) (rs:List Row) (h0:ds=[.tup<|cs.map aA,p3 p,.ref l]) (h1:Gd cs) (h2:Pin cs<|p::ps) (h3:nJ p.2.1=true) (h4:S l=some (.lst<|rs.map ah)) (h5:rs.length<64) (h6:Rg cs rs) (h7:(∀r∈rs,valued cs p r=true)) (h8:(rs.Pairwise λa b=>du cs wy ps a b=true)) (h9:S t.aK=some (.tab qV)) (h10:∀(bT:List Row)(a:Addr),bT.Perm rs->(bT.Pairwise λa b=>du cs wy (p::ps) a b=true)->S a=none->R (.ref a) (S.set a<|.lst<|bT.map ah))
theorem Dm{α:Type}{f:α->D}{β:Type}{mk:β->D} : ∀{l:List α},(∀x∈l,∃b,f x=mk b)->∃bs:List β,l.map f=bs.map mk|[],_=>{[],rfl}|x::l,h=>by obtain⟨b,e⟩:=h x zo;obtain⟨bs,e2⟩:=Dm λy hy=>h y<|zi _ hy;exact{b::bs,by rw[zI,e,e2];rfl}
theorem GN{cs:List<|Str×Str}{p:Part}{k:Str}{rs:List Row}(hk:∀r∈rs,Vg k<|ao cs r.2 p.1)(hv:∀r∈rs,valued cs p r=true):Ar ((rs.map ah).map<|Dk cs p.1):=by
 rw[zx];have nn:∀r∈rs,ao cs r.2 p.1≠.av:=λr hr=>bz (by have:=hv r hr;unfold valued at this;simpa using this);by_cases e:k ="number";refine .inr<|Dm λr hr=>?_;have h1:=hk r hr;have h2:=nn r hr;show ∃b,ao cs r.2 p.1=.int b;generalize ao cs r.2 p.1=v at h1 h2;cases v with|av=>exact absurd rfl h2|int i=>exact⟨i,rfl⟩|str z=>(have h1:=h1.1;unfold jv at h1;simp only[ai,yU]at h1;rw[if_pos e]at h1;cases h1)|_=>cases h1.2
 refine .inl<|Dm λr hr=>?_;have h1:=hk r hr;have h2:=nn r hr;show ∃b,ao cs r.2 p.1=.str b;generalize ao cs r.2 p.1=v at h1 h2;cases v with|av=>exact absurd rfl h2|str i=>exact⟨i,rfl⟩|int z=>(have h1:=h1.1;unfold jv at h1;simp only[ai,yU]at h1;rw[if_neg e]at h1;cases h1)|_=>cases h1.2
theorem JC{cs:List<|Str×Str}{wy:Str}{ps:List Part}{p:Part}{x y:Row}(nx:valued cs p x=true)(ny:valued cs p y=true)(ne:ph (ao cs x.2 p.1) (ao cs y.2 p.1)=false)(h:(uK (ao cs x.2 p.1) (ao cs y.2 p.1)==decide (p.2.1 ="up"))=true):du cs wy (p::ps) x y=true:=by
 unfold valued at nx ny;have nx:ai (ao cs x.2 p.1)=false:=by simpa using nx
 have ny:ai (ao cs y.2 p.1)=false:=by simpa using ny
 show(if ph (ao cs x.2 p.1) (ao cs y.2 p.1)=true then du cs wy ps x y else dm p (ao cs x.2 p.1) (ao cs y.2 p.1))=true;rw[ne,if_neg zd];unfold dm;rw[nx,ny,if_neg<|by simp];exact h
theorem JD{x y:D}(h:uK x y=true):ph x y=false:=by cases x with|int i=>(cases y with|int j=>(exact zq λe=>by rw[e,EN]at h;cases h)|_=>cases h)|str i=>(cases y with|str j=>(exact zq λe=>by rw[e,EN]at h;cases h)|_=>cases h)|_=>cases h
theorem JE(x y:D):ph x y=ph y x:=by cases x<;>cases y<;>first|rfl|exact yM.mpr ⟨Eq.symm,Eq.symm⟩
theorem kY(T:Txt w K mg t)(B:Bm mg base):Ok P w base T.eF 6 (JB t):=by
 refine T.eF.F.okC (k:=5) kU (by rintro ds S R Z ⟨_,_,_,_,_,_,e,_⟩;rw[e];rfl) ?_;rintro g_ A outer s H E ds S R Z t9 hr ⟨cs,ps,p,wy,l,rs,e,hg,JF,Kz,hl,hn,lF,hv,VP,ht,q⟩;subst e;obtain⟨c,hc,ec⟩:=JF p zo;obtain⟨k,hk⟩:=xw hg JF;have Cz:Ar ((rs.map ah).map<|Dk cs p.1):=GN (λr hr=>hk _<|lF.1 r hr) hv;have Nh:(rs.map ah).length<64:=by rw[za];exact hn
 have same:∀x y:Row,x∈rs->y∈rs->Dk cs p.1 (ah x)=Dk cs p.1 (ah y)->du cs wy ps x y=true->du cs wy (p::ps) x y=true:=λx y hx hy e h=>by show(if ph (ao cs x.2 p.1) (ao cs y.2 p.1)=true then du cs wy ps x y else _)=true;rw[if_pos<|(cK (hk _<|lF.1 x hx).2 (hk _<|lF.1 y hy).2).mpr e];exact h
 have step:∀x,x∈rs.map ah->∀Qk:KD,∀S':au,Qk (Dk cs p.1 x) S'->∀Zq,mw [D.tup<|cs.map aA,x,.str p.1] S' Qk Zq:=λx hx Qk S' hQ _=>by obtain⟨r,hr,rfl⟩:=zg.mp hx;exact{cs,r,c,by rw[ec],hg,lF.1 r hr,hc,by rw[ec];exact hQ}
 refine{_,(sc (si (bq bA hr.u (ix hr.u (dv 1) di) ds) (s1<|sr<|N4 (N:=["row","columns","part"]) (src:=[none,some 0,some 1]) (t9.trans T.fi) ⟨T.dr,B⟩ hr (kD (ae fL) ["columns","part","rows"] rfl rfl<|by trivial) (dv 2) (λ_ _ _ _=>(cf ((dO T).mono<|by decide) (hr.in1.in1.deeper _) T.cD.m T.cD.k T.cD.b d0<|al 1<|al 0<|ac (ix (hr.in1.in1.deeper _).units (dv 2) di) an)) T.fQ eE) s0)<|s1<|sr<|Vf (N:=["row","columns","part"]) (src:=[none,some 0,some 1]) (t9.trans T.fi) ⟨T.dr,B⟩ hr (kD (ae fL) ["columns","part","rows"] rfl rfl<|by trivial) (dv 2) (λ_ _ _ _=>(cf ((dO T).mono<|by decide) (hr.in1.in1.deeper _) T.cD.m T.cD.k T.cD.b d0<|al 1<|al 0<|ac (ix (hr.in1.in1.deeper _).units (dv 2) di) an)) T.fQ eE),?_};rcases xy Kz with e1|e1;refine !!!⟨bL (by rw[e1];decide +kernel) !{l,rs.map ah,Dk cs p.1,rfl,hl,Nh,ht,Cz,λx hx S' hs Qk hQ=>!!!!⟨step x hx _ S' (hQ S'<|.refl _) _⟩,λg S2 a hg hs ha=>?_}⟩;obtain⟨bT,e,pm,h⟩:=nQ hg;rw[e];refine{S.set a<|.lst<|bT.map ah,cz hs,q bT a pm (h _ _ VP (λx y hx hy eO=>?_) same)<|cn hs ha};have eO:=Jz (a:=ao cs x.2 p.1) (b:=ao cs y.2 p.1) eO;exact JC (hv x hx) (hv y hy) (JD eO) (by rw[eO,zu e1];rfl);refine !!!⟨qg (by rw[e1];decide +kernel) !{l,rs.map ah,Dk cs p.1,rfl,hl,Nh,ht,Cz,λx hx S' hs Qk hQ=>!!!!⟨step x hx _ S' (hQ S'<|.refl _) _⟩,λg S2 a Zw hs ha=>?_}⟩;obtain⟨bT,e,pm,h⟩:=nQ Zw;rw[e];refine{S.set a<|.lst<|bT.map ah,cz hs,q bT a pm (h _ _ VP (λx y hx hy eO=>?_) same)<|cn hs ha};have eO:=Jz (a:=ao cs y.2 p.1) (b:=ao cs x.2 p.1) eO;have ne:=JD eO;refine JC (hv x hx) (hv y hy) (by rw[JE];exact ne) ?_;have nn:∀r∈rs,ao cs r.2 p.1≠.av:=λr hr=>bz (by have:=hv r hr;unfold valued at this;simpa using this);have EC:ao cs x.2 p.1≠ao cs y.2 p.1:=λe=>by have:=(cK (hk _<|lF.1 y hy).2 (hk _<|lF.1 x hx).2).mpr e.symm;rw[ne]at this;cases this
 have:=nO (hk _<|lF.1 x hx) (hk _<|lF.1 y hy) (nn x hx) (nn y hy) EC;rw[eO]at this;have h2:uK (ao cs x.2 p.1) (ao cs y.2 p.1)=false:=by simpa using this
 rw[h2,e1,zq<|by trivial];rfl
def Tb(t:fk)(S:au):Prop:=S t.aP=some (.tab qK)/\S t.aK=some (.tab qV)
theorem Tb.sub{t:fk}{S S':au}(h:Tb t S)(s:Sub S S'):Tb t S':={s _ _ h.1,s _ _ h.2}
noncomputable def EO(b:Bool)(cs:List<|Str×Str)(p:Part):D->Bool|.tup [_,.tup ws]=>ai (ao cs ws p.1)==b|_=>false
theorem px{rs:List Row}{f:D->Bool}{g:Row->Bool}(h:∀r,f (ah r)=g r):((rs.map ah).filter f).map id=(rs.filter g).map ah:=by rw[List.map_id,List.filter_map];exact congrArg (List.map ah)<|List.filter_congr λr _=>h r
inductive JG (t:fk) (ds:List D) (S:au) (R:KD) (Z:KX):Prop where
 |mk (cs:List<|Str×Str) (ps:List Part) (p:Part) (wy:Str) (l:Addr) (rs:List Row) (h0:ds=[.tup<|cs.map aA,p3 p,.ref l]) (h1:Gd cs) (h2:Pin cs<|p::ps) (h3:nJ p.2.1=true) (h4:S l=some (.lst<|rs.map ah)) (h5:rs.length<64) (h6:Rg cs rs) (h7:(rs.Pairwise λa b=>du cs wy ps a b=true)) (h8:Tb t S) (h9:∀(bT:List Row)(a:Addr),bT.Perm rs->(bT.Pairwise λa b=>du cs wy (p::ps) a b=true)->S a=none->R (.ref a) (S.set a<|.lst<|bT.map ah))
theorem nS(T:Txt w K mg t)(B:Bm mg base):Ok P w base T.fR 7 (JG t):=by
 refine T.fR.F.bG cJ ?_;obtain⟨cs,ps,p,wy,l,rs,e,hg,JF,Kz,hl,hn,lF,VP,ht,q⟩;obtain⟨c,hc,ec⟩:=JF p zo;have hz:(rs.map ah).length<=1000:=by rw[za];lia
 refine{_,(sc (Kq (i:=3) (N:=["row","columns","part"]) (src:=[none,some 0,some 1]) cJ.nd (kD (ae ie) ["columns","part","rows","without","valued"] rfl rfl<|by trivial) (il<|dv 2) (pT<|show(["row","columns","part"]:List Str).Nodup by trivial) (aU rfl) aV (λ_ _ _ _ _=>(if1<|bq jr hr.u (aT T.cD (dO T) hr<|al 1<|al 0<|ac (ix hr.u (dv 2) di) an) dn)) λ_ _ _ _ _=>(dv 0))<|sc (Kq (i:=4) (N:=["row","columns","part"]) (src:=[none,some 0,some 1]) cJ.nd (kD (ae ie) ["columns","part","rows","without","valued"] rfl rfl<|by trivial) (il<|dv 2) (pT<|show(["row","columns","part"]:List Str).Nodup by trivial) (aU rfl) aV (λ_ _ _ _ _=>(if1<|bq oy hr.u (aT T.cD (dO T) hr<|al 1<|al 0<|ac (ix hr.u (dv 2) di) an) dn)) λ_ _ _ _ _=>(dv 0))<|sc (bO (i:=4) cJ.nd<|aT T.eF (kY T B) hr<|al 0<|al 1<|al 4 an)<|s1<|sr<|LP (bq bA hr.u (ix hr.u (dv 1) di) ds) (bo bf hr.u (dv 3)<|dv 4)<|bo bf hr.u (dv 4)<|dv 3),?_};refine !{_,hl,?_};refine fC (EO true cs p) id hl hz (λd hd Q Q' hQ C_=>?_) λp1 vJ=>?_;obtain⟨r,hr,rfl⟩:=zg.mp hd;refine !!!!{cs,r,c,(show[D.tup<|cs.map aA,ah r,D.str p.1]=[_,_,D.str c.1] by rw[ec]),hg,lF.1 r hr,hc,?_};rw[ec];refine{_,rfl,bX (λh=>!⟨hQ ?_⟩) λh=>C_ ?_};show(ai (ao cs r.2 p.1)==true)=true;rw[show ai (ao cs r.2 p.1)=true from h];rfl;show(ai (ao cs r.2 p.1)==true)=false;rw[show ai (ao cs r.2 p.1)=false from h];rfl;have e1:((rs.map ah).filter<|EO true cs p).map id=(rs.filter λr=>!valued cs p r).map ah:=px λr=>by show(ai (ao cs r.2 p.1)==true)=!valued cs p r;unfold valued;cases ai (ao cs r.2 p.1)<;>rfl
 rw[show({rs.map ah,λS=>we S (.ref l)<|rs.map ah}:q9).xs=rs.map ah from rfl,e1];have Q9:Sub S (S.set p1<|.lst<|(rs.filter λr=>!valued cs p r).map ah):=.new vJ;have h1:(S.set p1<|.lst<|(rs.filter λr=>!valued cs p r).map ah) p1=some (.lst<|(rs.filter λr=>!valued cs p r).map ah):=aa;generalize S.set p1 (.lst<|(rs.filter λr=>!valued cs p r).map ah)=S1 at Q9 h1⊢;have A1:=Q9 _ _ hl;refine !{_,A1,?_};refine fC (EO false cs p) id A1 hz (λd hd Q Q' hQ C_=>?_) λp2 hG=>?_;obtain⟨r,hr,rfl⟩:=zg.mp hd;refine !!!!{cs,r,c,(show[D.tup<|cs.map aA,ah r,D.str p.1]=[_,_,D.str c.1] by rw[ec]),hg,lF.1 r hr,hc,?_};rw[ec];refine{_,rfl,bX (λh=>!⟨hQ ?_⟩) λh=>C_ ?_};show(ai (ao cs r.2 p.1)==false)=true;rw[show ai (ao cs r.2 p.1)=false from nt h];rfl;show(ai (ao cs r.2 p.1)==false)=false;rw[show ai (ao cs r.2 p.1)=true from nf h];rfl;have e2:((rs.map ah).filter<|EO false cs p).map id=(rs.filter<|valued cs p).map ah:=px λr=>by show(ai (ao cs r.2 p.1)==false)=valued cs p r;unfold valued;cases ai (ao cs r.2 p.1)<;>rfl
 rw[show({rs.map ah,λS=>we S (.ref l)<|rs.map ah}:q9).xs=rs.map ah from rfl,e2];have Kk:Sub S (S1.set p2<|.lst<|(rs.filter<|valued cs p).map ah):=Q9.trans<|.new hG;have h21:(S1.set p2<|.lst<|(rs.filter<|valued cs p).map ah) p1=_:=(ag<|ib h1 hG).trans h1;have h22:(S1.set p2<|.lst<|(rs.filter<|valued cs p).map ah) p2=_:=aa;generalize S1.set p2 (.lst<|(rs.filter<|valued cs p).map ah)=S2 at Kk h21 h22⊢;have fl:(rs.filter<|valued cs p).length<=rs.length:=yg _ _;have fl2:(rs.filter λr=>!valued cs p r).length<=rs.length:=yg _ _;refine !!!{cs,ps,p,wy,p2,rs.filter<|valued cs p,rfl,hg,JF,Kz,h22,by lia,lF.sub yt,λr hr=>(yk.mp hr).2,VP.sublist yt,(ht.sub Kk).2,λV p3 hV Xj Oe=>?_};obtain⟨pm,pw⟩:=GL VP hV Xj;have h31:(S2.set p3<|.lst<|V.map ah) p1=_:=(ag<|ib h21 Oe).trans h21;have h33:(S2.set p3<|.lst<|V.map ah) p3=some (.lst<|V.map ah):=aa;have VQ:Sub S (S2.set p3<|.lst<|V.map ah):=Kk.trans<|.new Oe;generalize S2.set p3 (.lst<|V.map ah)=S3 at h31 h33 VQ⊢;have hVl:=hV.length_eq;refine !!!⟨bX (λh=>?_) λh=>?_⟩;rw[if_pos<|zC h]at pm pw;refine !!{_,_,h31,h33,sm<|by rw[za,za];lia,λp4 hp4=>?_};rw[<-zG];exact{_,cz VQ,q _ p4 pm pw<|cn VQ hp4};rw[if_neg<|yd h]at pm pw;refine !!{_,_,h33,h31,sm<|by rw[za,za];lia,λp4 hp4=>?_};rw[<-zG];exact{_,cz VQ,q _ p4 pm pw<|cn VQ hp4}
structure Og(cs:List (Str×Str))(ps:List Part)(wy:Str):Prop where
 pin:Pin cs ps
 aaq:∀p∈ps,nJ p.2.1=true
 way:nJ wy=true
 ok:Dh cs ps wy=true
 tx:∀p∈ps,Pok p
noncomputable def dw(ps:List Part)(wy:Str):D:=.tup [.tup<|ps.map p3,.str wy]
inductive Ol (t:fk) (ds:List D) (S:au) (R:KD) (Z:KX):Prop where
 |mk (cs:List<|Str×Str) (ps:List Part) (wy:Str) (l:Addr) (rs:List Row) (h0:ds=[.tup<|cs.map aA,dw ps wy,.ref l]) (h1:Gd cs) (h2:Og cs ps wy) (h3:S l=some (.lst<|rs.map ah)) (h4:rs.length<64) (h5:Rg cs rs) (h6:Tb t S) (h7:∀(bT:List Row)(a:Addr),bT.Perm rs->(bT.Pairwise λa b=>du cs wy ps a b=true)->S a=none->R (.ref a) (S.set a<|.lst<|bT.map ah))
structure Vw(C:Addr)(S:au)(a:Addr)(cs:List (Str×Str))(m:D)(rows:List Row):Prop where
 sh:∃F dl rs,cq C S a F cs dl rs/\rs.length<64/\uI dl.length m≠none/\∀i ss,uI dl.length m=some i->ss.Perm (rs.map (·.1))->PyProof.Rows.sortedS ss=true->mq rs i ss=rows.map ah
 mo:Gt S m
 len:rows.length<64
 rg:Rg cs rows
theorem cq.sub(b:Sub S S')(h:cq C S a F cs dl rs):cq C S' a F cs dl rs:=by obtain⟨ld,lr,ra,h,e⟩:=h;exact{ld,lr,ra,{b _ _ h.ins,b _ _ h.AQ,b _ _ h.run,λr hr=>b _ _<|h.cell r hr,h.kn,h.an,h.sz},e}
theorem A4(T:Txt w K mg t)(B:Bm mg base):Ok P w base T.sW 8 (Ol t):=by
 refine T.sW.F.bG gH ?_;obtain⟨cs,ps,wy,l,rs,e,hg,ho,hl,hn,lF,ht,q⟩;refine{_,(sc (bO (i:=3) gH.nd<|aT T.fP (nR T B) hr<|al 2<|ac (ix hr.u (dv 1) di) an)<|sc (Bv<|Ko (irt T.sT<|ac (ix hr.u (dv 1) di) an) (gn (i:=4) gH.nd)<|s1<|bO (i:=3) gH.nd<|aT T.fR (nS T B) hr<|al 0<|al 4<|al 3 an)<|s1<|sr<|dv 3),?_};refine !!!{cs,l,rs,wy,rfl,ho.way,hl,hn,lF,ht.1,λrs1 p1 pm1 pw1 vJ=>?_};have hrl:ps.reverse.length=ps.length:=yC;refine{λaI S'=>∃(o:Option D)(p:Addr)(bT:List Row),aI=[some<|.tup<|cs.map aA,some<|dw ps wy,some<|.ref l,some<|.ref p,o]/\S p=none/\S' p=some (.lst<|bT.map ah)/\Sub S S'/\bT.Perm rs/\bT.Pairwise λa b=>du cs wy ps a b=true,?_,?_};refine !!!⟨?_⟩;refine{λi aI S'=>∃(o:Option D)(p:Addr)(bT:List Row),aI=[some<|.tup<|cs.map aA,some<|dw ps wy,some<|.ref l,some<|.ref p,o]/\S p=none/\S' p=some (.lst<|bT.map ah)/\Sub S S'/\bT.Perm rs/\bT.Pairwise λa b=>du cs wy (ps.reverse.take i).reverse a b=true,{none,p1,rs1,rfl,vJ,aa,.new vJ,pm1,pw1},λ_ _ _ _=>trivial,?_,?_};rintro i d aI S' hd ⟨o,p,bT,rfl,hp,dN,sb,pm,pw⟩;have hd:(ps.map p3).reverse[i]?=some d:=hd;rw[<-List.map_reverse,zk]at hd;cases e5:ps.reverse[i]? with|none=>(rw[e5]at hd;cases hd)|some pt=>rw[e5]at hd;cases hd;have P_:pt∈ps:=List.mem_reverse.mp<|zy e5;have et:(ps.reverse.take<|i+1).reverse=pt::(ps.reverse.take i).reverse:=(by rw[List.take_add_one,e5,List.reverse_append];rfl);have RT:Pin cs (pt::(ps.reverse.take i).reverse):=λx hx=>(by rcases zh.mp hx with rfl|hx;exact ho.pin _ P_;exact ho.pin _<|List.mem_reverse.mp<|List.mem_of_mem_take<|List.mem_reverse.mp hx);refine !!!{cs,(ps.reverse.take i).reverse,pt,wy,p,bT,rfl,hg,RT,ho.aaq pt P_,dN,by rw[pm.length_eq];exact hn,lF.perm pm,pw,ht.sub sb,λVe p2 pm2 pw2 hG=>?_};rw[<-et]at pw2;exact{_,p2,Ve,rfl,cn sb hG,aa,sb.trans<|.new hG,pm2.trans pm,pw2}
 rintro aI S' ⟨o,p,bT,rfl,hp,dN,sb,pm,pw⟩;have pw:bT.Pairwise λa b=>du cs wy (ps.reverse.take (ps.map p3).reverse.length).reverse a b=true:=pw;rw[yC,za,List.take_of_length_le<|Nat.le_of_eq hrl,List.reverse_reverse]at pw;exact fo ⟨o,p,bT,rfl,hp,dN,sb,pm,pw⟩;rintro aI S' ⟨o,p,bT,rfl,hp,dN,sb,pm,pw⟩;refine !{S.set p<|.lst<|bT.map ah,λb c hb=>?_,q bT p pm pw hp};by_cases e:b=p;subst e;rw[aa]at hb;cases hb;exact dN;rw[ag e]at hb;exact sb b c hb
noncomputable def Om(cs:List<|Str×Str)(d:D):D->Bool|.tup [.str k,.tup ws]=>bU cs (k,ws) 7 d|_=>false
inductive JH (t:fk) (ds:List D) (S:au) (R:KD) (Z:KX):Prop where
 |mk (a cs d m rows) (h0:ds=[.ref a,d,m]) (h1:Gd cs) (h2:Sq cs d) (h3:Vw t.ak S a cs m rows) (h4:∀p,S p=none->R (.ref p) (S.set p<|.lst<|(rows.filter λr=>bU cs r 7 d).map ah))
theorem qL(T:Txt w K mg t):Ok P w base T.iR 11 (JH t):=by refine T.iR.F.bG jg ?_;obtain⟨a,cs,d,m,rows,e,hg,hd,hv,q⟩;obtain⟨F,dl,rs,hS,hn,VR,VS⟩:=hv.sh;obtain⟨ld,lr,ra,h,_⟩:=id hS;refine{_,(sc (bO (i:=3) jg.nd<|fI (dv 0) T.aj T.az (aN T) hr)<|s1<|sr<|vd (N:=["row","columns","sieve"]) (src:=[none,some 3,some 1]) (kD (ae sL) ["shelf","sieve","moment","columns"] rfl rfl<|by trivial) (il<|oG (dv 0) T.aj T.iN (GB T) hr<|al 2 an) (pT<|show(["row","columns","sieve"]:List Str).Nodup by trivial) (aU rfl) aV (λ_ _ _ _ _=>(if1<|tv<|aT T.passes (kK T 7) hr<|al 1<|al 2<|al 0 an)) λ_ _ _ _ _=>(dv 0)),?_};refine !{a,_,rfl,h.ins,rfl,a,F,cs,dl,rs,rfl,hS,?_};refine !{a,_,rfl,h.ins,rfl,_,rfl,a,F,cs,dl,rs,m,rfl,hS,hn,hv.mo,λi ss hi hp hs p kX=>?_,λh=>absurd h VR};rw[VS i ss hi hp hs];refine{_,aa,?_};refine fC (Om cs d) id aa (by show(rows.map ah).length<=1000;rw[za];have:=hv.len;lia) (λx hx Q Q' hQ C_=>?_) λp2 hG=>?_;obtain⟨r,hr,rfl⟩:=zg.mp hx;refine !!!{cs,d,r,rfl,hg,hd.1,hv.rg.1 r hr,_,rfl,bX (λh=>!⟨hQ h⟩) λh=>C_ h};have e1:((rows.map ah).filter<|Om cs d).map id=(rows.filter λr=>bU cs r 7 d).map ah:=px λr=>rfl;rw[show({rows.map ah,λS=>we S (.ref p)<|rows.map ah}:q9).xs=rows.map ah from rfl,e1];exact{_,cz<|.new kX,q p2<|cn (.new kX) hG}
inductive VT (t:fk) (ds:List D) (S:au) (R:KD) (Z:KX):Prop where
 |mk (a cs ps wy d m rows) (h0:ds=[.ref a,dw ps wy,d,m]) (h1:Gd cs) (h2:Og cs ps wy) (h3:Sq cs d) (h4:Vw t.ak S a cs m rows) (h5:Tb t S) (h6:∀(bT:List Row)(p:Addr),bT.Perm (rows.filter λr=>bU cs r 7 d)->(bT.Pairwise λa b=>du cs wy ps a b=true)->S p=none->R (.ref p) (S.set p<|.lst<|bT.map ah))
theorem cL(T:Txt w K mg t)(B:Bm mg base):Ok P w base T.cg 12 (VT t):=by refine T.cg.F.bG nq ?_;obtain⟨a,cs,ps,wy,d,m,rows,e,hg,ho,hd,hv,ht,q⟩;obtain⟨F,dl,rs,hS,hn,VR,VS⟩:=hv.sh;obtain⟨ld,lr,ra,h,_⟩:=id hS;refine{_,(s1<|sr<|aT T.sW (A4 T B) hr<|ac (fI (dv 0) T.aj T.az (aN T) hr)<|al 1<|ac (aT T.iR (qL T) hr<|al 0<|al 2<|al 3 an) an),?_};refine !{a,_,rfl,h.ins,rfl,a,F,cs,dl,rs,rfl,hS,?_};refine !!!!{a,cs,d,m,rows,rfl,hg,hd,hv,λp hp=>?_};have fl:(rows.filter λr=>bU cs r 7 d).length<=rows.length:=yg _ _;have:=hv.len;refine{cs,ps,wy,p,rows.filter λr=>bU cs r 7 d,rfl,hg,ho,aa,Nat.lt_of_le_of_lt fl this,hv.rg.sub yt,ht.sub<|.new hp,λbT p2 pm pw hG=>?_};exact{_,cz<|.new hp,q bT p2 pm pw<|cn (.new hp) hG}
theorem kd_sub(h:Sub S S')(hk:Qf S d k):Qf S' d k:=by cases d with|ref a=>(rcases hk with⟨e,ds,q⟩|⟨e,ds,q⟩;exact .inl {e,ds,h _ _ q};exact .inr {e,ds,h _ _ q})|_=>exact hk
theorem Gt.sub(h:Sub S S')(g:Gt S d):Gt S' d:={by obtain⟨k,hk⟩:=g.1;exact{k,kd_sub h hk},g.2}
theorem Q_:Gt S (.tup ws):={{.tup,rfl},λ_=>nofun}
theorem MM(h:ws.length<=1000)(g:∀v∈ws,Gt S v):Sf S (.tup ws):={Q_,λXi e=>by cases e;exact⟨h,g⟩}
theorem gt_int:Gt S (.int i):={{.int,rfl},λ_=>nofun}
theorem ER(h:z.cps.size<=1000):Gt S (.str z):={{.str,rfl},λz' e=>by cases e;exact h}
theorem JI(h:eN d=true):Gt S d:=by cases d with|av=>exact tH|int i=>exact gt_int|str z=>have h:(decide (z.cps.size<=40)&&PyData.strOk z)=true:=h;rw[zO]at h;have:=zC h.1;exact ER (by lia)|_=>cases h
theorem tN:∀{cs:List (Str×Str)}{ws:List D},Paired rel cs ws->ws.length=cs.length|_,_,.nil=>rfl|_,_,.cons _ t=>by rw[zQ,zQ,tN t]
theorem Wg.len(h:Wg cs ws):ws.length=cs.length:=tN h
theorem Wg.Rb(h:Wg cs ws):nB cs (.tup ws)=true:=by show(decide (ws.length=cs.length)&&(List.zipWith (λc v=>jv c.2 v) cs ws).all id)=true;rw[zu h.len,yb];unfold Wg at h;induction h with|nil=>rfl|cons r t ih=>rw[List.zipWith_cons_cons,List.all_cons,ih];show(id (jv _ _)&&true)=true;rw[show id (jv _ _)=true from r.1];rfl
theorem Wg.gts(h:Wg cs ws)(hc:cs.length<=8):Sf S (.tup ws):=MM (by rw[h.len];lia) λv hv=>JI<|h.all v hv
theorem MN(hg:Gd cs)(hN:∀c∈cs,c.1∈By):∀d∈cs.map aA,Ly S 60 d:=λd hd=>by obtain⟨c,hc,rfl⟩:=zg.mp hd;refine(Ly.tup (n:=0) λx hx=>?_).le (by decide);have hx:x∈[D.str c.1,D.str c.2]:=hx;simp only[zh,zM,or_false]at hx;rcases hx with rfl|rfl;exact Ly.str (Jm _<|hN c hc).2;rcases (hg.2.2 c hc).2 with e|e<;>rw[e]<;>exact Ly.str (by trivial)
theorem xA{S:au}{a b:Addr}{ds:List D}{R:KD}(e1:S a=some (.lst ds))(e2:S b=some (.lst []))(h:∀d∈ds,Ly S 60 d)(q:R (.bl<|!ds.isEmpty) S):Eh true (.ref a) (.ref b) S R:=by obtain⟨ps,k1,k2,k3,k4⟩:=Ly.all h;refine{.list ps,.list [],⟨ds,ps,e1,rfl,k1⟩,{[],[],e2,rfl,by simp only[DpAll]},by simp only[PyData.canLay0];exact k2,by simp only[PyData.canLay0,PyData.canLayAll0],.inl<|by simp only[PyData.depth];lia,?_};rw[if_pos rfl,AW,show ps.isEmpty=ds.isEmpty by cases ps<;>cases ds<;>first|rfl|cases k4];exact q
theorem MO{n a b tn:Nat}(ha:a<n)(hb:b<n)(h:(a+tn)%n=(b+tn)%n):a=b:=by rcases Nat.lt_trichotomy a b with l|l|l;have:=Nat.sub_mod_eq_zero_of_mod_eq h.symm;rw[show b+tn-(a+tn)=b-a by lia,Nat.mod_eq_of_lt<|by lia]at this;lia;exact l;have:=Nat.sub_mod_eq_zero_of_mod_eq h;rw[show a+tn-(b+tn)=a-b by lia,Nat.mod_eq_of_lt<|by lia]at this;lia
noncomputable def tO(cs:List<|Str×Str)(tn k:Nat):Str:=(cs.getD ((tn+k)%cs.length) ("","")).1
theorem A5(h:0<cs.length):∃c∈cs,cs[(tn+k)%cs.length]?=some c/\c.1=tO cs tn k:=by have eO:(tn+k)%cs.length<cs.length:=Nat.mod_lt _ h;refine{cs[(tn+k)%cs.length],List.getElem_mem eO,zf eO,?_};unfold tO;rw[zH,zf eO];rfl
theorem A6{cs:List<|Str×Str}(hg:(cs.map Prod.fst).Nodup){tn i:Nat}(hi:i<=cs.length):((List.range i).map<|tO cs tn).Nodup:=by
 refine List.pairwise_map.mpr<|List.nodup_range.imp_of_mem λ{a b} ha hb n e=>n ?_;have ha:=zS.mp ha;have hb:=zS.mp hb;have h0:0<cs.length:=by lia
 have la:(tn+a)%cs.length<cs.length:=Nat.mod_lt _ h0;have lb:(tn+b)%cs.length<cs.length:=Nat.mod_lt _ h0;unfold tO at e;rw[zH,zf la,zH,zf lb]at e;have e:(cs[(tn+a)%cs.length]).1=(cs[(tn+b)%cs.length]).1:=e;have e2:(cs.map Prod.fst)[(tn+a)%cs.length]'(by rw[za];exact la)=(cs.map Prod.fst)[(tn+b)%cs.length]'(by rw[za];exact lb):=by rw[List.getElem_map,List.getElem_map];exact e
 have e3:=(List.getElem_inj hg).mp e2;rw[Nat.add_comm tn a,Nat.add_comm tn b]at e3;exact MO (n:=cs.length) (by lia) (by lia) e3
inductive vK (ds:List D) (S:au) (R:KD) (Z:KX):Prop where
 |mk (cs:List<|Str×Str) (c:Int) (h0:ds=[.tup<|cs.map aA,.int c]) (h1:Gd cs) (h2:∀(ps:List Part)(wy:Str),Og cs ps wy->R (dw ps wy) S)
theorem JJ(T:Txt w K mg t):Ok P w base T.wQ 2 vK:=by
 refine T.wQ.F.bG eL ?_;obtain⟨cs,c0,e,hg,q⟩;have h8:=hg.1;have Bs:(cs.map aA).length=cs.length:=za _;refine{_,(sc (bO (i:=2) eL.nd<|aT T.gG (iB T) hr<|al 1<|ac di an)<|sc (bO (i:=3) eL.nd<|cb NI T.Oa HZ<|ac (cb aQ T.aM aE<|al 0 an)<|ac (wq<|ix hr.u (cB<|ac di<|ac di<|ac di<|ac di<|ac di<|ac di<|ac di<|ac di an)<|bo ba hr.u (ix hr.u (dv 2) di) di) an)<|sc (bO (i:=4) eL.nd<|cB an)<|sc (Bv<|Ko (NO T.gD<|al 3 an) (gn (i:=5) eL.nd)<|sc (bO (i:=6) eL.nd<|ix hr.u (ix hr.u (dv 0)<|bo ba hr.u (bo bf hr.u (ix hr.u (dv 2) di)<|dv 5)<|cb aQ T.aM aE<|al 0 an) di)<|s1<|se<|bm zN zV zW cC (dv 4)<|ac (cN<|al 6<|ac (wq<|ix hr.u (cB<|ac ds<|ac ds an)<|bo ba hr.u (ix hr.u (dv 2)<|bo bf hr.u di<|dv 5) di)<|ac (wq<|ix hr.u (cB<|ac ds<|ac ds an)<|bo ba hr.u (bo bR hr.u (ix hr.u (dv 2)<|bo bf hr.u di<|dv 5) di) di) an) an)<|s1<|sr<|cN<|ac (ct gz T.bw aW<|al 4 an)<|ac (wq<|ix hr.u (cB<|ac ds<|ac ds an)<|bo ba hr.u (ix hr.u (dv 2) di) di) an),?_};refine !{c0,12,rfl,by decide,λxs lx Kx hx y6=>?_};have s1:=Sub.new (c:=.lst<|xs.map D.int) y6;have hX:(S.set lx<|.lst<|xs.map D.int) lx=some (.lst<|xs.map D.int):=aa;generalize S.set lx (.lst<|xs.map D.int)=S1 at s1 hX⊢;have at_:∀k:Nat,k<12->∃x:Int,mD (xs.map D.int) ((k:Nat):Int)=some (.int x)/\0<=x:=λk hk=>nG (by lia) (by rw[za];lia) hx;obtain⟨x0,e0,_⟩:=at_ 0 (by decide);obtain⟨x1,e1,x10⟩:=at_ 1 (by decide);obtain⟨x11,e11,_⟩:=at_ 11 (by decide);obtain⟨tn,rfl⟩:=Int.eq_ofNat_of_zero_le x10;refine !!{Gv,λp hp=>!{_,_,(Sub.new hp) _ _ hX,e0,by decide,bH (zL _<|by decide) (zJ _<|by decide) hp λd hd=>?_}};obtain⟨m,rfl⟩:∃m:Nat,d=.int m:=by have hd:d∈[D.int 1,.int 2,.int 0,.int 3,.int 1,.int 2,.int 8,.int 3]:=hd;simp only[zh,zM,or_false]at hd;rcases hd with h|h|h|h|h|h|h|h;exact{1,h};exact{2,h};exact{0,h};exact{3,h};exact{1,h};exact{2,h};exact{8,h};exact{3,h}
 obtain⟨k,hk,ek⟩:∃k:Nat,k<=cs.length/\(if decide ((m:Int)<(((cs.map aA).length:Nat):Int))=true then (m:Int) else (((cs.map aA).length:Nat):Int))=(k:Int):=by rw[Bs];by_cases h:(m:Int)<((cs.length:Nat):Int);exact{m,by lia,by rw[zu h,if_pos rfl]};exact{cs.length,zr _,by rw[zq h,if_neg zd]}
 refine{_,_,rfl,?_};have ek2:(if (λi j:Int=>decide<|i<j) ((m:Nat):Int) (((cs.map aA).length:Nat):Int)=true then ((m:Nat):Int) else (((cs.map aA).length:Nat):Int))=((k:Nat):Int):=ek;rw[ek2];refine{mm,λlp hlp=>?_};have nxp:lx≠lp:=ib hX hlp;refine{λaI S'=>∃(o5 o6:Option D)(ps:List Part),aI=[some<|.tup<|cs.map aA,some<|.int c0,some<|.ref lx,some<|.int (k:Nat),some<|.ref lp,o5,o6]/\ps.map Prod.fst=(List.range k).map (tO cs tn)/\(∀p∈ps,nJ p.2.1=true/\GG p.2.2=true)/\S'=S1.set lp (.lst<|ps.map p3),?_,?_};refine !{((k:Nat):Int),rfl,by lia,by lia,?_};refine{λi aI S'=>∃(o5 o6:Option D)(ps:List Part),aI=[some<|.tup<|cs.map aA,some<|.int c0,some<|.ref lx,some<|.int (k:Nat),some<|.ref lp,o5,o6]/\ps.map Prod.fst=(List.range i).map (tO cs tn)/\(∀p∈ps,nJ p.2.1=true/\GG p.2.2=true)/\S'=S1.set lp (.lst<|ps.map p3),{none,none,[],rfl,rfl,λ_ h=>(nomatch h),rfl},λ_ _ _ _=>trivial,?_,?_};rintro i d aI S' hd ⟨o5,o6,ps,rfl,hn,c_,rfl⟩;have hd:(dQ 0 ((k:Nat):Int).toNat)[i]?=some d:=hd;obtain⟨hi,rfl⟩:=cP hd;have hi:i<k:=by lia
 have dN:ps.length=i:=by have:=congrArg List.length hn;simpa using this
 obtain⟨c,hc,ec,ec1⟩:=A5 (cs:=cs) (tn:=tn) (k:=i) (by lia);have Df:(S1.set lp<|.lst<|ps.map p3) lx=some (.lst<|xs.map D.int):=(ag nxp).trans hX;have hP2:(S1.set lp<|.lst<|ps.map p3) lp=some (.lst<|ps.map p3):=aa;have eat:mD (cs.map aA) ((((tn:Nat):Int)+(0+((i:Nat):Int)))%(((cs.map aA).length:Nat):Int))=some (aA c):=by rw[Bs,show(((tn:Nat):Int)+(0+((i:Nat):Int)))%((cs.length:Nat):Int)=(((tn+i)%cs.length:Nat):Int) by rw[Int.zero_add,Int.natCast_emod,Int.natCast_add]];refine dy ?_;rw[zk,ec];rfl
 obtain⟨xi,Xk,_⟩:=at_ (2+i) (by lia);have Xk:mD (xs.map D.int) (2+(0+((i:Nat):Int)))=some (.int xi):=by rw[show(2:Int)+(0+((i:Nat):Int))=((2+i:Nat):Int) by lia];exact Xk
 refine !!{_,_,Df,e1,_,rfl,_,rfl,_,rfl,by rw[Bs];lia,_,eat,_,rfl,?_};refine{_,rfl,{rfl,_,hP2},_,rfl,cG,λp hp=>!!{_,_,(Sub.new hp) _ _ Df,Xk,by decide,bH (zL _<|by decide) (zJ _<|by decide) hp λd hd=>?_}};obtain⟨wy,rfl,Kz⟩:∃wy:Str,d=.str wy/\nJ wy=true:=by have hd:d∈[D.str "up",.str "down"]:=hd;simp only[zh,zM,or_false]at hd;rcases hd with h|h;exact{_,h,by trivial};exact{_,h,by trivial}
 refine{cG,λp hp=>!!{_,_,(Sub.new hp) _ _ Df,Xk,{by decide,by trivial},by decide,bH (zL _<|by decide) (zJ _<|by decide) hp λd hd=>?_}};obtain⟨en,rfl,y8⟩:∃en:Str,d=.str en/\GG en=true:=by have hd:d∈[D.str "first",.str "last"]:=hd;simp only[zh,zM,or_false]at hd;rcases hd with h|h;exact{_,h,by trivial};exact{_,h,by trivial}
 refine{uF,lp,_,_,rfl,rfl,hP2,bg<|by rw[za];lia,?_};refine{_,_,ps++[(c.1,wy,en)],rfl,?_,λx hx=>?_,?_};rw[zG,hn,List.range_succ,zG];show _=_++[tO cs tn i];rw[<-ec1];rfl;rcases zP.mp hx with h|h;exact c_ x h;rw[zE.mp h];exact⟨Kz,y8⟩;rw[bj,zG];rfl;rintro aI S' ⟨o5,o6,ps,rfl,hn,c_,rfl⟩;rw[show({dQ 0 ((k:Nat):Int).toNat,λ_=>True}:q9).xs.length=((k:Nat):Int).toNat from b_,show((k:Nat):Int).toNat=k by lia]at hn;exact fo ⟨o5,o6,ps,rfl,hn,c_,rfl⟩;rintro aI S' ⟨o5,o6,ps,rfl,hn,c_,rfl⟩;have Df:(S1.set lp<|.lst<|ps.map p3) lx=some (.lst<|xs.map D.int):=(ag nxp).trans hX;refine !{_,_,rfl,.inl aa,cG,λp hp=>!{_,_,(Sub.new hp) _ _ Df,e11,by decide,bH (zL _<|by decide) (zJ _<|by decide) hp λd hd=>?_}};obtain⟨wy,rfl,Kz⟩:∃wy:Str,d=.str wy/\nJ wy=true:=by have hd:d∈[D.str "up",.str "down"]:=hd;simp only[zh,zM,or_false]at hd;rcases hd with h|h;exact{_,h,by trivial};exact{_,h,by trivial}
 have dN:ps.length=k:=by have:=congrArg List.length hn;simpa using this
 have pin:Pin cs ps:=λx hx=>by have:x.1∈ps.map Prod.fst:=zg.mpr ⟨x,hx,rfl⟩;rw[hn]at this;obtain⟨k,hk,e⟩:=zg.mp this;have:=zS.mp hk;obtain⟨c,hc,_,ec⟩:=A5 (cs:=cs) (tn:=tn) (k:=k) (by lia);exact{c,hc,ec.trans e}
 refine{cG,S,s1.trans<|.new hlp,q ps wy {pin,λx hx=>(c_ x hx).1,Kz,?_,λx hx=>?_}};unfold Dh;rw[zu<|show ps.length<=8 by lia,yb,zO,zO];refine{zZ.mpr λx hx=>?_,zu<|by rw[hn];exact A6 hg.2.1 hk,Kz};obtain⟨c,hc,ec⟩:=pin x hx;unfold gJ;rw[zu<|zg.mpr ⟨c,hc,ec⟩,(c_ x hx).1,(c_ x hx).2];rfl;obtain⟨c,hc,ec⟩:=pin x hx;obtain⟨h1,h2⟩:=c_ x hx;refine{by rw[<-ec];exact oW (hg.2.2 c hc).1,by rcases xy h1 with e|e<;>rw[e]<;>decide +kernel,?_};unfold GG at h2;simp only[Bool.or_eq_true,zY]at h2;rcases h2 with e|e<;>rw[e]<;>decide +kernel
theorem Oo{c1:Bool}{X A B:Prop}(c2:Bool)(hx:(if c2=true then A else B)->X)(h:if (c1||c2)=true then A else B):if c1=true then (if true=true then A else B) else X:=by cases c1 with|true=>exact h|false=>exact hx h
theorem Dn{c1:Bool}{X A B:Prop}(c2:Bool)(hx:(if c2=true then A else B)->X)(h:if (c1&&c2)=true then A else B):if c1=true then X else (if false=true then A else B):=by cases c1 with|true=>exact hx h|false=>exact h
theorem keys_str{out:List D} : (∀d∈out,∃z∈KS,d=.str z)->∃ks:List Str,out=ks.map D.str/\∀k∈ks,k∈KS:=by induction out with|nil=>exact λ_=>{[],rfl,λ_ h=>(nomatch h)}|cons x l ih=>intro h;obtain⟨z,hz,e⟩:=h x zo;obtain⟨ks,e2,hk⟩:=ih λd hd=>h d<|zi _ hd;exact{z::ks,by rw[e,e2];rfl,λk HL=>(zh.mp HL).elim (λe=>e ▸ hz)<|hk k}
theorem tP{rel:D->D->Prop} : ∀{xs out:List D},Paired rel xs out->∀v∈out,∃x,rel x v|_,_,.nil,_,h=>(nomatch h)|_,_,.cons r t,v,h=>by rcases zh.mp h with rfl|h;exact{_,r};exact tP t v h
theorem Oq{cs:List<|Str×Str}{d:D}(h:Lf cs d){n:Nat} : qk (n+1) d=1:=by rcases h with rfl|⟨ks,rfl,_⟩|⟨o,c,v,_,_,_,rfl⟩<;>rfl
theorem Rf(n:Nat)(e:D):qk (n+1) (.tup [.str "not",e])=qk n e+1:=by show((nM _).map<|qk n).sum+1=_;rw[xp];simp
theorem MP{o:Str}(h:o ="and"\/o ="or")(n:Nat)(ds:List D):qk (n+1) (.tup [.str o,.tup ds])=(ds.map<|qk n).sum+1:=by show((nM _).map<|qk n).sum+1=_;rw[xq h]
theorem GO{I:q9}{S1:au}{g:xV}{te:TD}{σ:SD}{src:List<|Option Nat}{R:KD}(P:Nat->List D->au->Prop)(h0:P 0 [] S1)(aL:∀i out S,P i out S->I.ok S) (step:∀i d out S,I.xs[i]?=some d->P i out S->out.length<sizeLine/\g d (lg σ src) S λfw S3=>te fw S3 (λv S5=>P (i+1) (out++[v]) S5) Zf) (fin:∀out S2,P I.xs.length out S2->∀p,S2 p=none->R (.ref p) (S2.set p<|.lst out)):u_ σ src g mU te R I S1:=by
 refine{P,h0,aL,λi d out S hd h=>{(step i d out S hd h).1,?_},fin};have e:(λ(fw:SD)(S3:au)=>mU fw S3 (λb S4=>if b=true then te fw S4 (λv S5=>P (i+1) (out++[v]) S5) Zf else P (i+1) out S4) Zf)=λfw S3=>te fw S3 (λv S5=>P (i+1) (out++[v]) S5) Zf:=by funext fw S3;simp[mU]
 rw[e];exact(step i d out S hd h).2
theorem JK{f:D->Nat}{k:Nat} : ∀{l:List D},(∀e∈l,f e<=k)->(l.map f).sum<=k*l.length|[],_=>zT _|e::l,h=>by have h1:=h e zo;have ih:=JK λx hx=>h x<|zi _ hx;rw[zI,List.sum_cons,zQ,Nat.mul_succ];lia
noncomputable def Rh:Nat->Nat|0=>0|n+1=>1+3*Rh n
theorem Ri{S S':au}{p:Addr}{c c':Ce}(h:Sub (S.set p c) S'):Sub (S.set p c') (S'.set p c'):=λb x hb=>by by_cases e:b=p;subst e;rw[aa]at hb⊢;exact hb;rw[ag e]at hb⊢;exact h b x<|(ag e).trans hb
inductive Rj (n:Nat) (ds:List D) (S:au) (R:KD) (Z:KX):Prop where
 |mk (cs:List<|Str×Str) (lx:Addr) (m:Nat) (xs:List Int) (hn:n=m+1) (h0:ds=[.tup<|cs.map aA,.ref lx,.int ((m:Nat):Int)]) (h1:Cg cs) (h2:S lx=some (.lst<|xs.map D.int)) (h3:xs.length<=20) (h4:∀x∈xs,0<=x)
  (h5:∀(d:D)(ys:List Int),Sg cs n d->qk n d<=Rh n->ys.length<=20->(∀y∈ys,0<=y)->R d (S.set lx<|.lst<|ys.map D.int)):Rj n ds S R Z
theorem pA(T:Txt w K mg t):∀n,Ok P w base T.iW (2+n) (Rj n)
 |0=>by refine T.iW.F.bG (k:=1) cT ?_;rintro _ _ _ _ _ _ _ S R Z hr ⟨_,_,_,_,e,_⟩;cases e
 |n+1=>by
  refine T.iW.F.bG (k:=2+n) cT ?_;obtain⟨cs,lx,m,xs,en,e,hc,hX,Kx,hx,q⟩;cases en;have hg:=hc.1;have n2:=cG;have n3:=uF;refine{_,(sc (bO (i:=3) cT.nd<|aT T.rA (AV T) hr<|al 1 an)<|sc (bO (i:=4) cT.nd<|bo ba hr.u (dv 3) di)<|sc (si (twd<|twand (bq ox hr.u (dv 2) di)<|tw1<|bq bA hr.u (dv 4) di) (s1<|sr<|cN<|ac ds<|ac (aT T.iW (pA T n) hr<|al 0<|al 1<|ac (bo mR hr.u (dv 2) di) an) an) s0)<|sc (si (twd<|twand (bq ox hr.u (dv 2) di)<|tw1<|bq wg hr.u (dv 4) di) (sc (Kq (i:=5) (N:=["_law_k","_law_columns_here","_law_xs","_law_deep"]) (src:=[none,some 0,some 1,some 2]) cT.nd (kD (ae vj) ["_law_columns_here","_law_xs","_law_deep","_law_x","_law_way","_law_some","_law_name","_law_kind","_law_value_here"] rfl rfl<|by trivial) (NO T.gD<|ac (wq<|ix hr.u (cB<|ac di<|ac di<|ac di<|ac di an)<|bo ba hr.u (bo bR hr.u (dv 3) di) di) an) (pT<|show(["_law_k","_law_columns_here","_law_xs","_law_deep"]:List Str).Nodup by trivial) (aU rfl) aV (λ_ _ _ _ _=>sC) λ_ _ _ _ _=>(aT T.iW (pA T n) hr<|al 1<|al 2<|ac (bo mR hr.u (dv 3) di) an))<|s1<|sr<|cN<|ac (wq<|ix hr.u (cB<|ac ds<|ac ds an)<|bo mR hr.u (dv 4) di)<|ac (ct gz T.bw aW<|al 5 an) an) s0)<|sc (si (twd<|twor (bq bA hr.u (dv 4) di)<|tw1<|bq bA hr.u (dv 0)<|cN an) (s1<|sr<|wq<|ix hr.u (cB<|ac (cN<|ac ds an)<|ac (cN<|ac ds<|ac (ct gz T.bw aW<|ac (vd (N:=["_law_k","_law_x"]) (src:=[none,some 3]) (kD (ae vj) ["_law_columns_here","_law_xs","_law_deep","_law_x","_law_way","_law_some","_law_name","_law_kind","_law_value_here"] rfl rfl<|by trivial) (NO T.gD<|ac (bo ba hr.u (bo bR hr.u (dv 3) di) di) an) (pT<|show(["_law_k","_law_x"]:List Str).Nodup by trivial) (aU rfl) aV (λ_ _ _ _ _=>sC) λ_ _ _ _ _=>(aT T.AI (Dc T) hr<|ac (bo bf hr.u (bo bR hr.u (dv 1) di)<|bo sy hr.u di<|dv 0) an)) an) an) an)<|bo ba hr.u (bo bR hr.u (dv 3) di) di) s0)<|sc (sa (ix hr.u (dv 0)<|bo ba hr.u (bo bR hr.u (dv 3) di)<|cb aQ T.aM aE<|al 0 an)<|gt (n:=2)<|gc (gn (i:=6) cT.nd)<|gc (gn (i:=7) cT.nd) g0)<|sc (bO (i:=8) cT.nd<|aT T.ng (tI T) hr<|al 7<|ac (aT T.rA (AV T) hr<|al 1 an) an)<|sc (si (twd<|twor (bq jr hr.u (dv 8) dn)<|tw1<|bq wg hr.u (dv 4) di) (s1<|sr<|cN<|ac ds<|al 6<|al 8 an) s0)<|sc (si (twd<|twand (bq bA hr.u (dv 4) di)<|tw1<|bq bA hr.u (dv 7) ds) (s1<|sr<|cN<|ac ds<|al 6<|al 8 an) s0)<|s1<|sr<|cN<|ac (wq<|ix hr.u (cB<|ac ds<|ac ds an)<|bo ba hr.u (dv 4) di)<|al 6<|al 8 an),?_};refine !{lx,xs,rfl,hX,Kx,hx,λx ys x0 yl hy=>?_};have hY:(S.set lx<|.lst<|ys.map D.int) lx=some (.lst<|ys.map D.int):=aa;have q1:∀d,Lf cs d->R d (S.set lx<|.lst<|ys.map D.int):=λd hd=>q d ys (.inl hd) (by rw[Oq hd];show 1<=1+_;lia) (by lia) hy;refine !{by decide,?_};have w0:0<=x%9:=zL _ (by decide);have w1:x%9<9:=zJ _ (by decide);generalize x%9=way at w0 w1⊢;have ed:0<n->((n:Nat):Int)-1=((n-1:Nat):Int):=λh=>by lia
  refine !{decide<|(0:Int)<((n:Nat):Int),rfl,Dn (decide<|way=0) (λh=>!!⟨h⟩)<|bX (λh=>?_) λMm=>?_};rw[zO,zY,zY]at h;have hn:0<n:=by lia
  refine !!!{cs,lx,n-1,ys,by lia,by rw[ed hn];rfl,hc,hY,by lia,hy,λd zs hd hz zl xW=>{n2,?_}};rw[bj];exact fo<|q _ zs (.inr<|.inl ⟨d,rfl,hd⟩) (by rw[Rf];show _<=1+3*Rh n;lia) zl xW;refine !{decide<|(0:Int)<((n:Nat):Int),rfl,Dn (decide<|way<3) (λh=>!!⟨h⟩)<|bX (λh=>?_) λ_=>?_};rw[zO,zY,zY]at h;have hn:0<n:=by lia
  have hwz:way≠0:=λe=>by rw[Bool.and_eq_false_iff,yi,yi]at Mm;lia
  refine{uG,λp hp=>!⟨{by decide,by trivial},by decide,bH (zL _<|by decide) (zJ _<|by decide) hp λd hd=>?_⟩};obtain⟨k,rfl,hk⟩:∃k:Nat,d=.int k/\k<=3:=by have hd:d∈[D.int 2,.int 3,.int 1,.int 0]:=hd;simp only[zh,zM,or_false]at hd;rcases hd with h|h|h|h;exact{2,h,by decide};exact{3,h,by decide};exact{1,h,by decide};exact{0,h,by decide}
  refine{((k:Nat):Int),rfl,by lia,by lia,?_};refine GO (λi out S'=>∃zs:List Int,Sub (S.set lx<|.lst<|zs.map D.int) S'/\zs.length<=20/\(∀z∈zs,0<=z)/\out.length=i/\∀e∈out,Sg cs n e/\qk n e<=Rh n) {ys,.refl _,by lia,hy,rfl,λ_ h=>(nomatch h)} (λ_ _ _ _=>trivial) ?_ ?_;rintro i d out S' hd ⟨zs,sb,zl,hz,Qb,ho⟩;have hi:i<k:=by have hd:(dQ 0 ((k:Nat):Int).toNat)[i]?=some d:=hd;have:=(cP hd).1;lia
  refine{bg<|by lia,_,rfl,_,rfl,_,rfl,cs,lx,n-1,zs,by lia,by rw[ed hn];rfl,hc,sb _ _ aa,zl,hz,λd vs hd hsz vl hv=>{vs,Ri sb,vl,hv,by rw[zt,Qb];rfl,λe he=>?_}};rcases zP.mp he with he|he;exact ho e he;rw[zE.mp he];exact⟨hd,hsz⟩;rintro out S' ⟨zs,sb,zl,hz,Qb,ho⟩ pl dN;rw[show({dQ 0 ((k:Nat):Int).toNat,λ_=>True}:q9).xs.length=((k:Nat):Int).toNat from b_]at Qb;refine{n2,λp2 hG=>!⟨bH (by lia) (by show way-1<2;lia) hG λd hd=>?_⟩};obtain⟨o,rfl,hoo⟩:∃o:Str,d=.str o/\(o ="and"\/o ="or"):=by have hd:d∈[D.str "and",.str "or"]:=hd;simp only[zh,zM,or_false]at hd;rcases hd with h|h;exact{_,h,.inl rfl};exact{_,h,.inr rfl}
  refine !{_,_,rfl,.inl aa,n2,_,sb.trans<|.new dN,q _ zs (.inr<|.inr {o,out,hoo,rfl,by lia,λe he=>(ho e he).1}) ?_ zl hz};have hs:=JK λe he=>(ho e he).2;have:Rh n*out.length<=Rh n*3:=Nat.mul_le_mul_left _ (by lia);rw[MP hoo];show _<=1+3*Rh n;lia;refine !{decide<|way=8,rfl,Oo (cs.map aA).isEmpty (λh=>!{mm,MD (MN hc.1 hc.2) !⟨h⟩})<|bX (λh=>?_) λh=>?_};have k0:0<=x/9%4:=zL _ (by decide);have k1:x/9%4<4:=zJ _ (by decide);refine{uE,_,rfl,{by decide,by trivial},by decide,x/9%4,rfl,by lia,by lia,?_};refine iu (λ_ v=>∃z∈KS,v=.str z) trivial (by show(dQ 0 _).length<=_;rw[b_];lia) (λd hd Q hQ=>?_) λout ho p1 vJ=>?_;obtain⟨j,hj⟩:=yp hd;obtain⟨_,rfl⟩:=cP hj;exact{_,rfl,{by decide,by trivial},_,rfl,.inl {by decide,by decide},_,rfl,λz hz=>hQ _ ⟨z,hz,rfl⟩};obtain⟨ks,rfl,Cz⟩:=keys_str λd hd=>(tP ho d hd).elim λ_ h=>h;have hl:=yH ho;rw[show({dQ 0 (x/9%4).toNat,λ_=>True}:q9).xs=dQ 0 (x/9%4).toNat from rfl,b_,za]at hl;refine{_,_,rfl,.inl aa,n2,n2,λp hp=>!⟨{by decide,by trivial},by decide,bH (zL _<|by decide) (zJ _<|by decide) hp λd hd=>?_⟩};have hd:d∈[D.tup [.str "every"],.tup [.str "key",.tup<|ks.map D.str]]:=hd;simp only[zh,zM,or_false]at hd;rcases hd with rfl|rfl;exact{_,.new vJ,q1 _<|.inl rfl};exact{_,.new vJ,q1 _<|.inr<|.inl {ks,rfl,by lia,Cz}};rw[Bool.or_eq_false_iff]at h;have Bs:0<cs.length:=by cases cs with|nil=>(cases h.2)|cons c cs=>exact Nat.succ_pos _
  have Sj:(cs.map aA).length=cs.length:=za _;obtain⟨d,e1,e2⟩:=mP (l:=cs.map aA) (i:=x/9%(((cs.map aA).length:Nat):Int)) (zL _<|by lia)<|zJ _ (by lia);obtain⟨c,SH,rfl⟩:=zg.mp<|zy e2;refine !!⟨{by decide,by trivial},_,rfl,_,rfl,by lia,_,e1,_,rfl,rfl,_,_,rfl,_,_,rfl,rfl,?_⟩;refine !!{lx,ys,rfl,hY,by lia,hy,λx2 zs _ zl hz=>{c.2,x2,rfl,λv hv=>?_}};rw[bj];have qc:∀o,xo o c v->Fo (S.set lx<|.lst<|zs.map D.int) (R<|.tup [.str o,.str c.1,v]):=λo ho=>fo<|q _ zs (.inl<|.inr<|.inr ⟨o,c,v,SH,hv,ho,rfl⟩) (by rw[Oq<|.inr<|.inr ⟨o,c,v,SH,hv,ho,rfl⟩];show 1<=1+_;lia) (by lia) hz;refine !{ai v,rfl,Oo (decide<|way<4) (λh=>!!⟨h⟩)<|bX (λh4=>?_) λh4=>?_};exact !!{n3,qc _<|.inl rfl};rw[Bool.or_eq_false_iff]at h4;have NX:=bz h4.1;refine !{decide<|way=4,rfl,Dn (decide<|c.2 ="word") (λh=>!!⟨h⟩)<|bX (λh5=>?_) λh5=>?_};rw[zO]at h5;exact !!{n3,qc _<|.inr {NX,.inr<|.inr {rfl,zC h5.2}}};refine{n2,λp hp=>!{(by decide:(0:Int)<2),bH (zL _<|by decide) (zJ _<|by decide) hp λd hd=>?_}};obtain⟨o,rfl,ho⟩:∃o:Str,d=.str o/\(o ="below"\/o ="above"):=by have hd:d∈[D.str "below",.str "above"]:=hd;simp only[zh,zM,or_false]at hd;rcases hd with rfl|rfl;exact{_,rfl,.inl rfl};exact{_,rfl,.inr rfl}
  exact !!{n3,qc o<|.inr {NX,ho.elim .inl λh=>.inr<|.inl h}}
theorem ES:∀{l:List Str}{p:Str},PyProof.Rows.risingS p l=true->(p::l).Pairwise λa b=>a.cps.toList<=b.cps.toList|[],p,_=>List.pairwise_singleton _ _|x::r,p,h=>by have h:(!PySem.Spec.ltCps x.cps.toList p.cps.toList&&PyProof.Rows.risingS x r)=true:=h;rw[zO,PyProof.Rows.ltCps_eq,Bool.not_eq_true',yi]at h;have ih:=ES h.2;have hpx:p.cps.toList<=x.cps.toList:=List.not_lt.mp h.1;refine List.pairwise_cons.mpr {λy hy=>?_,ih};rcases zh.mp hy with e|hy;rw[e];exact hpx;exact List.le_trans hpx<|(List.pairwise_cons.mp ih).1 y hy
theorem pB(h:PyProof.Rows.sortedS l=true):l.Pairwise λa b=>a.cps.toList<=b.cps.toList:=by cases l with|nil=>exact List.Pairwise.nil|cons x r=>exact ES h
theorem MQ{a b:Str}(h:a.cps.toList=b.cps.toList):a=b:=by obtain⟨⟨x⟩⟩:=a;obtain⟨⟨y⟩⟩:=b;cases h;rfl
theorem GP{l m:List Str}(hl:l.Pairwise λa b=>a.cps.toList<=b.cps.toList)(hm:m.Pairwise λa b=>a.cps.toList<=b.cps.toList)(nl:l.Nodup)(nm:m.Nodup)(h:∀z,z∈l↔z∈m):l=m:=List.Perm.eq_of_pairwise (λa b _ _ h1 h2=>MQ<|List.le_antisymm h1 h2) hl hm<|(List.perm_ext_iff_of_nodup nl nm).mpr h
def TI(l:List Std)(n:Nat):Prop:=∀s∈l,s.b<=n/\∀m,s.e=some m->m<n
noncomputable def MR(s:Std):D:=match s.e with|none=>.tup s.ws|some _=>.av
noncomputable def cur(l:List Std):D:=match l.getLast? with|none=>.av|some s=>MR s
theorem kj(r:List Std)(s:Std):cur (r++[s])=MR s:=by unfold cur;rw[List.getLast?_concat]
theorem Rk(h:TI l n):wt l n=cur l:=by by_cases e:l=[];subst e;rfl;obtain⟨r,s,rfl⟩:=kJ e;rw[kj];unfold wt;rw[List.reverse_append];obtain⟨h1,h2⟩:=h s<|zD _<|zE.mpr rfl;show Jf (s::r.reverse) (n:Int)=_;unfold Jf MR;rw[if_pos<|show(s.b:Int)<=(n:Int) by lia];cases q:s.e with|none=>rfl|some m=>have:=h2 m q;exact if_neg<|show ¬(n:Int)<=(m:Int) by lia
theorem TI.up(h:TI l n):TI l (n+1):=λs hs=>{Nat.le_succ_of_le (h s hs).1,λm e=>Nat.lt_succ_of_lt<|(h s hs).2 m e}
theorem TI.close(h:TI l n):TI (i5 n l) (n+1):=by by_cases e:l=[];subst e;exact λs hs=>(nomatch hs);obtain⟨r,s,rfl⟩:=kJ e;rw[eY];intro x hx;rcases zP.mp hx with hx|hx;exact h.up x<|yj _ hx;rw[zE.mp hx];exact{Nat.le_succ_of_le (h s<|zD _<|zE.mpr rfl).1,λm e=>by cases e;exact Nat.lt_succ_self _}
theorem TI.beg(h:TI l<|n+1):TI (l++[Std.mk (n+1) none ws]) (n+1):=λs hs=>by rcases zP.mp hs with hs|hs;exact h s hs;rw[zE.mp hs];exact{zr _,λm e=>(by cases e)}
theorem GQ:cur (i5 n l)=.av:=by by_cases e:l=[];subst e;rfl;obtain⟨r,s,rfl⟩:=kJ e;rw[eY,kj];rfl
noncomputable def ud(kn:Kn)(z:Str):D:=match iE kn z with|none=>.av|some ws=>.tup ws
structure RI(rs:jx)(n:Nat)(kn:Kn):Prop where
 ti:∀z,TI ((lu rs z).getD []) n
 eq:∀z,cur ((lu rs z).getD [])=ud kn z
 ks:∀r∈rs,r.1∈KS
theorem MS(h:r∈C6 rs z s):r.1=z\/∃r'∈rs,r'.1=r.1:=by unfold C6 at h;split at h;obtain⟨r0,xX,e⟩:=zg.mp h;refine .inr {r0,xX,?_};subst e;split<;>rfl;rcases zP.mp h with h|h;exact .inr ⟨r,h,rfl⟩;rw[zE.mp h];exact .inl rfl
theorem JL(h:∀r∈rs,r.1∈KS)(hz:z∈KS):∀r∈C6 rs z s,r.1∈KS:=λr hr=>by rcases MS hr with e|⟨r',lF,e⟩;rw[e];exact hz;rw[<-e];exact h r' lF
theorem ET:ud (qI kn z ws) k=if k=z then .tup ws else ud kn k:=by unfold ud;rw[MC];by_cases h:k=z;rw[if_pos h,if_pos h];rw[if_neg h,if_neg h]
theorem rD:ud (oZ kn z) k=if k=z then .av else ud kn k:=by unfold ud;rw[EI];by_cases h:k=z;rw[if_pos h,if_pos h];rw[if_neg h,if_neg h]
theorem RI.nil:RI [] 0 []:={λz s hs=>(nomatch hs),λz=>rfl,λr hr=>(nomatch hr)}
theorem RI.put(h:RI rs n kn)(hz:z∈KS):RI (uJ rs z (n+1) ws) (n+1) (qI kn z ws):=by refine{λk=>?_,λk=>?_,JL h.ks hz};unfold uJ;rw[ke];by_cases e:k=z;rw[if_pos e];exact(h.ti z).up.beg;rw[if_neg e];exact(h.ti k).up;unfold uJ;rw[ke,ET];by_cases e:k=z;rw[if_pos e,if_pos e];exact kj _ _;rw[if_neg e,if_neg e];exact h.eq k
theorem RI.del(h:RI rs n kn)(hz:z∈KS):RI (mn rs z n) (n+1) (oZ kn z):=by refine{λk=>?_,λk=>?_,JL h.ks hz};unfold mn;rw[ke];by_cases e:k=z;rw[if_pos e];exact(h.ti z).close;rw[if_neg e];exact(h.ti k).up;unfold mn;rw[ke,rD];by_cases e:k=z;rw[if_pos e,if_pos e];exact GQ;rw[if_neg e,if_neg e];exact h.eq k
theorem RI.change(h:RI rs n kn)(hz:z∈KS):RI (uJ (mn rs z n) z (n+1) ws) (n+1) (qI kn z ws):=by have h1:=h.del hz;refine{λk=>?_,λk=>?_,JL h1.ks hz};unfold uJ;rw[ke];by_cases e:k=z;rw[if_pos e];exact(h1.ti z).beg;rw[if_neg e];exact h1.ti k;unfold uJ;rw[ke,ET];by_cases e:k=z;rw[if_pos e,if_pos e];exact kj _ _;rw[if_neg e,if_neg e,h1.eq k,rD,if_neg e]
theorem RI.wt{rs:jx}{n:Nat}{kn:Kn}(h:RI rs n kn)(z:Str):wt ((lu rs z).getD []) n=ud kn z:=by rw[Rk<|h.ti z,h.eq]
theorem RI.Bx(h:RI rs n kn)(hz:z∈KS):Bx rs (.str z) n=ud kn z:=by rw[xk (f_ z hz).1,h.wt]
theorem vL(kn:Kn)(z:Str):ai (ud kn z)=!(iE kn z).isSome:=by unfold ud;cases iE kn z<;>rfl
theorem Ot(h:cq C S a F cs dl rs):(rs.map (·.1)).Nodup:=by obtain⟨ld,lr,ra,h,_,rfl⟩:=h;unfold iy;rw[zx];exact h.kn
theorem RI.len(h:RI rs n kn)(hs:cq C S a F cs dl rs):rs.length<=60:=by
 have:=sub_len (Ot hs) (m:=KS) λx hx=>by obtain⟨r,hr,rfl⟩:=zg.mp hx;exact h.ks r hr
 rw[za]at this;exact zK this<|by trivial
noncomputable def Rl(kn:Kn)(ss:List Str):List D:=ss.map λz=>.tup [.str z,ud kn z]
theorem VU(h:lu rs k=some s):k∈rs.map (·.1):=by induction rs with|nil=>(cases h)|cons r rs ih=>rw[ft]at h;rw[zI];by_cases e:r.1=k;exact zh.mpr<|.inl e.symm;rw[if_neg e]at h;exact zi _<|ih h
noncomputable def pC(k:Nat)(l:List Std):List Std:=match l.getLast? with|none=>l|some s=>match s.e with|none=>i5 k l|some _=>l
theorem qo(h:s.e=none):pC k (r++[s])=r++[Std.mk s.b (some k) s.ws]:=by unfold pC;rw[List.getLast?_concat];dsimp only;rw[h];exact eY _ _ _
theorem A7(h:s.e=some n):pC k (r++[s])=r++[s]:=by unfold pC;rw[List.getLast?_concat];dsimp only;rw[h]
theorem MT{s:Std}{r:List Std}{m:Nat}(h:m<s.b):Jf (s::r) m=Jf r m:=by show(if (s.b:Int)<=(m:Int) then _ else Jf r m)=_;rw[if_neg<|by lia]
theorem GR(hm:m<=n):wt (pC n l) m=wt l m:=by by_cases e:l=[];subst e;rfl;obtain⟨r,s,rfl⟩:=kJ e;cases q:s.e with|some k=>rw[A7 q]|none=>rw[qo q];unfold wt;rw[List.reverse_append,List.reverse_append];show(if (s.b:Int)<=(m:Int) then (if (m:Int)<=(n:Int) then D.tup s.ws else .av) else Jf r.reverse m)=(if (s.b:Int)<=(m:Int) then (match s.e with|none=>.tup s.ws|some n=>if (m:Int)<=(n:Int) then .tup s.ws else .av) else Jf r.reverse m);rw[q,if_pos<|show(m:Int)<=(n:Int) by lia]
theorem Dq(h:cur l≠.av):pC n l=i5 n l:=by by_cases e:l=[];subst e;rfl;obtain⟨r,s,rfl⟩:=kJ e;rw[kj]at h;cases q:s.e with|none=>rw[qo q,eY]|some m=>unfold MR at h;rw[q]at h;exact absurd rfl h
noncomputable def iD(kn:Kn)(ss:List Str):List Row:=ss.map λz=>(z,(iE kn z).getD [])
structure Snap(rs:jx)(cs:List (Str×Str))(m:Nat)(rows:List Row):Prop where
 ex:∃kn ss,rows=iD kn ss/\KI cs kn/\ss.Perm (kn.map (·.1))/\PyProof.Rows.sortedS ss=true/\∀z,wt ((lu rs z).getD []) m=ud kn z
theorem vM(p:ss.Perm (kn.map (·.1))):(iD kn ss).map ah=Rl kn ss:=by unfold iD Rl;rw[zx];refine zU λz hz=>?_;obtain⟨ws,GS⟩:=mr<|p.mem_iff.mp hz;show D.tup [.str z,.tup<|(iE kn z).getD []]=.tup [.str z,ud kn z];unfold ud;rw[GS];rfl
theorem JM(hI:KI cs kn)(p:ss.Perm (kn.map (·.1))):Rg cs (iD kn ss):=by refine{λr hr=>?_,?_};obtain⟨z,hz,rfl⟩:=zg.mp hr;obtain⟨ws,GS⟩:=mr<|p.mem_iff.mp hz;show Wg cs ((iE kn z).getD []);rw[GS];exact(hI.ok _<|rC GS).2;unfold iD;rw[zx];show(ss.map id).Nodup;rw[List.map_id];exact p.nodup_iff.mpr hI.nd
theorem GU(hI:KI cs kn)(p:ss.Perm (kn.map (·.1))):(iD kn ss).length<=60:=by unfold iD;rw[za,p.length_eq,za];exact hI.len
theorem Snap.rg(h:Snap rs cs m rows):Rg cs rows/\rows.length<=60:=by obtain⟨kn,ss,rfl,hI,p,_⟩:=h.ex;exact{JM hI p,GU hI p}
theorem Snap.key(h:Snap rs cs m rows):∀r∈rows,r.1∈KS:=by obtain⟨kn,ss,rfl,hI,p,_⟩:=h.ex;intro r hr;obtain⟨z,hz,rfl⟩:=zg.mp hr;obtain⟨ws,GS⟩:=mr<|p.mem_iff.mp hz;exact(hI.ok _<|rC GS).1
theorem GV{C a:Addr}{S:au}{F:List Addr}{cs:List<|Str×Str}{dl:List D}{rs:jx}{m:Nat}{rows:List Row}(h:Snap rs cs m rows)(hs:cq C S a F cs dl rs){ss:List Str} (p1:ss.Perm (rs.map (·.1))) (o1:PyProof.Rows.sortedS ss=true):mq rs m ss=rows.map ah:=by
 obtain⟨kn,s2,rfl,hI,p2,o2,hw⟩:=h.ex;rw[vM p2];have e:ss.filter (λz=>!ai (wt ((lu rs z).getD []) m))=s2:=by refine GP ((pB o1).filter _) (pB o2) ?_ (p2.nodup_iff.mpr hI.nd) λz=>?_;exact yt.nodup<|p1.nodup_iff.mpr<|Ot hs;rw[yk,hw,vL,Bool.not_not,p1.mem_iff,p2.mem_iff];constructor;rintro⟨_,hz⟩;obtain⟨ws,GS⟩:=Option.isSome_iff_exists.mp hz;exact zg.mpr {_,rC GS,rfl};intro hz;obtain⟨ws,GS⟩:=mr hz;refine{?_,by rw[GS];rfl};have e:=hw z;unfold ud at e;rw[GS]at e;cases q:lu rs z with|none=>(rw[q]at e;cases e)|some s=>exact VU q
 unfold mq Rl;rw[e];refine zU λz _=>?_;unfold xl;rw[hw]
def HI(rs:jx)(cs:List<|Str×Str)(n:Nat)(hs:List<|List Row):Prop:=hs.length=n+1/\∀m rows,hs[m]?=some rows->Snap rs cs m rows
theorem HI.step{rs bT:jx}{cs:List<|Str×Str}{n:Nat}{hs:List<|List Row}(h:HI rs cs n hs)(old:∀z m,m<=n->wt ((lu bT z).getD []) m=wt ((lu rs z).getD []) m){kn:Kn}(hI:KI cs kn)(hR:RI bT (n+1) kn){ss:List Str}(p:ss.Perm (kn.map (·.1)))(o:PyProof.Rows.sortedS ss=true):HI bT cs (n+1) (hs++[iD kn ss]):=by
 refine{by rw[zt,h.1];rfl,λm rows e=>?_};by_cases hm:m<hs.length;rw[List.getElem?_append_left hm]at e;obtain⟨kn0,s0,e0,h1,h2,h3,h4⟩:=(h.2 m rows e).ex;have:=h.1;exact{kn0,s0,e0,h1,h2,h3,λz=>(old z m<|by lia).trans<|h4 z};rw[List.getElem?_append_right<|by lia]at e;have NU:m-hs.length=0:=by cases q:m-hs.length with|zero=>rfl|succ k=>rw[q]at e;simp at e
 rw[NU]at e;cases e;have:=h.1;have hmn:m=n+1:=by lia
 subst hmn;exact{kn,ss,rfl,hI,p,o,λz=>hR.wt z}
theorem Rm{l:List Std}{n m:Nat}{ws:List D}(hm:m<=n):wt (l++[Std.mk (n+1) none ws]) m=wt l m:=by unfold wt;rw[List.reverse_append];exact MT<|show m<n+1 by lia
theorem EU(k:Str)(m:Nat)(hm:m<=n):wt ((lu (uJ rs z (n+1) ws) k).getD []) m=wt ((lu rs k).getD []) m:=by unfold uJ;rw[ke];by_cases e:k=z;rw[if_pos e,e];exact Rm hm;rw[if_neg e]
theorem EV(h:RI rs n kn)(hz:(iE kn z).isSome=true)(k:Str)(m:Nat)(hm:m<=n):wt ((lu (mn rs z n) k).getD []) m=wt ((lu rs k).getD []) m:=by
 unfold mn;rw[ke];by_cases e:k=z;rw[if_pos e,e];have hc:cur ((lu rs z).getD [])≠.av:=by rw[h.eq];unfold ud;cases q:iE kn z with|none=>(rw[q]at hz;cases hz)|some ws=>exact λe=>by cases e
 show wt (i5 n<|(lu rs z).getD []) m=_;rw[<-Dq hc,GR hm];rw[if_neg e]
theorem A8(hz:z∈KS):Gt S (.str z):=ER<|by have:=(f_ z hz).2.1;lia
section
variable{t:fk}{S:au}{a:Addr}{F:List Addr}{cs:List (Str×Str)}{dl:List D}{rs:jx}{kn:Kn}{d:D}{R:KD}{Z:KX}
theorem JN(hz:z∈KS)(h:Wg cs ws):oV cs (.str z) (.tup ws)=true:=by unfold oV;rw[h.Rb,show ofStr kW (.str z)=true from(f_ z hz).1];rfl
theorem xB(hR:RI rs dl.length kn)(hz:z∈KS):ai (Bx rs (.str z) dl.length)=!(iE kn z).isSome:=by rw[hR.Bx hz,vL]
theorem VV(h:iE kn z=none):(!(iE kn z).isSome)=true:=by rw[h];rfl
theorem Ds(h:(iE kn z).isSome=true):(!(iE kn z).isSome)=false:=by rw[h];rfl
theorem tf{b:Bool}(h1:b=true)(h2:b=false){p:Prop} : p:=by rw[h1]at h2;cases h2
theorem cq.out(hS:cq C S a F cs dl rs)(hb:S b=none):b∉F:=λm=>by obtain⟨ld,lr,ra,h,rfl,_⟩:=hS;unfold fp at m;simp only[zh,zg]at m;rcases m with e|e|e|⟨r,hr,e⟩;have:=h.ins;rw[<-e,hb]at this;cases this;have:=h.AQ;rw[<-e,hb]at this;cases this;have:=h.run;rw[<-e,hb]at this;cases this;have:=h.cell r hr;rw[e,hb]at this;cases this
theorem cq.off(hS:cq C S a F cs dl rs)(hp:p∉F):cq C (S.set p c) a F cs dl rs:=by obtain⟨ld,lr,ra,hh,rfl,e2⟩:=hS;unfold fp at hp;simp only[zh,not_or]at hp;obtain⟨n1,n2,n3,n4⟩:=hp;exact{ld,lr,ra,{(ag<|Ne.symm n1).trans hh.ins,(ag<|Ne.symm n2).trans hh.AQ,(ag<|Ne.symm n3).trans hh.run,λr hr=>(ag λe=>n4<|by rw[<-e];exact zg.mpr ⟨r,hr,rfl⟩).trans<|hh.cell r hr,hh.kn,hh.an,hh.sz},rfl,e2}
structure Dos(t:fk)(ds:List D)(S:au)(R:KD)(Z:KX):Prop where
 of:Dg t ds S R Z
theorem GW(hS:cq t.ak S a F cs dl rs)(hg:Gd cs)(hI:KI cs kn)(hR:RI rs dl.length kn)(hl:dl.length<=100)(hd:GD KS cs kn d){fu:Kn}(hkn:KnD kn d fu) (q:∀S' F' bT,cq t.ak S' a F' cs (dl++[d]) bT->C8 F F' S S'->RI bT (dl.length+1) fu->(∀z m,m<=dl.length->wt ((lu bT z).getD []) m=wt ((lu rs z).getD []) m)->R .av S'):Dos t [.ref a,d] S R Z:=by
 have hrl:=hR.len hS;have VW:=hg.1;obtain⟨ld,lr,ra,h,_,_⟩:=id hS;refine{a,_,h.ins,rfl,?_};rcases hd with⟨z,ws,hz,hw,hn,rfl⟩|⟨z,ws,hz,hw,hn,rfl⟩|⟨z,hz,hn,rfl⟩;have ro:=JN hz hw;have st:=(xB hR hz).trans<|VV hn;refine .inl {_,_,rfl,a,F,cs,_,rs,_,_,rfl,hS,VW,A8 hz,hw.gts VW,by lia,by lia,λe=>tf ro e,λ_ e=>tf st e,λz' Xi e1 e2 _ _ S' F' q_ hK=>?_};cases e1;cases e2;have VX:fu=qI kn z ws:=by rcases hkn with⟨n,y,vs,_,e1,e2⟩|⟨y,_,e1,_⟩<;>cases e1;exact e2
 subst VX;exact q S' F' _ q_ hK (hR.put hz) EU;have ro:=JN hz hw;have st:=(xB hR hz).trans<|Ds hn;refine .inr<|.inl {_,_,rfl,a,F,cs,_,rs,_,_,rfl,hS,VW,A8 hz,hw.gts VW,by lia,by lia,λe=>tf ro e,λ_ e=>tf e st,λz' Xi e1 e2 _ _ S' F' q_ hK=>?_};cases e1;cases e2;have VX:fu=qI kn z ws:=by rcases hkn with⟨n,y,vs,_,e1,e2⟩|⟨y,_,e1,_⟩<;>cases e1;exact e2
 subst VX;exact q S' F' _ q_ hK (hR.change hz) λk m hm=>(EU k m hm).trans<|EV hR hn k m hm;have st:=(xB hR hz).trans<|Ds hn;refine .inr<|.inr !{a,F,cs,_,rs,_,rfl,hS,A8 hz,by lia,λe=>tf (f_ z hz).1 e,λ_ e=>tf e st,λz' e1 _ _ S' q_ hK=>?_};cases e1;have VX:fu=oZ kn z:=by rcases hkn with⟨n,y,vs,_,e1,e2⟩|⟨y,_,e1,e2⟩<;>cases e1;exact e2
 subst VX;exact q S' F _ q_ hK (hR.del hz)<|EV hR hn
theorem Snap.vw(h:Snap rs cs m rows)(hS:cq t.ak S a F cs dl rs)(hR:RI rs dl.length kn)(hm:uI dl.length md=some (m:Int))(W4:Gt S md):Vw t.ak S a cs md rows:=by have:=h.rg;refine{{F,dl,rs,hS,by have:=hR.len hS;lia,(λe=>by rw[hm]at e;cases e),λi ss hi hp hs=>?_},W4,by lia,this.1};rw[hm]at hi;cases hi;exact GV h hS hp hs
end
def Xl(S:au)(F:List Addr)(S':au):Prop:=∀b c,S b=some c->b∉F/\S' b=some c
theorem Xl.sub(h:Xl S F S'):Sub S S':=λb c e=>(h b c e).2
theorem KI.nil(cs:List<|Str×Str):KI cs []:={List.nodup_nil,λ_ h=>(nomatch h)}
theorem kl(ns:List Int)(lo hi:Option Int):bK (ns.map D.int) lo hi=(bK ns lo hi).map D.int:=by unfold bK;rw[za,List.map_take,List.map_drop]
structure St(t:fk)(S0:au)(a:Addr)(fs:List (Addr×Ce))(F:List Addr)(cs:List (Str×Str))(dl:List D)(rs:jx)(S:au):Prop where
 sh:cq t.ak S a F cs dl rs
 fa:∀x∈fs,S x.1=some x.2/\x.1∉F/\S0 x.1=none
 nd:(fs.map Prod.fst).Nodup
 Du:Xl S0 F S
section
variable{t:fk}{S0:au}{a:Addr}{fs:List (Addr×Ce)}{F:List Addr}{cs:List (Str×Str)}{dl:List D}{rs:jx}{S:au}
theorem St.at(h:St t S0 a fs F cs dl rs S)(i:Nat)(e:fs[i]?=some (b,c)):S b=some c:=(h.fa _<|zy e).1
theorem St.sub(h:St t S0 a fs F cs dl rs S)(b:Sub S S'):St t S0 a fs F cs dl rs S':={h.sh.sub b,λx hx=>{b _ _ (h.fa x hx).1,(h.fa x hx).2},h.nd,λx c hx=>{(h.Du x c hx).1,b _ _ (h.Du x c hx).2}}
theorem St.zero(h:St t S0 a fs F cs dl rs S)(hb:S b=none):S0 b=none:=by cases e:S0 b with|none=>rfl|some c=>have:=h.Du.sub _ _ e;rw[hb]at this;cases this
theorem St.new(h:St t S0 a fs F cs dl rs S)(hp:S p=none)(c:Ce):St t S0 a (fs++[(p,c)]) F cs dl rs (S.set p c):=by
 have h1:=h.sub<|.new (c:=c) hp;refine{h1.sh,λx hx=>?_,?_,h1.Du};rcases zP.mp hx with hx|hx;exact h1.fa x hx;rw[zE.mp hx];exact{aa,h.sh.out hp,h.zero hp};rw[zG,List.nodup_append];refine{h.nd,by simp,λx hx y hy e=>?_};obtain⟨z,hz,rfl⟩:=zg.mp hx;have hy:y=p:=by simpa using hy
 have:=(h.fa z hz).1;rw[e,hy,hp]at this;cases this
theorem St.put(h:St t S0 a fs F cs dl rs S)(i:Nat)(e:fs[i]?=some (b,c))(c':Ce):St t S0 a (fs.set i (b,c')) F cs dl rs (S.set b c'):=by
 have hb:=h.fa _<|zy e;have hi:=(ze.mp e).1;have em:(fs.set i (b,c')).map Prod.fst=fs.map Prod.fst:=by refine List.ext_getElem? λj=>?_;rw[zk,zk];by_cases q:j=i;subst q;rw[List.getElem?_set_self hi,e];rfl;rw[List.getElem?_set_ne<|Ne.symm q]
 refine{h.sh.off hb.2.1,λx hx=>?_,by rw[em];exact h.nd,λx c hx=>{(h.Du x c hx).1,(ag<|ib hx hb.2.2).trans (h.Du x c hx).2}};obtain⟨j,hj⟩:=yp hx;by_cases q:j=i;subst q;rw[List.getElem?_set_self hi]at hj;cases hj;exact⟨aa,hb.2⟩;rw[List.getElem?_set_ne<|Ne.symm q]at hj;have LV:=h.fa x<|zy hj;refine{(ag λe2=>q ?_).trans LV.1,LV.2};have a1:(fs.map Prod.fst)[j]?=some x.1:=by rw[zk,hj];rfl
 have a2:(fs.map Prod.fst)[i]?=some b:=by rw[zk,e];rfl
 obtain⟨b1,c1⟩:=ze.mp a1;obtain⟨b2,c2⟩:=ze.mp a2;exact(List.getElem_inj h.nd (h₀:=b1) (h₁:=b2)).mp<|by rw[c1,c2];exact e2
theorem St.perm(h:St t S0 a fs F cs dl rs S)(p:RJ.Perm fs):St t S0 a RJ F cs dl rs S:={h.sh,λx hx=>h.fa x<|p.mem_iff.mp hx,(p.map _).nodup_iff.mpr h.nd,h.Du}
theorem St.less(h:St t S0 a fs F cs dl rs S)(n:(RJ.map Prod.fst).Nodup)(p:∀x∈RJ,x∈fs):St t S0 a RJ F cs dl rs S:={h.sh,λx hx=>h.fa x<|p x hx,n,h.Du}
theorem St.VY(h:St t S0 a fs F cs dl rs S)(hS:cq t.ak S' a F' cs pE bT)(hK:C8 F F' S S'):St t S0 a fs F' cs pE bT S':={hS,λx hx=>by obtain⟨h1,h2,h3⟩:=h.fa x hx;exact by obtain⟨k1,k2⟩:=hK _ _ h2 h1;exact⟨k2,k1,h3⟩,h.nd,λx c hx=>by obtain⟨h1,h2⟩:=h.Du x c hx;exact hK _ _ h1 h2}
end
abbrev VZ:=List<|Addr×List Row
noncomputable def V0(x:Addr×List Row):Addr×Ce:=(x.1,.lst<|x.2.map ah)
theorem Rn(hk:r.1∈KS)(hw:Wg cs r.2):Ly S 60 (ah r):=by refine(Ly.tup (n:=1) λx hx=>?_).le (by decide);simp only[zh,zM,or_false]at hx;rcases hx with rfl|rfl;exact(Ly.str (f_ _ hk).2.2).le (by decide);exact hw.ly
theorem Vw.sub(h:Vw C S a cs m rows)(b:Sub S S'):Vw C S' a cs m rows:=by obtain⟨F,dl,rs,h1,h2⟩:=h.sh;exact{{F,dl,rs,h1.sub b,h2},h.mo.sub b,h.len,h.rg}
theorem EW(q:R (.bl<|if neg then !(x==y) else (x==y)) S):Eh neg (.bl x) (.bl y) S R:=⟨.bool x,.bool y,by simp only[Dl,Dp],by simp only[Dl,Dp],by simp only[PyData.canLay0],by simp only[PyData.canLay0],.inl<|by simp only[PyData.depth];lia,by
 have e:PyData.eqv (.bool x) (.bool y)=(x==y):=by cases x<;>cases y<;>rfl
 rw[e];exact q⟩
theorem Ou(q:R (.bl<|if neg then !decide (i=j) else decide (i=j)) S):Eh neg (.str i) (.str j) S R:=q
noncomputable def cV(w e:Str)(x y:D):Int:=if ph x y=true then 0 else if dm ("",w,e) x y=true then -1 else 1
def Cm(x y:D):Prop:=∃k,Vg k x/\Vg k y
theorem nU{w e:Str}(h:Cm x y):cV w e x y=0↔x=y:=by obtain⟨k,hx,hy⟩:=h;unfold cV;by_cases q:ph x y=true;rw[if_pos q];simpa using (cK hx.2 hy.2).mp q;rw[if_neg q];have q':¬x=y:=λz=>q<|(cK hx.2 hy.2).mpr z;constructor;intro z;split at z<;>cases z;exact λz=>absurd z q'
theorem vN{w e:Str}(h:Cm x y):cV w e x y<0↔x≠y/\dm ("",w,e) x y=true:=by obtain⟨k,hx,hy⟩:=h;unfold cV;by_cases q:ph x y=true;rw[if_pos q];have:=(cK hx.2 hy.2).mp q;simp[this];rw[if_neg q];have q':¬x=y:=λz=>q<|(cK hx.2 hy.2).mpr z;by_cases l:dm ("",w,e) x y=true;rw[if_pos l];simp[q',l];rw[if_neg l];simp[l]
theorem MU{w e:Str}(h:Cm x y):cV w e y x<0↔0<cV w e x y:=by
 have h':Cm y x:=by obtain⟨k,a,b⟩:=h;exact⟨k,b,a⟩
 rw[vN h'];obtain⟨k,hx,hy⟩:=h;unfold cV;by_cases q:ph x y=true;rw[if_pos q];have:=(cK hx.2 hy.2).mp q;simp[this];rw[if_neg q];have q':¬x=y:=λz=>q<|(cK hx.2 hy.2).mpr z;have:=pj (p:=("",w,e)) hx hy q';rw[this];cases dm ("",w,e) x y<;>simp[Ne.symm q']
inductive cX (ds:List D) (S:au) (R:KD) (Z:KX):Prop where
 |mk (x y wy e) (h0:ds=[x,y,.str e]) (h1:Cm x y) (h2:(x=.av\/y=.av)) (h3:R (.int<|cV wy e x y) S)
theorem jw(T:Txt w K mg t):Ok P w base T.dJ 1 cX:=by
 refine T.dJ.F.bG eB ?_;rintro _ _ _ _ _ _ _ S R Z hr ⟨x,y,wy,e,e0,⟨k,hx,hy⟩,hn,q⟩;subst e0;refine{_,(sc (si (twd<|twand (bq jr hr.u (dv 0) dn)<|tw1<|bq jr hr.u (dv 1) dn) (s1<|sr di) s0)<|sc (bO (i:=3) eB.nd<|cm bA hr.u (dv 2) ds)<|s1<|sr<|LP (bq bA hr.u (dv 3)<|cm jr hr.u (dv 0) dn) (Ag di) di),?_};unfold cV at q;refine !!⟨bX (λh=>!!⟨bX (λh2=>?_) λh2=>?_⟩) λh=>?_⟩;rw[d_ h,d_ h2]at q;exact fo q;have e1:ai x≠ai y:=by rw[show ai x=true from h,show ai y=false from h2];decide
 rw[xx e1,if_neg zd]at q;unfold dm at q;rw[show ai x=true from h,show ai y=false from h2]at q;refine !!!⟨?_⟩;dsimp only[dC,Y4];refine EW !⟨?_⟩;have q:R (.int<|if (ai x==decide (e ="first"))=true then -1 else 1) S:=by rw[show ai x=true from h];exact q
 rw[Bool.beq_comm]at q;refine bX (λz=>?_) λz=>?_;rw[if_pos<|show(decide (e ="first")==ai x)=true from z]at q;exact{_,rfl,fo q};rw[if_neg λz2=>tf z2<|show(decide (e ="first")==ai x)=false from z]at q;exact fo q;have hy1:ai y=true:=by rcases hn with rfl|rfl;cases h;rfl
 have e1:ai x≠ai y:=by rw[show ai x=false from h,hy1];decide
 rw[xx e1,if_neg zd]at q;unfold dm at q;rw[show ai x=false from h,hy1]at q;refine !!!⟨?_⟩;dsimp only[dC,Y4];refine EW !⟨?_⟩;have q:R (.int<|if (ai x==decide (e ="first"))=true then -1 else 1) S:=by rw[show ai x=false from h];exact q
 rw[Bool.beq_comm]at q;refine bX (λz=>?_) λz=>?_;rw[if_pos<|show(decide (e ="first")==ai x)=true from z]at q;exact{_,rfl,fo q};rw[if_neg λz2=>tf z2<|show(decide (e ="first")==ai x)=false from z]at q;exact fo q
inductive tQ (ds:List D) (S:au) (R:KD) (Z:KX):Prop where
 |mk (x y wy e) (h0:ds=[x,y,.str wy,.str e]) (h1:Cm x y) (h2:R (.int<|cV wy e x y) S)
theorem qp(T:Txt w K mg t):Ok P w base T.compared 2 tQ:=by refine T.compared.F.bG pY ?_;rintro _ _ _ _ _ _ _ S R Z hr ⟨x,y,wy,e,e0,hc,q⟩;subst e0;obtain⟨k,hx,hy⟩:=id hc;refine{_,(sc (si (twd<|twor (bq jr hr.u (dv 0) dn)<|tw1<|bq jr hr.u (dv 1) dn) (s1<|sr<|aT T.dJ (jw T) hr<|al 0<|al 1<|al 3 an) s0)<|sc (si (bq bA hr.u (dv 0)<|dv 1) (s1<|sr di) s0)<|sc (bO (i:=4) pY.nd<|cm wg hr.u (dv 0)<|dv 1)<|s1<|sr<|LP (bq bA hr.u (dv 4)<|cm bA hr.u (dv 2) ds) (Ag di) di),?_};have none:∀Zq:KX,x=.av\/y=.av->cX [x,y,.str e] S (λd S'=>Fo S'<|R d) Zq:=λ_ hn=>{x,y,wy,e,rfl,hc,hn,fo q};refine !!⟨bX (λh=>?_) λh=>!!⟨bX (λh2=>?_) λh2=>?_⟩⟩;exact !!!⟨none _<|.inl<|d_ h⟩;exact !!!⟨none _<|.inr<|d_ h2⟩;clear none;have nx:ai x=false:=h;have ny:ai y=false:=h2;unfold cV at q;refine !!⟨A2 hx.2 hy.2 !⟨bX (λh3=>?_) λh3=>?_⟩⟩;have h3:ph x y=true:=h3;rw[if_pos h3]at q;exact fo q;have h3:ph x y=false:=h3;rw[h3,if_neg zd]at q;unfold dm at q;rw[nx,ny]at q;have q:R (.int<|if (uK x y==decide (wy ="up"))=true then -1 else 1) S:=q;rcases xt hx hy (bz nx) (bz ny) with⟨i,j,rfl,rfl⟩|⟨i,j,rfl,rfl⟩;refine !!!!⟨?_⟩;dsimp only[dC];refine Ou ?_;refine EW ?_;refine{_,rfl,?_};refine bX (λz=>?_) λz=>?_;rw[if_pos<|show(uK (.int i) (.int j)==decide (wy ="up"))=true from z]at q;exact{_,rfl,fo q};rw[if_neg λz2=>tf z2<|show(uK (.int i) (.int j)==decide (wy ="up"))=false from z]at q;exact fo q;refine !!!!⟨?_⟩;dsimp only[dC];refine Ou ?_;refine EW ?_;refine{_,rfl,?_};refine bX (λz=>?_) λz=>?_;rw[if_pos<|show(uK (.str i) (.str j)==decide (wy ="up"))=true from z]at q;exact{_,rfl,fo q};rw[if_neg λz2=>tf z2<|show(uK (.str i) (.str j)==decide (wy ="up"))=false from z]at q;exact fo q
noncomputable def rE(ps:List Part)(wy:Str):List (Str×Str):=ps.map Prod.snd++[(wy,("last": Str))]
noncomputable def cA:List (Str×Str)->List D->List D->Int|w::ws,x::xs,y::ys=>(if cV w.1 w.2 x y=0 then cA ws xs ys else cV w.1 w.2 x y)|_,_,_=>0
def PV(ks:List Str)(xs:List D):Prop:=Paired (λk x=>Vg k x) ks xs
theorem tR:∀{ws:List (Str×Str)}{ks:List Str}{xs ys:List D},ws.length=ks.length->PV ks xs->PV ks ys->(cA ws xs ys=0↔xs=ys)|[],_,_,_,h,.nil,.nil=>by simp[cA]|w::ws,_,_,_,h,.cons (b:=x) a1 a2,.cons (b:=y) b1 b2=>by unfold cA;have c:=nU (w:=w.1) (e:=w.2) {_,a1,b1};by_cases q:cV w.1 w.2 x y=0;rw[if_pos q,tR (Nat.succ.inj h) a2 b2,c.mp q];simp;rw[if_neg q];exact{λz=>absurd z q,λz=>absurd (c.mpr (List.cons.inj z).1) q}
theorem A9:∀{ws:List (Str×Str)}{ks:List Str}{xs ys:List D},PV ks xs->PV ks ys->(cA ws ys xs<0↔0<cA ws xs ys)|[],_,_,_,_,_=>by simp[cA]|w::ws,_,_,_,.nil,.nil=>by simp[cA]|w::ws,_,_,_,.cons (b:=x) a1 a2,.cons (b:=y) b1 b2=>by unfold cA;have c:=nU (w:=w.1) (e:=w.2) {_,a1,b1};have c':=nU (w:=w.1) (e:=w.2) {_,b1,a1};by_cases q:x=y;rw[if_pos<|c.mpr q,if_pos<|c'.mpr q.symm];exact A9 a2 b2;rw[if_neg λz=>q<|c.mp z,if_neg λz=>q (c'.mp z).symm];exact MU {_,a1,b1}
theorem JO:∀{ws:List (Str×Str)}{ks:List Str}{xs ys zs:List D},PV ks xs->PV ks ys->PV ks zs->cA ws xs ys<0->cA ws ys zs<0->cA ws xs zs<0|[],_,_,_,_,_,_,_,h,_=>by simp[cA]at h|w::ws,_,_,_,_,.nil,.nil,.nil,h,_=>by simp[cA]at h|w::ws,_,_,_,_,.cons (b:=x) a1 a2,.cons (b:=y) b1 b2,.cons (b:=z) c1 c2,h1,h2=>by unfold cA at h1 h2⊢;have e1:=nU (w:=w.1) (e:=w.2) {_,a1,b1};have e2:=nU (w:=w.1) (e:=w.2) {_,b1,c1};have e3:=nU (w:=w.1) (e:=w.2) {_,a1,c1};by_cases q1:x=y;subst q1;rw[if_pos<|e1.mpr rfl]at h1;by_cases q2:x=z;subst q2;rw[if_pos<|e2.mpr rfl]at h2⊢;exact JO a2 b2 c2 h1 h2;rw[if_neg λz=>q2<|e2.mp z]at h2⊢;exact h2;rw[if_neg λz=>q1<|e1.mp z]at h1;by_cases q2:y=z;subst q2;rw[if_neg λz=>q1<|e3.mp z];exact h1;rw[if_neg λz=>q2<|e2.mp z]at h2;obtain⟨q3,l3⟩:=MJ (p:=("",w.1,w.2)) a1 b1 c1 q1 q2 ((vN {_,a1,b1}).mp h1).2 ((vN {_,b1,c1}).mp h2).2;rw[if_neg λz=>q3<|e3.mp z];exact(vN {_,a1,c1}).mpr ⟨q3,l3⟩
noncomputable def GX(cs:List<|Str×Str)(z:Str):Str:=((cs[Ky cs z]?).map Prod.snd).getD "word"
noncomputable def Xm(cs:List<|Str×Str)(ps:List Part):List Str:=ps.map (λp=>GX cs p.1)++[("word": Str)]
noncomputable def qq(cs:List<|Str×Str)(ps:List Part)(r:Row):List D:=ps.map (λp=>ao cs r.2 p.1)++[.str r.1]
theorem qr:∀z∈KS,Vg "word" (.str z):=by
 have h:∀z∈KS,(p8 z&&eN (.str z))=true:=by trivial
 exact λz hz=>let q:=Bool.and_eq_true_iff.mp<|h z hz;⟨q.1,q.2⟩
theorem mx:∀{l:List α}{m:List β}{l':List α}{m':List β},Paired r l m->Paired r l' m'->Paired r (l++l') (m++m')|_,_,_,_,.nil,h=>h|_,_,_,_,.cons a t,h=>.cons a<|mx t h
theorem Dw(hg:Gd cs)(hp:Pin cs ps)(hw:Wg cs ws):Paired (λk x=>Vg k x) (ps.map λp=>GX cs p.1) (ps.map λp=>ao cs ws p.1):=by induction ps with|nil=>exact .nil|cons p ps ih=>refine .cons ?_<|ih hp.tail;obtain⟨c,hc,e⟩:=hp p zo;show Vg (GX cs p.1) (ao cs ws p.1);unfold GX;rw[<-e,(o_ hg hc).1];exact(nN hg hw hc).2
theorem pF(hg:Gd cs)(hp:Pin cs ps)(hw:Wg cs r.2)(hk:r.1∈KS):PV (Xm cs ps) (qq cs ps r):=mx (Dw hg hp hw)<|.cons (qr _ hk) .nil
theorem EX(hg:Gd cs){wy:Str}(ha:Wg cs a.2)(hb:Wg cs b.2)(ka:a.1∈KS)(kb:b.1∈KS)(n:a.1≠b.1):∀{ps:List Part},Pin cs ps->(du cs wy ps a b=true↔cA (rE ps wy) (qq cs ps a) (qq cs ps b)<0)|[],_=>(by show(u3 a.1 b.1==decide (wy ="up"))=true↔(if cV wy "last" (.str a.1) (.str b.1)=0 then 0 else cV wy "last" (.str a.1) (.str b.1))<0;have n':(.str a.1:D)≠.str b.1:=λe=>n<|D.str.inj e;rw[if_neg λz=>n'<|(nU {_,qr _ ka,qr _ kb}).mp z,vN {_,qr _ ka,qr _ kb}];exact{λh=>⟨n',h⟩,λh=>h.2})|p::ps,hp=>by obtain⟨k,hk⟩:=xw hg hp;have va:=hk _ ha;have vb:=hk _ hb;show(if ph (ao cs a.2 p.1) (ao cs b.2 p.1)=true then du cs wy ps a b else dm p (ao cs a.2 p.1) (ao cs b.2 p.1))=true↔(if cV p.2.1 p.2.2 (ao cs a.2 p.1) (ao cs b.2 p.1)=0 then cA (rE ps wy) (qq cs ps a) (qq cs ps b) else cV p.2.1 p.2.2 (ao cs a.2 p.1) (ao cs b.2 p.1))<0;by_cases q:ao cs a.2 p.1=ao cs b.2 p.1;rw[if_pos<|(cK va.2 vb.2).mpr q,if_pos<|(nU {_,va,vb}).mpr q];exact EX hg ha hb ka kb n hp.tail;rw[if_neg λz=>q<|(cK va.2 vb.2).mp z,if_neg λz=>q<|(nU {_,va,vb}).mp z,vN {_,va,vb}];exact{λh=>⟨q,h⟩,λh=>h.2}
noncomputable def V1(ws:List<|Str×Str)(g:List D)(sd:Str)(x:List D):Bool:=decide (cA ws x g<0)||(decide (cA ws x g=0)&&decide (sd ="behind"))
theorem V2{ws:List<|Str×Str}{ks:List Str}{g x y:List D}{sd:Str}(hl:ws.length=ks.length)(hx:PV ks x)(hy:PV ks y)(hg:PV ks g)(h:cA ws x y<0)(q:V1 ws g sd y=true):V1 ws g sd x=true:=by unfold V1 at q⊢;simp only[Bool.or_eq_true,zO,zY]at q⊢;rcases q with q|⟨q,_⟩;exact .inl<|JO hx hy hg h q;rw[<-(tR hl hy hg).mp q];exact .inl h
theorem Dx:∀{l:List α},(l.Pairwise λa b=>g b=true->g a=true)->∀{i:Nat}{a:α},l[i]?=some a->(g a=true↔i<l.countP g)
 |[],_,i,a,h=>by simp at h
 |x::l,hp,i,a,h=>by
  obtain⟨h1,h2⟩:=List.pairwise_cons.mp hp;rw[List.countP_cons];by_cases q:g x=true;rw[if_pos q];cases i with|zero=>(cases h;simp[q])|succ i=>rw[Dx h2<|show l[i]?=some a from h];lia
  have z:l.countP g=0:=List.countP_eq_zero.mpr λb hb e=>q<|h1 b hb e;rw[if_neg q,z];have:g a≠true:=by cases i with|zero=>(cases h;exact q)|succ i=>exact λe=>q<|h1 a (zy h) e
  simp[this]
theorem Dy{α:Type}{g:α->Bool}{l:List α}(hp:l.Pairwise λa b=>g b=true->g a=true){n:Nat}(hn:n<=l.length)(h1:∀i a,i<n->l[i]?=some a->g a=true)(h2:∀i a,n<=i->l[i]?=some a->g a=false):n=l.countP g:=by
 have hc:l.countP g<=l.length:=List.countP_le_length;rcases Nat.lt_trichotomy n (l.countP g) with h|h|h;have hi:n<l.length:=by lia
 have e:=zf hi;have:=(Dx hp e).mpr h;rw[h2 n _ (zr _) e]at this;cases this;exact h;have hi:l.countP g<l.length:=by lia
 have e:=zf hi;have:=(Dx hp e).mp<|h1 _ _ h e;lia
noncomputable def JP(xs:List D)(k:Str):D:=.tup [.tup xs,.str k]
abbrev vO:=List D×Str×Str
noncomputable def pG(g:vO):D:=.tup [JP g.1 g.2.1,.str g.2.2]
noncomputable def Hf:Option vO->D|none=>.av|some g=>pG g
noncomputable def A_(z:Str):Bool:=decide (z ="ahead")||decide (z ="behind")
structure Gp(cs:List (Str×Str))(ps:List Part)(g:vO):Prop where
 pv:Paired (λk x=>Vg k x) (ps.map λp=>GX cs p.1) g.1
 key:g.2.1∈KS
 side:A_ g.2.2=true
def Bg(cs:List<|Str×Str)(ps:List Part)(b:Option vO):Prop:=∀g,b=some g->Gp cs ps g
noncomputable def V3(g:vO):List D:=g.1++[.str g.2.1]
theorem Gp.vs(h:Gp cs ps g):PV (Xm cs ps) (V3 g):=mx h.pv<|.cons (qr _ h.key) .nil
theorem Gp.len(h:Gp cs ps g):g.1.length=ps.length:=by have:=yH h.pv;rw[za]at this;exact this.symm
theorem Og.len(h:Og cs ps wy):ps.length<=8:=by have:=h.ok;unfold Dh at this;simp only[zO,zY]at this;exact this.1
theorem Dz(hg:Gd cs)(hc:c∈cs):c.1.cps.size<=1000:=by have h:=(hg.2.2 c hc).1;unfold lC at h;simp only[zO,zY]at h;lia
inductive vP (ds:List D) (S:au) (R:KD) (Z:KX):Prop where
 |mk (z) (h0:ds=[.str z]) (h1:R (.bl<|A_ z) S)
theorem DB(T:Txt w K mg t):Ok P w base T.wN 1 vP:=by refine T.wN.F.bG CU ?_;obtain⟨z,e,q⟩;refine{_,(s1<|sr<|sx (cb dk T.ax aq<|al 0<|ac (t_ T.pW jF) an)<|Ia<|Zx T.wI (dv 0)<|dg (v:=.ref t.iL) T.ux rfl λ_=>iH _),?_};refine !{_,_,_,_,rfl,cZ,rfl,_,rfl,dG !{z,rfl,rfl,?_}};rw[Js];exact fo q
inductive gq (ds:List D) (S:au) (R:KD) (Z:KX):Prop where
 |mk (cs ps xs) (h0:ds=[.tup<|cs.map aA,.tup<|ps.map p3,.tup xs]) (h1:Gd cs) (h2:Pin cs ps) (h3:ps.length<=8) (h4:Paired (λk x=>Vg k x) (ps.map λp=>GX cs p.1) xs) (h5:R (.bl true) S)
theorem kZ(T:Txt w K mg t):Ok P w base T.eI 4 gq:=by
 refine T.eI.F.bG kT ?_;obtain⟨cs,ps,xs,e,hg,hp,h8,hv,q⟩;have hl:xs.length=ps.length:=by have:=yH hv;rw[za]at this;exact this.symm
 have Sj:(ps.map p3).length=ps.length:=za _;refine{_,(sc (si (twd<|twor (cM<|tv<|cb dk T.ax aq<|al 2<|ac (t_ T.bw aW) an)<|tw1<|bq js hr.u (cb aQ T.aM aE<|al 2 an)<|cb aQ T.aM aE<|al 1 an) (s1<|sr db) s0)<|s1<|sr<|cb k_ T.lj gR<|ac (vd (N:=["part","value","columns"]) (src:=[none,none,some 0]) (kD (ae lY) ["columns","parts","thing"] rfl rfl<|by trivial) (izn T.I_<|al 1<|al 2 an) (W0<|show(["part","value","columns"]:List Str).Nodup by trivial) (qX rfl rfl) rf (λ_ _ _ _ _=>sC) λ_ _ _ _ _=>(aT T.jU (j8 T) hr<|ac (aT T.eG (gZ T) hr<|al 2<|ac (ix hr.u (dv 0) di) an)<|al 1 an)) an),?_};refine !{_,_,_,_,rfl,aX,rfl,_,rfl,a_ !!!!!⟨bL (by rw[hl,Sj];simp) ?_⟩};refine !!{_,_,rfl,by rw[hl,Sj],?_};refine comp_map (λ_=>.bl true) trivial (by show(cH _ _).length<=_;unfold cH;rw[List.length_zipWith];lia) (λd hd Q hQ=>?_) λp kX=>?_;have hd:d∈cH (ps.map p3) xs:=hd;unfold cH at hd;obtain⟨i,ei⟩:=yp hd;obtain⟨x,y,e2,e3,e4⟩:=List.getElem?_zipWith_eq_some.mp ei;subst e4;rw[zk]at e2;cases e5:ps[i]? with|none=>(rw[e5]at e2;cases e2)|some pt=>rw[e5]at e2;cases e2;obtain⟨c,hc,ec⟩:=hp pt<|zy e5;obtain⟨k,ek,hk⟩:=cW hv e3;rw[zk,e5]at ek;cases ek;have hk:Vg (GX cs pt.1) y:=hk;unfold GX at hk;rw[<-ec,(o_ hg hc).1]at hk;have hk:Vg c.2 y:=hk;refine !{rfl,_,_,rfl,_,_,rfl,rfl,_,rfl,_,rfl,_,rfl,cs,pt.1,rfl,hg,by rw[<-ec];exact Dz hg hc,λk' HL=>?_,λhn=>absurd (zg.mpr ⟨c,hc,ec⟩) hn};have e6:k'=c.2:=(by have:=gI (f:=Prod.fst) hg.2.1 HL hc ec.symm;rw[<-this]);rw[e6];refine !{c.2,y,rfl,Oi hk,?_};rw[hk.1];exact hQ
 have e2:(cH (ps.map p3) xs).map (λ_=>D.bl true)=((cH (ps.map p3) xs).map λ_=>true).map D.bl:=by rw[zx];rfl
 have e3:((cH (ps.map p3) xs).map λ_=>true).all id=true:=by rw[all_map];exact zZ.mpr λ_ _=>rfl
 refine{.ref p,(cH (ps.map p3) xs).map λ_=>true,rfl,?_,?_};show(S.set p<|.lst<|(cH (ps.map p3) xs).map _) p=_;rw[aa,e2];rw[e3];exact{S,.new kX,q}
inductive lI (ds:List D) (S:au) (R:KD) (Z:KX):Prop where
 |mk (cs ps wy xs k) (h0:ds=[.tup<|cs.map aA,dw ps wy,JP xs k]) (h1:Gd cs) (h2:Pin cs ps) (h3:ps.length<=8) (h4:Paired (λk x=>Vg k x) (ps.map λp=>GX cs p.1) xs) (h5:k∈KS) (h6:R .av S)
theorem tT(T:Txt w K mg t):Ok P w base T.jV 5 lI:=by refine T.jV.F.bG sY ?_;obtain⟨cs,ps,wy,xs,k,e,hg,hp,h8,hv,hk,q⟩;refine{_,(sc (si (twd<|twor (cM<|tv<|cb dk T.ax aq<|al 2<|ac (t_ T.bw aW) an)<|tw1<|bq js hr.u (cb aQ T.aM aE<|al 2 an) di) (s1<|sA ⟨T.dI⟩ T.eT<|ac ds an) s0)<|sc (si (cM<|tv<|aT T.eI (kZ T) hr<|al 0<|ac (ix hr.u (dv 1) di)<|ac (ix hr.u (dv 2) di) an) (s1<|sA ⟨T.dI⟩ T.eT<|ac ds an) s0)<|s1<|si (cM<|tv<|aT T.l_ (iw T) hr<|ac (ix hr.u (dv 2) di) an) (s1<|sA ⟨T.dI⟩ T.eT<|ac ds an) s0),?_};refine !{_,_,_,_,rfl,aX,rfl,_,rfl,a_ !!!⟨a_ ?_⟩};refine !!!!!{cs,ps,xs,rfl,hg,hp,h8,hv,_,rfl,a_ ?_};refine !!{.str k,rfl,A8 hk,_,rfl,?_};rw[show ofStr kW (.str k)=true from(f_ k hk).1];exact a_<|fo q
inductive qt (ds:List D) (S:au) (R:KD) (Z:KX):Prop where
 |mk (cs ps wy g) (h0:ds=[.tup<|cs.map aA,dw ps wy,pG g]) (h1:Gd cs) (h2:Pin cs ps) (h3:ps.length<=8) (h4:Gp cs ps g) (h5:R .av S)
theorem xC(T:Txt w K mg t):Ok P w base T.oN 6 qt:=by refine T.oN.F.bG w4 ?_;obtain⟨cs,ps,wy,g,e,hg,hp,h8,hv,q⟩;refine{_,(sc (si (twd<|twor (cM<|tv<|cb dk T.ax aq<|al 2<|ac (t_ T.bw aW) an)<|tw1<|bq js hr.u (cb aQ T.aM aE<|al 2 an) di) (s1<|sA ⟨T.dI⟩ T.eT<|ac ds an) s0)<|sc (se<|aT T.jV (tT T) hr<|al 0<|al 1<|ac (ix hr.u (dv 2) di) an)<|s1<|si (cM<|tv<|aT T.wN (DB T) hr<|ac (ix hr.u (dv 2) di) an) (s1<|sA ⟨T.dI⟩ T.eT<|ac ds an) s0),?_};refine !{_,_,_,_,rfl,aX,rfl,_,rfl,a_ !!!⟨a_ ?_⟩};refine !!!!{cs,ps,wy,g.1,g.2.1,rfl,hg,hp,h8,hv.pv,hv.key,?_};refine !!{g.2.2,rfl,_,rfl,?_};rw[hv.side];exact a_<|fo q
inductive lJ (ds:List D) (S:au) (R:KD) (Z:KX):Prop where
 |mk (cs ps wy b) (h0:ds=[.tup<|cs.map aA,dw ps wy,Hf b]) (h1:Gd cs) (h2:Pin cs ps) (h3:ps.length<=8) (h4:Bg cs ps b) (h5:R .av S)
theorem gs(T:Txt w K mg t):Ok P w base T.eW 7 lJ:=by refine T.eW.F.bG sZ ?_;obtain⟨cs,ps,wy,b,e,hg,hp,h8,hv,q⟩;refine{_,(s1<|si (bq oy hr.u (dv 2) dn) (s1<|se<|aT T.oN (xC T) hr<|al 0<|al 1<|al 2 an) s0),?_};cases b with|none=>exact (!!⟨a_<|fo q⟩)|some g=>exact !!⟨dG !!!{cs,ps,wy,g,rfl,hg,hp,h8,hv g rfl,fo q}⟩
inductive nV (ds:List D) (S:au) (R:KD) (Z:KX):Prop where
 |mk (n:Int) (h0:ds=[.int n]) (h1:1<=n) (h2:n<=1000) (h3:R .av S)
theorem lK(T:Txt w K mg t):Ok P w base T.iV 2 nV:=by refine T.iV.F.bG uC ?_;obtain⟨n,e,h1,h2,q⟩;refine{_,(s1<|si (twd<|twor (cM<|tv<|aT T.jT (j7 T) hr<|al 0 an)<|tw1<|cM<|WO jH jH hr.u di (dv 0)<|dg (v:=.int 1000) T.wF {_,rfl} λ_=>aS _) (s1<|sA ⟨T.oJ⟩ T.CJ<|ac ds an) s0),?_};refine !{.int n,rfl,gt_int,_,rfl,a_ !!⟨qg (zu h1) !⟨?_⟩⟩};exact bL (by show(!decide (n<=1000))=false;rw[zu h2];rfl)<|fo q
inductive nW (ds:List D) (S:au) (R:KD) (Z:KX):Prop where
 |mk (cs ps wy d n b) (h0:ds=[.tup<|cs.map aA,dw ps wy,d,.int n,Hf b]) (h1:Gd cs) (h2:Og cs ps wy) (h3:Sq cs d) (h4:1<=n) (h5:n<=1000) (h6:Bg cs ps b) (h7:R .av S)
theorem lL(T:Txt w K mg t):Ok P w base T.iU 8 nW:=by refine T.iU.F.bG uB ?_;obtain⟨cs,ps,wy,d,n,b,e,hg,ho,hd,h1,h2,hv,q⟩;refine{_,(sc (se<|aT T.eU (gk T) hr<|al 0<|al 1 an)<|sc (se<|aT T.eV (gm T) hr<|al 0<|al 2 an)<|sc (se<|aT T.iV (lK T) hr<|al 3 an)<|s1<|se<|aT T.eW (gs T) hr<|al 0<|al 1<|al 4 an),?_};refine !!{cs,ps,wy,rfl,hg,ho.tx,λ_=>?_,λz=>tf ho.ok z};refine !!{cs,d,rfl,hg,hd,_,rfl,n,rfl,h1,h2,?_};exact !!!{cs,ps,wy,b,rfl,hg,ho.pin,ho.len,hv,fo q}
structure An(cs:List (Str×Str))(ps:List Part)(wy:Str)(A:List Row):Prop where
 rg:Rg cs A
 ky:∀r∈A,r.1∈KS
 pw:A.Pairwise λa b=>du cs wy ps a b=true
noncomputable def gP(cs:List<|Str×Str)(ps:List Part)(wy:Str)(g:vO)(r:Row):Bool:=V1 (rE ps wy) (V3 g) g.2.2<|qq cs ps r
theorem EY:(rE ps wy).length=(Xm cs ps).length:=by unfold rE Xm;simp
theorem An.lex(hg:Gd cs)(hp:Pin cs ps)(h:An cs ps wy A):A.Pairwise λa b=>cA (rE ps wy) (qq cs ps a) (qq cs ps b)<0:=by have nd:A.Pairwise λa b=>a.1≠b.1:=List.pairwise_map.mp h.rg.2;refine(h.pw.and nd).imp_of_mem λ{a b} ha hb q=>?_;exact(EX hg (h.rg.1 a ha) (h.rg.1 b hb) (h.ky a ha) (h.ky b hb) q.2 hp).mp q.1
theorem An.mono(hg:Gd cs)(hp:Pin cs ps)(h:An cs ps wy A)(hv:Gp cs ps g):A.Pairwise λa b=>gP cs ps wy g b=true->gP cs ps wy g a=true:=by refine(h.lex hg hp).imp_of_mem λ{a b} ha hb q=>?_;exact V2 EY (pF hg hp (h.rg.1 a ha)<|h.ky a ha) (pF hg hp (h.rg.1 b hb)<|h.ky b hb) hv.vs q
inductive tU (ds:List D) (S:au) (R:KD) (Z:KX):Prop where
 |mk (cs ps wy r) (h0:ds=[.tup<|cs.map aA,dw ps wy,ah r]) (h1:Gd cs) (h2:Pin cs ps) (h3:ps.length<=8) (h4:Wg cs r.2) (h5:R (JP (ps.map λp=>ao cs r.2 p.1) r.1) S)
theorem km(T:Txt w K mg t):Ok P w base T.jW 3 tU:=by
 refine T.jW.F.bG pZ ?_;obtain⟨cs,ps,wy,r,e,hg,hp,h8,hw,q⟩;refine{_,(sc (Kq (i:=3) (N:=["part","columns","row"]) (src:=[none,some 0,some 2]) pZ.nd (kD (ae CF) ["columns","order","row","values"] rfl rfl<|by trivial) (Km<|ix hr.u (dv 1) di) (pT<|show(["part","columns","row"]:List Str).Nodup by trivial) (aU rfl) aV (λ_ _ _ _ _=>sC) λ_ _ _ _ _=>(aT T.cD (dO T) hr<|al 1<|al 2<|ac (ix hr.u (dv 0) di) an))<|s1<|sr<|cN<|ac (ct gz T.bw aW<|al 3 an)<|ac (ix hr.u (dv 2) di) an),?_};refine !!{_,.inl rfl,?_};refine comp_map (λd=>match d with|.tup (.str z::_)=>ao cs r.2 z|_=>.av) trivial (by show(ps.map p3).length<=_;rw[za];lia) (λd hd Q hQ=>?_) λp kX=>?_;obtain⟨pt,hpt,rfl⟩:=zg.mp hd;obtain⟨c,hc,ec⟩:=hp pt hpt;refine !!!!{cs,r,c,(by rw[ec];rfl),hg,hw,hc,?_};rw[ec];exact hQ;have e3:(ps.map p3).map (λd=>match d with|.tup (.str z::_)=>ao cs r.2 z|_=>.av)=ps.map λp=>ao cs r.2 p.1:=by rw[zx];rfl
 rw[show({ps.map p3,λ_=>True}:q9).xs=ps.map p3 from rfl,e3];exact !{_,_,rfl,.inl aa,_,rfl,_,rfl,cG,S,.new kX,q}
inductive gL (ds:List D) (S:au) (R:KD) (Z:KX):Prop where
 |mk (ps:List Part) (wy:Str) (xs:List D) (k:Str) (ys:List D) (l:Str) (ks:List Str) (h0:ds=[dw ps wy,JP xs k,JP ys l]) (h1:ps.length=xs.length) (h2:ps.length=ys.length) (h3:Paired (λk x=>Vg k x) ks xs) (h4:Paired (λk x=>Vg k x) ks ys) (h5:k∈KS) (h6:l∈KS) (h7:R (.int<|cA (rE ps wy) (xs++[.str k])<|ys++[.str l]) S)
theorem my(T:Txt w K mg t):Ok P w base T.e_ 3 gL:=by refine T.e_.F.bG bE ?_;obtain⟨ps,wy,xs,k,ys,l,ks,e,h1,h2,vx,vy,hk,hl,q⟩;refine{_,(sc (Bv<|Ko (Z1 T.I_<|ac (ix hr.u (dv 0) di)<|ac (ix hr.u (dv 1) di)<|ac (ix hr.u (dv 2) di) an) (gt (n:=3)<|gc (gn (i:=3) bE.nd)<|gc (gn (i:=4) bE.nd)<|gc (gn (i:=5) bE.nd) g0)<|sc (bO (i:=6) bE.nd<|aT T.compared (qp T) hr<|al 4<|al 5<|ac (ix hr.u (dv 3) di)<|ac (ix hr.u (dv 3) di) an)<|s1<|si (bq js hr.u (dv 6) di) (s1<|sr<|dv 6) s0)<|s1<|sr<|aT T.compared (qp T) hr<|ac (ix hr.u (dv 1) di)<|ac (ix hr.u (dv 2) di)<|ac (ix hr.u (dv 0) di)<|ac ds an),?_};refine{λaI S'=>∃(o3 o4 o5 o6:Option D),aI=[some<|dw ps wy,some<|JP xs k,some<|JP ys l,o3,o4,o5,o6]/\S'=S/\cA (rE ps wy) (xs++[.str k]) (ys++[.str l])=cV wy "last" (.str k) (.str l),?_,?_};{refine !!!!!!{_,_,_,rfl,by rw[za];exact h1,by rw[za];exact h2,?_};refine{λi aI S'=>∃(o3 o4 o5 o6:Option D),aI=[some<|dw ps wy,some<|JP xs k,some<|JP ys l,o3,o4,o5,o6]/\S'=S/\cA (rE ps wy) (xs++[.str k]) (ys++[.str l])=cA (rE (ps.drop i) wy) (xs.drop i++[.str k]) (ys.drop i++[.str l]),{_,_,_,_,rfl,rfl,rfl},λ_ _ _ _=>trivial,?_,?_};rintro i d aI S' hd ⟨o3,o4,o5,o6,rfl,rfl,he⟩;obtain⟨x,y,z,e1,e2,e3,rfl⟩:=oF hd;rw[zk]at e1;(cases e5:ps[i]? with|none=>(rw[e5]at e1;cases e1)|some p=>rw[e5]at e1;cases e1;obtain⟨i1,g1⟩:=ze.mp e5;obtain⟨i2,g2⟩:=ze.mp e2;obtain⟨i3,g3⟩:=ze.mp e3;rw[List.drop_eq_getElem_cons i1,List.drop_eq_getElem_cons i2,List.drop_eq_getElem_cons i3,g1,g2,g3]at he;have he:_=if cV p.2.1 p.2.2 y z=0 then cA (rE (ps.drop<|i+1) wy) (xs.drop (i+1)++[.str k]) (ys.drop (i+1)++[.str l]) else cV p.2.1 p.2.2 y z:=he;obtain⟨k1,q1,v1⟩:=cW vx e2;obtain⟨k2,q2,v2⟩:=cW vy e3;cases q1.symm.trans q2;refine !{rfl,_,_,rfl,_,_,rfl,_,_,rfl,rfl,?_};refine !!!!!!{y,z,p.2.1,p.2.2,rfl,⟨k1,v1,v2⟩,_,rfl,_,rfl,bX (λh=>?_) λh=>?_};have h:(!decide (cV p.2.1 p.2.2 y z=0))=true:=h;rw[if_neg<|yd<|nt h]at he;rw[he]at q;exact{_,rfl,fo q};have h:(!decide (cV p.2.1 p.2.2 y z=0))=false:=h;rw[if_pos<|zC<|nf h]at he;exact{_,_,_,_,rfl,rfl,he});{rintro aI S' ⟨o3,o4,o5,o6,rfl,rfl,he⟩;have he:_=cA (rE (ps.drop (jL (ps.map p3) xs ys).length) wy) (xs.drop (jL (ps.map p3) xs ys).length++[.str k]) (ys.drop (jL (ps.map p3) xs ys).length++[.str l]):=he;rw[oE (by rw[za];exact h1)<|by rw[za];exact h2,za,List.drop_length,h1,List.drop_length,<-h1,h2,List.drop_length]at he;refine fo {o3,o4,o5,o6,rfl,rfl,he.trans ?_};show(if cV wy "last" (.str k) (.str l)=0 then 0 else cV wy "last" (.str k) (.str l))=_;split;{next h=>exact h.symm};rfl}};rintro aI S' ⟨o3,o4,o5,o6,rfl,rfl,he⟩;rw[he]at q;exact !!!!!!{_,_,_,_,rfl,{_,qr k hk,qr l hl},fo q}
inductive tV (ds:List D) (S:au) (R:KD) (Z:KX):Prop where
 |mk (cs ps wy r g) (h0:ds=[dw ps wy,JP (ps.map λp=>ao cs r.2 p.1) r.1,pG g]) (h1:Gd cs) (h2:Pin cs ps) (h3:Wg cs r.2) (h4:r.1∈KS) (h5:Gp cs ps g) (h6:R (.bl<|gP cs ps wy g r) S)
theorem Ba(T:Txt w K mg t):Ok P w base T.sV 4 tV:=by refine T.sV.F.bG p7 ?_;obtain⟨cs,ps,wy,r,g,e,hg,hp,hw,hk,hv,q⟩;refine{_,(sc (bO (i:=3) p7.nd<|aT T.e_ (my T) hr<|al 0<|al 1<|ac (ix hr.u (dv 2) di) an)<|sc (si (bq bA hr.u (dv 3) di) (s1<|sr<|cm bA hr.u (ix hr.u (dv 2) di) ds) s0)<|s1<|sr<|cm wg hr.u (dv 3) di),?_};refine !!!!{ps,wy,_,r.1,g.1,g.2.1,_,rfl,by rw[za],hv.len.symm,Dw hg hp hw,hv.pv,hk,hv.key,_,rfl,_,rfl,?_};unfold gP V1 at q;change R (.bl<|decide (cA (rE ps wy) ((ps.map λp=>ao cs r.2 p.1)++[.str r.1]) (g.1++[.str g.2.1])<0)||decide (cA (rE ps wy) ((ps.map λp=>ao cs r.2 p.1)++[.str r.1]) (g.1++[.str g.2.1])=0)&&decide (g.2.2 ="behind")) S at q;generalize cA (rE ps wy) _ _=n at q⊢;refine bX (λh=>?_) λh=>?_;have h:n=0:=zC h;subst h;exact !!⟨fo q⟩;have h:¬n=0:=yd h;rw[zq h,zX,Bool.or_false]at q;exact{_,rfl,fo q}
inductive lM (ds:List D) (S:au) (R:KD) (Z:KX):Prop where
 |mk (cs ps wy A l g) (h0:ds=[.tup<|cs.map aA,dw ps wy,.ref l,pG g]) (h1:Gd cs) (h2:Pin cs ps) (h3:ps.length<=8) (h4:S l=some (.lst<|A.map ah)) (h5:An cs ps wy A) (h6:Gp cs ps g) (h7:R (.int ((A.countP (gP cs ps wy g):Nat):Int)) S)
theorem cY(T:Txt w K mg t):Ok P w base T.cR 5 lM:=by
 refine T.cR.F.bG cj ?_;obtain⟨cs,ps,wy,A,l,g,e,hg,hp,h8,hl,hA,hv,q⟩;refine{_,(sc (bO (i:=4) cj.nd di)<|sc (bO (i:=5) cj.nd<|cb aQ T.aM aE<|al 2 an)<|sc (Bv<|ZQ (bq wg hr.u (dv 4)<|dv 5)<|sc (bO (i:=6) cj.nd<|bo bR hr.u (bo bf hr.u (dv 4)<|dv 5) di)<|s1<|si (tv<|aT T.sV (Ba T) hr<|al 1<|ac (aT T.jW (km T) hr<|al 0<|al 1<|ac (ix hr.u (dv 2)<|dv 6) an)<|al 3 an) (s1<|bO (i:=4) cj.nd<|bo bf hr.u (dv 6) di)<|s1<|bO (i:=5) cj.nd<|dv 6)<|s1<|sr<|dv 4),?_};refine !!⟨.inl {_,hl,?_}⟩;rw[za];refine{λaI S'=>∃(o6:Option D),aI=[some<|.tup<|cs.map aA,some<|dw ps wy,some<|.ref l,some<|pG g,some<|.int ((A.countP (gP cs ps wy g):Nat):Int),some<|.int ((A.countP (gP cs ps wy g):Nat):Int),o6]/\S'=S,?_,?_};refine{λm aI S'=>∃(lo hi:Nat)(o6:Option D),aI=[some<|.tup<|cs.map aA,some<|dw ps wy,some<|.ref l,some<|pG g,some<|.int (lo:Nat),some<|.int (hi:Nat),o6]/\S'=S/\m=hi-lo/\lo<=hi/\hi<=A.length/\(∀i a,i<lo->A[i]?=some a->gP cs ps wy g a=true)/\(∀i a,hi<=i->A[i]?=some a->gP cs ps wy g a=false),{_,0,A.length,none,rfl,rfl,rfl,zT _,zr _,λi a h=>absurd h<|Nat.not_lt_zero _,λi a h e=>?_},?_};rw[List.getElem?_eq_none h]at e;cases e;rintro m aI S' ⟨lo,hi,o6,rfl,rfl,rfl,h1,h2,b1,b2⟩;refine !!!⟨bX (λh=>?_) λh=>?_⟩;have h:lo<hi:=by have:=zC h;lia
 have hm:(lo+hi)/2<A.length:=by lia
 have em:=zf hm;generalize A[(lo+hi)/2]=r at em;have Gz:=zy em;have ed:(((lo:Nat):Int)+((hi:Nat):Int))/2=(((lo+hi)/2:Nat):Int):=by lia
 have mono:=hA.mono hg hp hv;refine !!⟨{by decide,by decide},?_⟩;rw[ed];refine !!!!!{_,ah r,hl,dy<|by rw[zk,em];rfl,cs,ps,wy,r,rfl,hg,hp,h8,hA.rg.1 r Gz,_,rfl,cs,ps,wy,r,g,rfl,hg,hp,hA.rg.1 r Gz,hA.ky r Gz,hv,_,rfl,bX (λz=>?_) λz=>?_};refine !{hi-((lo+hi)/2+1),by lia,(lo+hi)/2+1,hi,_,rfl,rfl,rfl,by lia,h2,λi a UT ei=>?_,b2};rcases Nat.lt_or_ge i ((lo+hi)/2) with eO|W5;exact List.pairwise_iff_getElem.mp mono i _ (ze.mp ei).1 hm eO |> λk=>by rw[(ze.mp ei).2,(ze.mp em).2]at k;exact k z
 have:i=(lo+hi)/2:=by lia
 subst this;rw[em]at ei;cases ei;exact z;refine !{(lo+hi)/2-lo,by lia,lo,(lo+hi)/2,_,rfl,rfl,rfl,by lia,by lia,b1,λi a UT ei=>?_};rcases Nat.lt_or_ge ((lo+hi)/2) i with eO|W5;cases qa:gP cs ps wy g a with|false=>rfl|true=>have k:=List.pairwise_iff_getElem.mp mono _ i hm (ze.mp ei).1 eO;rw[(ze.mp ei).2,(ze.mp em).2]at k;exact tf (k qa) z
 have:i=(lo+hi)/2:=by lia
 subst this;rw[em]at ei;cases ei;exact z;have h:lo=hi:=by have:=yd h;lia
 subst h;have:=Dy (hA.mono hg hp hv) h2 b1 b2;subst this;exact fo !⟨rfl⟩;rintro aI S' ⟨o6,rfl,rfl⟩;exact{_,rfl,fo q}
noncomputable def seg{α:Type}(A:List α)(b e:Nat):List α:=(A.drop b).take<|e-b
theorem i8(h:b<=e)(h2:e<=A.length):(seg A b e).length=e-b:=by unfold seg;rw[ym,yJ];omega
theorem rF(h:i<e-b):(seg A b e)[i]?=A[b+i]?:=by unfold seg;rw[List.getElem?_take,if_pos h,List.getElem?_drop]
theorem xD(h:b<=e)(h2:e<=A.length):bK (A.map ah) (some ((b:Nat):Int)) (some ((e:Nat):Int))=(seg A b e).map ah:=by unfold bK seg;rw[HT.sIx_nat,HT.sIx_nat,za,Nat.min_eq_left h2,Nat.min_eq_left<|zK h h2,List.map_take,List.map_drop]
noncomputable def GY(p:Addr)(b c:Nat):D:=.tup [.ref p,.int (b:Nat),.int (c:Nat)]
noncomputable def Bz(cs:List<|Str×Str)(ps:List Part)(wy:Str)(A:List Row)(n:Nat):Option vO->Nat|none=>n|some g=>A.countP<|gP cs ps wy g
theorem Ro(h:n<=A.length):∀b,Bz cs ps wy A n b<=A.length|none=>h|some _=>List.countP_le_length
structure xE(cs:List (Str×Str))(ps:List Part)(wy:Str)(n:Nat)(d:D)(rows A:List Row):Prop where
 an:An cs ps wy A
 pm:A.Perm (rows.filter λr=>bU cs r n d)
theorem xE.one(hg:Gd cs)(hp:Pin cs ps)(h:xE cs ps wy n d rows A)(h':xE cs ps wy n d rows A'):A=A':=MK hg hp h'.an.rg h.an.pw h'.an.pw<|h.pm.trans h'.pm.symm
def Ov(rows:List Row):Prop:=∀r∈rows,r.1∈KS
theorem xG{cs:List<|Str×Str}{ps:List Part}{wy:Str}{n:Nat}{d:D}{rows A:List Row}(hr:Rg cs rows)(hk:Ov rows)(pm:A.Perm<|rows.filter λr=>bU cs r n d)(pw:A.Pairwise λa b=>du cs wy ps a b=true):xE cs ps wy n d rows A:={{(hr.sub yt).perm pm,λr h=>hk r (yk.mp<|pm.mem_iff.mp h).1,pw},pm}
noncomputable def tW(A:List Row)(b n:Nat):Nat:=min (b+n) A.length
def Rp(t:fk)(f:List (Str×Str)->List Part->Str->List Row->Option vO->Nat->Nat×Nat):kO:=λds S R _=>∃(a:Addr)(cs:List (Str×Str))(ps:List Part)(wy:Str)(d m:D)(n:Nat)(b:Option vO)(rows:List Row),ds=[.ref a,dw ps wy,d,.int (n:Nat),Hf b,m]/\Gd cs/\Og cs ps wy/\Sq cs d/\1<=n/\n<=1000/\Bg cs ps b/\Vw t.ak S a cs m rows/\Ov rows/\Tb t S/\∀(A:List Row)(p:Addr),xE cs ps wy 7 d rows A->S p=none->R (GY p (f cs ps wy A b n).1<|A.length-(f cs ps wy A b n).2) (S.set p<|.lst<|(seg A (f cs ps wy A b n).1 (f cs ps wy A b n).2).map ah)
noncomputable def Xn(cs:List<|Str×Str)(ps:List Part)(wy:Str)(A:List Row)(b:Option vO)(n:Nat):Nat×Nat:=(Bz cs ps wy A 0 b,tW A (Bz cs ps wy A 0 b) n)
noncomputable def Xo(cs:List<|Str×Str)(ps:List Part)(wy:Str)(A:List Row)(b:Option vO)(n:Nat):Nat×Nat:=(Bz cs ps wy A A.length b-n,Bz cs ps wy A A.length b)
theorem xH{S:au}{p q:Addr}{c e:Ce}(h:S q=none)(hp:S p=none)(hn:q≠p):Sub (S.set q e) ((S.set p c).set q e):=λb x hb=>by by_cases z:b=q;subst z;rw[aa]at hb⊢;exact hb;rw[ag z]at hb⊢;rw[ag<|ib hb hp];exact hb
inductive JQ (t:fk) (ds:List D) (S:au) (R:KD) (Z:KX):Prop where
 |mk (a:Addr) (cs:List<|Str×Str) (ps:List Part) (wy:Str) (d m:D) (f g:Option vO) (rows:List Row) (h0:ds=[.ref a,dw ps wy,d,Hf f,Hf g,m]) (h1:Gd cs) (h2:Og cs ps wy) (h3:Sq cs d) (h4:Bg cs ps f) (h5:Bg cs ps g) (h6:Vw t.ak S a cs m rows) (h7:Ov rows) (h8:Tb t S) (h9:∀(A:List Row)(p:Addr),xE cs ps wy 7 d rows A->S p=none->R (.ref p) (S.set p<|.lst<|bK (A.map ah) (some ((Bz cs ps wy A 0 f:Nat):Int))<|some ((Bz cs ps wy A A.length g:Nat):Int)))
inductive ko (ds:List D) (S:au) (R:KD) (Z:KX):Prop where
 |mk (l:Addr) (A:List Row) (b e:Nat) (h0:ds=[.ref l,.int (b:Nat),.int (e:Nat)]) (h1:S l=some (.lst<|A.map ah)) (h2:b<=e) (h3:e<=A.length) (h4:∀p,S p=none->R (GY p b<|A.length-e) (S.set p<|.lst<|(seg A b e).map ah))
theorem jm(T:Txt w K mg t):Ok P w base T.fq 1 ko:=by refine T.fq.F.bG qG ?_;rintro _ _ _ _ _ _ _ S R Z hr ⟨l,A,b,e,e0,hl,h1,h2,q⟩;subst e0;refine{_,(s1<|sr<|cN<|ac (IQ (dv 0) (o1<|dv 1)<|o1<|dv 2)<|al 1<|ac (bo mR hr.u (cb aQ T.aM aE<|al 0 an)<|dv 2) an),?_};refine !!!!!{_,hl,λp hp=>?_};rw[xD h1 h2];refine !!!⟨.inl {_,(Sub.new hp) _ _ hl,_,rfl,uF,?_}⟩;rw[za,show((A.length:Nat):Int)-((e:Nat):Int)=((A.length-e:Nat):Int) by omega];exact fo<|q p hp
inductive qu (ds:List D) (S:au) (R:KD) (Z:KX):Prop where
 |mk (l:Addr) (A:List Row) (b n:Nat) (h0:ds=[.ref l,.int (b:Nat),.int (n:Nat)]) (h1:S l=some (.lst<|A.map ah)) (h2:b<=A.length) (h3:∀p,S p=none->R (GY p b<|A.length-tW A b n) (S.set p<|.lst<|(seg A b<|tW A b n).map ah))
theorem nX(T:Txt w K mg t):Ok P w base T.kI 2 qu:=by
 refine T.kI.F.bG w9 ?_;rintro _ _ _ _ _ _ _ S R Z hr ⟨l,A,b,n,e0,hl,h1,q⟩;subst e0;refine{_,(s1<|sr<|aT T.fq (jm T) hr<|al 0<|al 1<|ac (cb NI T.Oa HZ<|ac (bo bf hr.u (dv 1)<|dv 2)<|ac (cb aQ T.aM aE<|al 0 an) an) an),?_};refine !!!!!!⟨.inl {_,hl,_,_,rfl,?_}⟩;rw[za];have e1:(if decide (((A.length:Nat):Int)<((b:Nat):Int)+((n:Nat):Int))=true then ((A.length:Nat):Int) else ((b:Nat):Int)+((n:Nat):Int))=((tW A b n:Nat):Int):=by unfold tW;by_cases h:((A.length:Nat):Int)<((b:Nat):Int)+((n:Nat):Int);rw[if_pos<|zu h];omega;rw[if_neg<|by rw[zq h];exact zd];omega
 rw[e1];exact{l,A,b,tW A b n,rfl,hl,by unfold tW;omega,by unfold tW;omega,λp hp=>fo<|q p hp}
inductive nY (ds:List D) (S:au) (R:KD) (Z:KX):Prop where
 |mk (l:Addr) (A:List Row) (e n:Nat) (h0:ds=[.ref l,.int (e:Nat),.int (n:Nat)]) (h1:S l=some (.lst<|A.map ah)) (h2:e<=A.length) (h3:∀p,S p=none->R (GY p (e-n)<|A.length-e) (S.set p<|.lst<|(seg A (e-n) e).map ah))
theorem lN(T:Txt w K mg t):Ok P w base T.iT 2 nY:=by
 refine T.iT.F.bG uA ?_;rintro _ _ _ _ _ _ _ S R Z hr ⟨l,A,e,n,e0,hl,h1,q⟩;subst e0;refine{_,(s1<|sr<|aT T.fq (jm T) hr<|al 0<|ac (cb NJ T.Ob IP<|ac (bo mR hr.u (dv 1)<|dv 2)<|ac di an)<|al 1 an),?_};refine !!!{_,_,rfl,?_};have e1:(if decide (((e:Nat):Int)-((n:Nat):Int)<0)=true then (0:Int) else ((e:Nat):Int)-((n:Nat):Int))=((e-n:Nat):Int):=by by_cases h:((e:Nat):Int)-((n:Nat):Int)<0;rw[if_pos<|zu h];omega;rw[if_neg<|by rw[zq h];exact zd];omega
 rw[e1];exact !{l,A,e-n,e,rfl,hl,Nat.sub_le _ _,h1,λp hp=>fo<|q p hp}
def Ow(f:List (Str×Str)->List Part->Str->List Row->Option vO->Nat->Nat×Nat):kO:=λds S R _=>∃(cs:List (Str×Str))(ps:List Part)(wy:Str)(l:Addr)(A:List Row)(n:Nat)(b:Option vO),ds=[.tup<|cs.map aA,dw ps wy,.ref l,.int (n:Nat),Hf b]/\Gd cs/\Pin cs ps/\ps.length<=8/\S l=some (.lst<|A.map ah)/\An cs ps wy A/\Bg cs ps b/\∀p,S p=none->R (GY p (f cs ps wy A b n).1<|A.length-(f cs ps wy A b n).2) (S.set p<|.lst<|(seg A (f cs ps wy A b n).1 (f cs ps wy A b n).2).map ah)
theorem uL(T:Txt w K mg t):Ok P w base T.mf 6 (Ow Xn):=by refine T.mf.F.bG lA ?_;rintro _ _ _ _ _ _ _ S R Z hr ⟨cs,ps,wy,l,A,n,b,e0,hg,hp,h8,hl,hA,hb,q⟩;subst e0;refine{_,(sc (bO (i:=5) lA.nd<|LP (bq jr hr.u (dv 4) dn) di<|aT T.cR (cY T) hr<|al 0<|al 1<|al 2<|al 4 an)<|s1<|sr<|aT T.kI (nX T) hr<|al 2<|al 5<|al 3 an),?_};cases b with|none=>exact (!!⟨dG !!!{l,A,0,n,rfl,hl,zT _,λp hp=>fo<|q p hp}⟩)|some g=>exact !!⟨a_ !!!!{cs,ps,wy,A,l,g,rfl,hg,hp,h8,hl,hA,hb g rfl,_,rfl,_,rfl,_,rfl,l,A,_,n,rfl,hl,List.countP_le_length,λp hp=>fo<|q p hp}⟩
theorem qM(T:Txt w K mg t):Ok P w base T.iS 6 (Ow Xo):=by refine T.iS.F.bG jh ?_;rintro _ _ _ _ _ _ _ S R Z hr ⟨cs,ps,wy,l,A,n,b,e0,hg,hp,h8,hl,hA,hb,q⟩;subst e0;refine{_,(sc (bO (i:=5) jh.nd<|LP (bq jr hr.u (dv 4) dn) (cb aQ T.aM aE<|al 2 an)<|aT T.cR (cY T) hr<|al 0<|al 1<|al 2<|al 4 an)<|s1<|sr<|aT T.iT (lN T) hr<|al 2<|al 5<|al 3 an),?_};cases b with|none=>refine !!⟨dG !!⟨.inl {_,hl,?_}⟩⟩;rw[za];exact (!!!{l,A,A.length,n,rfl,hl,zr _,λp hp=>fo<|q p hp})|some g=>exact !!⟨a_ !!!!{cs,ps,wy,A,l,g,rfl,hg,hp,h8,hl,hA,hb g rfl,_,rfl,_,rfl,_,rfl,l,A,_,n,rfl,hl,List.countP_le_length,λp hp=>fo<|q p hp}⟩
theorem DC(T:Txt w K mg t)(B:Bm mg base):Ok P w base T.rl 13 (Rp t Xn):=by
 refine T.rl.F.bG CW ?_;rintro _ _ _ _ _ _ _ S R Z hr ⟨a,cs,ps,wy,d,m,n,b,rows,e0,hg,ho,hd,h1,h2,hb,hv,hk,ht,q⟩;subst e0;obtain⟨F,dl,rs,hS,hn,VR,VS⟩:=hv.sh;obtain⟨ld,lr,ra,h,_⟩:=id hS;refine{_,(sc (se<|aT T.iU (lL T) hr<|ac (fI (dv 0) T.aj T.az (aN T) hr)<|al 1<|al 2<|al 3<|al 4 an)<|s1<|sr<|aT T.mf (uL T) hr<|ac (fI (dv 0) T.aj T.az (aN T) hr)<|al 1<|ac (aT T.cg (cL T B) hr<|al 0<|al 1<|al 2<|al 5 an)<|al 3<|al 4 an),?_};refine !{a,_,rfl,h.ins,rfl,a,F,cs,dl,rs,rfl,hS,_,rfl,_,rfl,_,rfl,_,rfl,cs,ps,wy,d,n,b,rfl,hg,ho,hd,by omega,by omega,hb,?_};refine !{a,_,rfl,h.ins,rfl,a,F,cs,dl,rs,rfl,hS,_,rfl,_,rfl,_,rfl,_,rfl,_,rfl,a,cs,ps,wy,d,m,rows,rfl,hg,ho,hd,hv,ht,λA l pm pw hl=>?_};have an:=xG hv.rg hk pm pw;refine !!{cs,ps,wy,l,A,n,b,rfl,hg,ho.pin,ho.len,aa,an.an,hb,λp hp=>?_};have dN:p≠l:=λe=>by rw[e,aa]at hp;cases hp
 have Kw:S p=none:=by rw[ag dN]at hp;exact hp
 exact{_,xH Kw hl dN,q A p an Kw}
theorem xI(T:Txt w K mg t)(B:Bm mg base):Ok P w base T.kF 13 (Rp t Xo):=by
 refine T.kF.F.bG w6 ?_;rintro _ _ _ _ _ _ _ S R Z hr ⟨a,cs,ps,wy,d,m,n,b,rows,e0,hg,ho,hd,h1,h2,hb,hv,hk,ht,q⟩;subst e0;obtain⟨F,dl,rs,hS,hn,VR,VS⟩:=hv.sh;obtain⟨ld,lr,ra,h,_⟩:=id hS;refine{_,(sc (se<|aT T.iU (lL T) hr<|ac (fI (dv 0) T.aj T.az (aN T) hr)<|al 1<|al 2<|al 3<|al 4 an)<|s1<|sr<|aT T.iS (qM T) hr<|ac (fI (dv 0) T.aj T.az (aN T) hr)<|al 1<|ac (aT T.cg (cL T B) hr<|al 0<|al 1<|al 2<|al 5 an)<|al 3<|al 4 an),?_};refine !{a,_,rfl,h.ins,rfl,a,F,cs,dl,rs,rfl,hS,_,rfl,_,rfl,_,rfl,_,rfl,cs,ps,wy,d,n,b,rfl,hg,ho,hd,by omega,by omega,hb,?_};refine !{a,_,rfl,h.ins,rfl,a,F,cs,dl,rs,rfl,hS,_,rfl,_,rfl,_,rfl,_,rfl,_,rfl,a,cs,ps,wy,d,m,rows,rfl,hg,ho,hd,hv,ht,λA l pm pw hl=>?_};have an:=xG hv.rg hk pm pw;refine !!{cs,ps,wy,l,A,n,b,rfl,hg,ho.pin,ho.len,aa,an.an,hb,λp hp=>?_};have dN:p≠l:=λe=>by rw[e,aa]at hp;cases hp
 have Kw:S p=none:=by rw[ag dN]at hp;exact hp
 exact{_,xH Kw hl dN,q A p an Kw}
theorem DD(T:Txt w K mg t)(B:Bm mg base):Ok P w base T.rm 13 (JQ t):=by
 refine T.rm.F.bG fV ?_;rintro _ _ _ _ _ _ _ S R Z hr ⟨a,cs,ps,wy,d,m,f,g,rows,e0,hg,ho,hd,hf,hgg,hv,hk,ht,q⟩;subst e0;obtain⟨F,dl,rs,hS,hn,VR,VS⟩:=hv.sh;obtain⟨ld,lr,ra,h,_⟩:=id hS;refine{_,(sc (bO (i:=6) fV.nd<|fI (dv 0) T.aj T.az (aN T) hr)<|sc (se<|aT T.eU (gk T) hr<|al 6<|al 1 an)<|sc (se<|aT T.eV (gm T) hr<|al 6<|al 2 an)<|sc (se<|aT T.eW (gs T) hr<|al 6<|al 1<|al 3 an)<|sc (se<|aT T.eW (gs T) hr<|al 6<|al 1<|al 4 an)<|sc (bO (i:=7) fV.nd<|aT T.cg (cL T B) hr<|al 0<|al 1<|al 2<|al 5 an)<|sc (bO (i:=8) fV.nd<|LP (bq jr hr.u (dv 3) dn) di<|aT T.cR (cY T) hr<|al 6<|al 1<|al 7<|al 3 an)<|sc (bO (i:=9) fV.nd<|LP (bq jr hr.u (dv 4) dn) (cb aQ T.aM aE<|al 7 an)<|aT T.cR (cY T) hr<|al 6<|al 1<|al 7<|al 4 an)<|s1<|sr<|IQ (dv 7) (o1<|dv 8)<|o1<|dv 9),?_};refine !{a,_,rfl,h.ins,rfl,a,F,cs,dl,rs,rfl,hS,?_};refine !!{cs,ps,wy,rfl,hg,ho.tx,λ_=>?_,λz=>tf ho.ok z};refine !!{cs,d,rfl,hg,hd,?_};refine !!!{cs,ps,wy,f,rfl,hg,ho.pin,ho.len,hf,?_};refine !!!{cs,ps,wy,g,rfl,hg,ho.pin,ho.len,hgg,?_};refine !!!!{a,cs,ps,wy,d,m,rows,rfl,hg,ho,hd,hv,ht,λA l pm pw hl=>?_};have an:=xG hv.rg hk pm pw;have fin:∀p,(S.set l<|.lst<|A.map ah) p=none->Fo (((S.set l<|.lst<|A.map ah).set p<|.lst<|bK (A.map ah) (some ((Bz cs ps wy A 0 f:Nat):Int))<|some ((Bz cs ps wy A A.length g:Nat):Int))) (R<|.ref p):=λp hp=>by have dN:p≠l:=λe=>(by rw[e,aa]at hp;cases hp);have Kw:S p=none:=(by rw[ag dN]at hp;exact hp);exact{_,xH Kw hl dN,q A p an Kw}
 cases f with|none=>(refine !!⟨dG ?_⟩;cases g with|none=>refine !!⟨dG !!⟨.inl {_,aa,?_}⟩⟩;rw[za];exact (!!!!!{_,aa,fin})|some g=>exact !!⟨a_ !!!!{cs,ps,wy,A,l,g,rfl,hg,ho.pin,ho.len,aa,an.an,hgg g rfl,_,rfl,_,rfl,_,rfl,_,rfl,_,rfl,_,aa,fin}⟩)|some f=>refine !!⟨a_ !!!!{cs,ps,wy,A,l,f,rfl,hg,ho.pin,ho.len,aa,an.an,hf f rfl,?_}⟩;cases g with|none=>refine !!⟨dG !!⟨.inl {_,aa,?_}⟩⟩;rw[za];exact (!!!!!{_,aa,fin})|some g=>exact !!⟨a_ !!!!{cs,ps,wy,A,l,g,rfl,hg,ho.pin,ho.len,aa,an.an,hgg g rfl,_,rfl,_,rfl,_,rfl,_,rfl,_,rfl,_,aa,fin}⟩
structure Qs(t:fk)(S:au)(a:Addr)(cs:List (Str×Str))(ps:List Part)(wy:Str)(d m:D)(rows:List Row):Prop where
 g:Gd cs
 o:Og cs ps wy
 s:Sq cs d
 v:Vw t.ak S a cs m rows
 k:Ov rows
 t:Tb t S
theorem Qs.sub{t:fk}{S S':au}{a:Addr}{cs:List<|Str×Str}{ps:List Part}{wy:Str}{d m:D}{rows:List Row}(h:Qs t S a cs ps wy d m rows)(b:Sub S S'):Qs t S' a cs ps wy d m rows:={h.g,h.o,h.s,h.v.sub b,h.k,h.t.sub b}
section
variable{t:fk}{S:au}{a:Addr}{cs:List (Str×Str)}{ps:List Part}{wy:Str}{d m:D}{rows:List Row}{R:KD}{Z:KX}(hq:Qs t S a cs ps wy d m rows)
include hq
theorem Qs.pg(b:Option vO)(h1:1<=n)(h2:n<=1000)(hb:Bg cs ps b) (k:∀(A:List Row)(p:Addr),xE cs ps wy 7 d rows A->S p=none->R (GY p (f cs ps wy A b n).1<|A.length-(f cs ps wy A b n).2) (S.set p<|.lst<|(seg A (f cs ps wy A b n).1 (f cs ps wy A b n).2).map ah)):W (Rp t f) [.ref a,dw ps wy,d,.int (n:Nat),Hf b,m] S R Z:=⟨a,cs,ps,wy,d,m,n,b,rows,rfl,hq.g,hq.o,hq.s,h1,h2,hb,hq.v,hq.k,hq.t,k⟩
theorem Qs.st(f g:Option vO)(hf:Bg cs ps f)(hg:Bg cs ps g)(k:∀(A:List Row)(p:Addr),xE cs ps wy 7 d rows A->S p=none->R (.ref p) (S.set p<|.lst<|bK (A.map ah) (some ((Bz cs ps wy A 0 f:Nat):Int))<|some ((Bz cs ps wy A A.length g:Nat):Int))):W (JQ t) [.ref a,dw ps wy,d,Hf f,Hf g,m] S R Z:=⟨a,cs,ps,wy,d,m,f,g,rows,rfl,hq.g,hq.o,hq.s,hf,hg,hq.v,hq.k,hq.t,k⟩
end
theorem gM(hr:Rg cs rows)(hk:Ov rows):∀d∈rows.map ah,Ly S 60 d:=λd hd=>by obtain⟨r,h,rfl⟩:=zg.mp hd;exact Rn (hk r h)<|hr.1 r h
noncomputable def EZ(cs:List<|Str×Str)(ps:List Part)(sd:Str)(r:Row):vO:=(ps.map λp=>ao cs r.2 p.1,r.1,sd)
theorem mz{cs:List<|Str×Str}(hg:Gd cs){ps:List Part}(hp:Pin cs ps){r:Row}(hw:Wg cs r.2)(hk:r.1∈KS){sd:Str}(hs:A_ sd=true):Gp cs ps (EZ cs ps sd r):={Dw hg hp hw,hk,hs}
inductive vQ (ds:List D) (S:au) (R:KD) (Z:KX):Prop where
 |mk (cs:List<|Str×Str) (ps:List Part) (wy:Str) (p:Addr) (rows:List Row) (b c:Nat) (h0:ds=[.tup<|cs.map aA,dw ps wy,GY p b c]) (h1:Gd cs) (h2:Pin cs ps) (h3:ps.length<=8) (h4:S p=some (.lst<|rows.map ah)) (h5:(∀r∈rows,Wg cs r.2)) (h6:(rows=[]->R .av S)) (h7:∀r0 r1,rows[0]?=some r0->rows[rows.length-1]?=some r1->R (.tup [pG<|EZ cs ps "ahead" r0,pG<|EZ cs ps "behind" r1]) S)
theorem tX(T:Txt w K mg t):Ok P w base T.rq 4 vQ:=by
 refine T.rq.F.bG s9 ?_;rintro _ _ _ _ _ _ _ S R Z hr ⟨cs,ps,wy,p,rows,b,c,e0,hg,hp,h8,hS,hw,q1,q2⟩;subst e0;refine{_,(sc (bO (i:=3) s9.nd<|ix hr.u (dv 2) di)<|sc (si (bq bA hr.u (cb aQ T.aM aE<|al 3 an) di) (s1<|sr dn) s0)<|s1<|sr<|cN<|ac (cN<|ac (aT T.jW (km T) hr<|al 0<|al 1<|ac (ix hr.u (dv 3) di) an)<|ac ds an)<|ac (cN<|ac (aT T.jW (km T) hr<|al 0<|al 1<|ac (ix hr.u (dv 3)<|Ag di) an)<|ac ds an) an),?_};refine !!!!⟨.inl {_,hS,_,rfl,?_}⟩;rw[za];refine bX (λh=>?_) λh=>?_;have h:((rows.length:Nat):Int)=0:=zC h;exact fo<|q1<|List.length_eq_zero_iff.mp (by lia);have h:¬((rows.length:Nat):Int)=0:=yd h;have h0:0<rows.length:=by lia
 have hl:rows.length-1<rows.length:=by lia
 have e0:=zf h0;have e1:=zf hl;generalize rows[0]=r0 at e0;generalize rows[rows.length-1]=r1 at e1;have w0:=hw r0<|zy e0;have w1:=hw r1<|zy e1;have ea:mD (rows.map ah) (-1)=some (ah r1):=by unfold mD Hx;rw[za,if_neg<|by decide,if_pos<|by lia,show((-1:Int)+((rows.length:Nat):Int)).toNat=rows.length-1 by lia];show(rows.map ah)[rows.length-1]?=_;rw[zk,e1];rfl
 refine !!!{_,ah r0,hS,dy (j:=0)<|by rw[zk,e0];rfl,cs,ps,wy,r0,rfl,hg,hp,h8,w0,cG,?_};refine !!!!{_,ah r1,hS,ea,cs,ps,wy,r1,rfl,hg,hp,h8,w1,cG,cG,?_};exact fo<|q2 r0 r1 e0 e1
theorem Rq(hg:Gd cs)(hc:c∈cs):((cs.map Prod.fst).map D.str).all je=true/\(∃z,((cs.map Prod.fst).map D.str)[Ky cs c.1]?=some z/\eqV (jI z) (jI<|.str c.1)=true)/\∀m u,m<Ky cs c.1->((cs.map Prod.fst).map D.str)[m]?=some u->eqV (jI u) (jI<|.str c.1)=false:=by obtain⟨n1,n2⟩:=o_ hg hc;refine{?_,{.str c.1,by rw[zk,n2];rfl,by show(c.1==c.1)=true;simp},?_};rw[List.all_map];exact zZ.mpr λ_ _=>rfl;intro m u hm hu;rw[zk]at hu;cases e:(cs.map Prod.fst)[m]? with|none=>(rw[e]at hu;cases hu)|some z'=>rw[e]at hu;cases hu;show(z'==c.1)=false;have:z'≠c.1:=λq=>(by subst q;obtain⟨b1,c1⟩:=ze.mp e;obtain⟨b2,c2⟩:=ze.mp n2;have:=(List.getElem_inj hg.2.1 (h₀:=b1) (h₁:=b2)).mp<|c1.trans c2.symm;lia);simpa using this
noncomputable def V4:D->D|.tup (x::_)=>x|_=>.av
theorem JR(cs:List<|Str×Str):(cs.map aA).map V4=(cs.map Prod.fst).map D.str:=by rw[zx,zx];rfl
theorem kL(h:r∈seg A b e):r∈A:=List.mem_of_mem_drop<|List.mem_of_mem_take h
inductive vR (ds:List D) (S:au) (R:KD) (Z:KX):Prop where
 |mk (cs ps wy r) (h0:ds=[.tup<|cs.map aA,dw ps wy,ah r]) (h1:Gd cs) (h2:Pin cs ps) (h3:ps.length<=8) (h4:Wg cs r.2) (h5:R (JP (ps.map λp=>ao cs r.2 p.1) r.1) S)
theorem JS(T:Txt w K mg t):Ok P w base T.wU 1 vR:=by
 refine T.wU.F.bG tj ?_;obtain⟨cs,ps,wy,r,e,hg,hp,h8,hw,q⟩;refine{_,(sc (bO (i:=3) tj.nd<|vd (N:=["_law_name","_law_kind"]) (src:=[none,none]) (kD (ae vk) ["_law_columns_here","_law_order_here","_law_row","_law_names"] rfl rfl<|by trivial) (Km<|dv 0) (W0<|show(["_law_name","_law_kind"]:List Str).Nodup by trivial) (qX rfl rfl) rf (λ_ _ _ _ _=>sC) λ_ _ _ _ _=>(dv 0))<|s1<|sr<|cN<|ac (ct gz T.bw aW<|ac (vd (N:=["_law_part","_law_row","_law_names"]) (src:=[none,some 2,some 3]) (kD (ae vk) ["_law_columns_here","_law_order_here","_law_row","_law_names"] rfl rfl<|by trivial) (Km<|ix hr.u (dv 1) di) (pT<|show(["_law_part","_law_row","_law_names"]:List Str).Nodup by trivial) (aU rfl) aV (λ_ _ _ _ _=>sC) λ_ _ _ _ _=>(ix hr.u (ix hr.u (dv 1) di)<|bm zN PySem.F.slot_list_index PySem.F.type_list_index Ah (dv 2)<|ac (ix hr.u (dv 0) di) an)) an)<|ac (ix hr.u (dv 2) di) an),?_};refine !{_,.inl rfl,?_};refine comp_map V4 trivial (by show(cs.map aA).length<=1000;rw[za];have:=hg.1;lia) (λd hd Q hQ=>?_) λpn kX=>?_;obtain⟨c,_,rfl⟩:=zg.mp hd;exact !{rfl,_,_,rfl,_,_,rfl,rfl,_,rfl,hQ};rw[show({cs.map aA,λ_=>True}:q9).xs=cs.map aA from rfl,JR];have sb:=Sub.new (c:=.lst<|(cs.map Prod.fst).map D.str) kX;have vJ:(S.set pn<|.lst<|(cs.map Prod.fst).map D.str) pn=some (.lst<|(cs.map Prod.fst).map D.str):=aa;generalize S.set pn (.lst<|(cs.map Prod.fst).map D.str)=S1 at sb vJ⊢;refine !!{_,.inl rfl,?_};refine comp_map (λd=>match d with|.tup (.str z::_)=>ao cs r.2 z|_=>.av) trivial (by show(ps.map p3).length<=_;rw[za];lia) (λd hd Q hQ=>?_) λp2 hG=>?_;obtain⟨pt,hpt,rfl⟩:=zg.mp hd;obtain⟨c,hc,ec⟩:=hp pt hpt;have lx:=Rq hg hc;have MV:=(nN hg hw hc).1;rw[ec]at lx MV;exact !!!⟨{rfl,_,vJ},_,rfl,_,rfl,_,.str pt.1,Ky cs pt.1,rfl,vJ,rfl,lx.1,lx.2.1,lx.2.2,_,dy MV,hQ⟩;have e3:(ps.map p3).map (λd=>match d with|.tup (.str z::_)=>ao cs r.2 z|_=>.av)=ps.map λp=>ao cs r.2 p.1:=by rw[zx];rfl
 rw[show({ps.map p3,λ_=>True}:q9).xs=ps.map p3 from rfl,e3];exact{_,_,rfl,.inl aa,_,rfl,_,rfl,cG,S,sb.trans<|.new hG,q}
inductive Bb (ds:List D) (S:au) (R:KD) (Z:KX):Prop where
 |mk (x:Int) (h0:ds=[.int x]) (h1:∀n:Nat,1<=n->n<=1000->R (.int (n:Nat)) S)
theorem MW(T:Txt w K mg t):Ok P w base T.CO 1 Bb:=by
 refine T.CO.F.bG Gu ?_;obtain⟨x,e,q⟩;refine{_,(s1<|sr<|wq<|ix hr.u (cB<|ac di<|ac di<|ac di<|ac (bo bf hr.u di<|bo ba hr.u (bo bR hr.u (dv 0) di) di)<|ac di<|ac (bo bf hr.u di<|bo ba hr.u (bo bR hr.u (dv 0) di) di) an)<|bo ba hr.u (dv 0) di),?_};have a0:0<=x/6%9:=zL _ (by decide);have a1:x/6%9<9:=zJ _ (by decide);have b0:0<=x/6%30:=zL _ (by decide);have b1:x/6%30<30:=zJ _ (by decide);refine{_,rfl,{by decide,by trivial},by decide,_,rfl,{by decide,by trivial},by decide,Z3,λp hp=>!{by decide,bH (zL _<|by decide) (zJ _<|by decide) hp λd hd=>?_}};have hd:d∈[D.int 1,.int 2,.int 3,.int<|1+x/6%9,.int 1000,.int<|13+x/6%30]:=hd;have one:∀i:Int,d=.int i->1<=i->i<=1000->Fo S (R d):=λi e h1 h2=>by obtain⟨m,rfl⟩:=Int.eq_ofNat_of_zero_le (show 0<=i by lia);rw[e];exact fo<|q m (by lia)<|by lia
 simp only[zh,zM,or_false]at hd;rcases hd with h|h|h|h|h|h<;>exact one _ h (by lia) (by lia)
inductive E1 (ds:List D) (S:au) (R:KD) (Z:KX):Prop where
 |mk (cs:List<|Str×Str) (ps:List Part) (wy:Str) (c:Int) (h0:ds=[.tup<|cs.map aA,dw ps wy,.int c]) (h1:Gd cs) (h2:Og cs ps wy) (h3:∀g,Gp cs ps g->R (pG g) S)
theorem E3(hd:d∈[D.str "ahead",.str "behind"]):∃sd:Str,d=.str sd/\A_ sd=true:=by simp only[zh,zM,or_false]at hd;rcases hd with h|h;exact{_,h,by trivial};exact{_,h,by trivial}
theorem MX(T:Txt w K mg t):Ok P w base T.Jd 2 E1:=by
 refine T.Jd.F.bG nv ?_;obtain⟨cs,ps,wy,c0,e,hg,ho,q⟩;have h8:=ho.len;have dN:(ps.map p3).length=ps.length:=za _;refine{_,(sc (bO (i:=3) nv.nd<|aT T.gG (iB T) hr<|al 2<|ac di an)<|sc (bO (i:=4) nv.nd<|ct Iv T.I9 Ec<|al 0 an)<|sc (Kq (i:=5) (N:=["_law_k","_law_kinds","_law_xs","_law_order_here"]) (src:=[none,some 4,some 3,some 1]) nv.nd (kD (ae Mn) ["_law_columns_here","_law_order_here","_law_cell","_law_xs","_law_kinds","_law_values"] rfl rfl<|by trivial) (NO T.gD<|ac (cb aQ T.aM aE<|ac (ix hr.u (dv 1) di) an) an) (pT<|show(["_law_k","_law_kinds","_law_xs","_law_order_here"]:List Str).Nodup by trivial) (aU rfl) aV (λ_ _ _ _ _=>sC) λ_ _ _ _ _=>(aT T.ng (tI T) hr<|ac (ix hr.u (dv 1)<|ix hr.u (ix hr.u (ix hr.u (dv 3) di)<|dv 0) di)<|ac (ix hr.u (dv 2)<|bo bf hr.u di<|dv 0) an))<|s1<|sr<|cN<|ac (cN<|ac (ct gz T.bw aW<|al 5 an)<|ac (aT T.AI (Dc T) hr<|ac (ix hr.u (dv 3) di) an) an)<|ac (wq<|ix hr.u (cB<|ac ds<|ac ds an)<|bo ba hr.u (ix hr.u (dv 3) di) di) an),?_};refine !{c0,10,rfl,by decide,λxs lx Kx hx y6=>?_};have s1:=Sub.new (c:=.lst<|xs.map D.int) y6;have hX:(S.set lx<|.lst<|xs.map D.int) lx=some (.lst<|xs.map D.int):=aa;generalize S.set lx (.lst<|xs.map D.int)=S1 at s1 hX⊢;have at_:∀k:Nat,k<10->∃x:Int,mD (xs.map D.int) ((k:Nat):Int)=some (.int x)/\0<=x:=λk hk=>nG (by lia) (by rw[za];lia) hx;obtain⟨x0,e0,_⟩:=at_ 0 (by decide);obtain⟨x1,e1,_⟩:=at_ 1 (by decide);have ek:cs.map aA=(cs.map λc=>(c.1,D.str c.2)).map El:=by rw[zx];rfl
 refine !{(cs.map λc=>(c.1,D.str c.2)),by rw[ek],λpd Sl=>?_};have g1:=s1.trans<|Sub.new (c:=.cO<|fH<|cs.map λc=>(c.1,D.str c.2)) Sl;have Df:=(Sub.new (c:=.cO<|fH<|cs.map λc=>(c.1,D.str c.2)) Sl) _ _ hX;have d1:(S1.set pd<|.cO<|fH<|cs.map λc=>(c.1,D.str c.2)) pd=some (.cO<|fH<|cs.map λc=>(c.1,D.str c.2)):=aa;generalize S1.set pd (.cO<|fH<|cs.map λc=>(c.1,D.str c.2))=S2 at g1 Df d1⊢;refine !!!!{by rw[dN];lia,by rw[dN];lia,?_};rw[dN];refine iu (λd v=>∃(j:Nat)(p:Part),d=.int (0+(j:Nat))/\ps[j]?=some p/\Vg (GX cs p.1) v) trivial (by show(dQ 0 _).length<=_;rw[b_];lia) (λd hd Q hQ=>?_) λout ur p kX=>?_;obtain⟨j,hj⟩:=yp hd;have hj:(dQ 0 ((ps.length:Nat):Int).toNat)[j]?=some d:=hj;obtain⟨hjn,rfl⟩:=cP hj;have hjc:j<ps.length:=by lia
 have ec:=zf hjc;generalize ps[j]=pt at ec;obtain⟨c,hc,ec1⟩:=ho.pin pt<|zy ec;obtain⟨xj,exj,_⟩:=at_ (2+j) (by lia);have exj:mD (xs.map D.int) (2+(0+((j:Nat):Int)))=some (.int xj):=by rw[show(2:Int)+(0+((j:Nat):Int))=((2+j:Nat):Int) by lia];exact exj
 have ez:(0:Int)+((j:Nat):Int)=((j:Nat):Int):=Int.zero_add _;have h1:=vg (cs.map λc=>(c.1,D.str c.2)) pt.1;rw[show(cs.map λc=>(c.1,D.str c.2)).any (λq=>decide<|q.1=pt.1)=true from List.any_eq_true.mpr {_,zg.mpr ⟨c,hc,rfl⟩,zu ec1}]at h1;cases q3:bZ (fH<|cs.map λc=>(c.1,D.str c.2)) (.inr pt.1) with|none=>(rw[q3]at h1;cases h1)|some d=>obtain⟨p',Z4,e1,rfl⟩:=nK _ _ q3;obtain⟨c',KL,rfl⟩:=zg.mp Z4;have e1:c'.1=pt.1:=e1;have VJ:GX cs pt.1=c'.2:=(by unfold GX;rw[<-e1,(o_ hg KL).1];rfl);exact !!!!{p3 pt,by rw[ez];exact dy<|by rw[zk,ec];rfl,_,rfl,_,_,d1,q3,_,rfl,_,rfl,_,_,Df,exj,c'.2,xj,rfl,λv hv=>hQ v {j,pt,rfl,ec,by rw[VJ];exact hv}}
 have hv:Paired (λk x=>Vg k x) (ps.map λp=>GX cs p.1) out:=by have hlen:=yH ur;rw[show({dQ 0 ((ps.length:Nat):Int).toNat,λ_=>True}:q9).xs=dQ 0 ((ps.length:Nat):Int).toNat from rfl,b_]at hlen;refine oY (by rw[za];lia) λj k v ek ev=>?_;obtain⟨d,hd,j',p',e1,e2,hv⟩:=cW ur ev;have hd:(dQ 0 ((ps.length:Nat):Int).toNat)[j]?=some d:=hd;obtain⟨_,e3⟩:=cP hd;rw[e3]at e1;have e1:(0:Int)+((j:Nat):Int)=0+((j':Nat):Int):=D.int.inj e1;obtain rfl:j=j':=(by lia);rw[zk,e2]at ek;cases ek;exact hv
 have g2:=g1.trans<|Sub.new (c:=.lst out) kX;have hX3:=(Sub.new (c:=.lst out) kX) _ _ Df;have WK:(S2.set p<|.lst out) p=some (.lst out):=aa;generalize S2.set p (.lst out)=S3 at g2 hX3 WK⊢;refine !{_,_,rfl,.inl WK,_,rfl,_,_,hX3,e0,x0,rfl,λz hz=>{cG,cG,λp hp=>!{_,_,(Sub.new hp) _ _ hX3,e1,by decide,bH (zL _<|by decide) (zJ _<|by decide) hp λd hd=>?_}}};obtain⟨sd,rfl,hsd⟩:=E3 hd;exact{cG,S,g2,q (out,z,sd) ⟨hv,hz,hsd⟩}
theorem JT(h:xs.length=10):(bK xs (some 2) none).length=8:=by unfold bK;rw[ym,yJ,show HT.sIx xs.length 0 (some 2)=min 2 xs.length from HT.sIx_nat ..,show HT.sIx xs.length xs.length none=xs.length from rfl,h];rfl
inductive Bc (ds:List D) (S:au) (R:KD) (Z:KX):Prop where
 |mk (cs:List<|Str×Str) (lk:Addr) (kn:Kn) (c:Int) (h0:ds=[.tup<|cs.map aA,.ref lk,.int c]) (h1:Gd cs) (h2:S lk=some (.cO<|gb kn)) (h3:KI cs kn) (h4:∀d fu,GD KS cs kn d->KnD kn d fu->KI cs fu->R d (S.set lk<|.cO<|gb fu))
theorem JU(T:Txt w K mg t):Ok P w base T.CL 3 Bc:=by
 refine T.CL.F.bG iq ?_;obtain⟨cs,lk,kn,c0,e,hg,hk,hI,q⟩;have VW:=hg.1;have V5:=hI.len;refine{_,(sc (bO (i:=3) iq.nd<|aT T.gG (iB T) hr<|al 2<|ac di an)<|sc (bO (i:=4) iq.nd<|aT T.AI (Dc T) hr<|ac (ix hr.u (dv 3) di) an)<|sc (bO (i:=5) iq.nd<|aT T.sX (GF T) hr<|al 0<|ac (IQ (dv 3) (o1 di) o0) an)<|sc (si (twd<|twand (bq Ct hr.u (dv 4)<|dv 1)<|tw1<|bq bA hr.u (bo ba hr.u (ix hr.u (dv 3) di) di) di) (sc (se<|mp1 (dv 1)<|dv 4)<|s1<|sr<|cN<|ac ds<|al 4 an) s0)<|sc (bO (i:=6) iq.nd<|wq<|ix hr.u (cB<|ac ds<|ac ds an)<|ct NH T.I0 BX<|ac (cm Ct hr.u (dv 4)<|dv 1) an)<|sc (sd hr.u (dv 1) (dv 4)<|dv 5)<|s1<|sr<|cN<|al 6<|al 4<|al 5 an),?_};refine !{c0,10,rfl,by decide,λxs lx Kx hx y6=>?_};have s1:=Sub.new (c:=.lst<|xs.map D.int) y6;have hX:(S.set lx<|.lst<|xs.map D.int) lx=some (.lst<|xs.map D.int):=aa;generalize S.set lx (.lst<|xs.map D.int)=S1 at s1 hX⊢;have at_:∀k:Nat,k<10->∃x:Int,mD (xs.map D.int) ((k:Nat):Int)=some (.int x)/\0<=x:=λk hk=>nG (by lia) (by rw[za];lia) hx;obtain⟨x0,e0,_⟩:=at_ 0 (by decide);obtain⟨x1,e1,_⟩:=at_ 1 (by decide);refine !{_,_,hX,e0,x0,rfl,λz hz=>?_};refine !!!{_,hX,λp2 hG=>{cs,p2,bK xs (some 2) none,rfl,hg,by rw[kl];exact aa,by rw[JT Kx];lia,λws hw=>?_}};have s2:=s1.trans<|Sub.new (c:=.lst<|bK (xs.map D.int) (some 2) none) hG;have Df:=(Sub.new (c:=.lst<|bK (xs.map D.int) (some 2) none) hG) _ _ hX;generalize S1.set p2 (.lst<|bK (xs.map D.int) (some 2) none)=S2 at s2 Df⊢;have c_:=s2 _ _ hk;have isS:(bZ (gb kn)<|.inr z).isSome=(iE kn z).isSome:=by rw[nH];cases iE kn z<;>rfl
 have hl:(gb kn).length<sizeLine:=bg (by unfold gb;rw[za];lia);have n2:=cG;have n3:=uF;have fin:∀{d:D}{fu:Kn},GD KS cs kn d->KnD kn d fu->KI cs fu->Fo (S2.set lk<|.cO<|gb fu) (R d):=λh1 h2 h3=>{_,cz s2,q _ _ h1 h2 h3};refine !!⟨.inr {gb kn,.inr z,c_,rfl,_,rfl,bX (λh=>?_) λh=>?_}⟩;have h:(bZ (gb kn)<|.inr z).isSome=true:=h;have Sm:(iE kn z).isSome=true:=isS ▸ h;obtain⟨vs,V6⟩:=Option.isSome_iff_exists.mp Sm;refine !{_,_,Df,e1,by decide,_,rfl,bX (λ_=>?_) λ_=>?_};refine !{lk,gb kn,rfl,c_,_,rfl,gb kn,.inr z,.tup vs,c_,rfl,by rw[nH,V6];rfl,?_};rw[Jp];exact !{n2,fin (.inr<|.inr ⟨z,hz,Sm,rfl⟩) (.inr ⟨z,Sm,rfl,rfl⟩)<|hI.del z};refine{n2,λp hp=>!!⟨.inr {gb kn,.inr z,(Sub.new hp) _ _ c_,rfl,?_}⟩};rw[h];refine .inr !{_,_,aa,(show mD _ 1=some _ from rfl),S2,.new hp,?_};refine !!!{lk,gb kn,.inr z,rfl,c_,rfl,hl,?_};rw[Jo];exact !!!{n3,fin (.inr<|.inl ⟨z,ws,hz,hw,Sm,rfl⟩) (.inl {_,z,ws,.inr rfl,rfl,rfl})<|hI.put hz hw};have h:(bZ (gb kn)<|.inr z).isSome=false:=h;have YN:iE kn z=none:=by cases e:iE kn z with|none=>rfl|some _=>rw[isS,e]at h;cases h
 refine a_ {n2,λp hp=>!!⟨.inr {gb kn,.inr z,(Sub.new hp) _ _ c_,rfl,?_}⟩};rw[h];refine .inr !{_,_,aa,(show mD _ 0=some _ from rfl),S2,.new hp,?_};refine !!!{lk,gb kn,.inr z,rfl,c_,rfl,hl,?_};rw[Jo];exact !!!{n3,fin (.inl ⟨z,ws,hz,hw,YN,rfl⟩) (.inl {_,z,ws,.inl rfl,rfl,rfl})<|hI.put hz hw}
inductive Bd (ds:List D) (S:au) (R:KD) (Z:KX):Prop where
 |mk (cs:List<|Str×Str) (lk:Addr) (kn:Kn) (h0:ds=[.ref lk]) (h1:S lk=some (.cO<|gb kn)) (h2:KI cs kn) (h3:∀ss p,ss.Perm (kn.map (·.1))->PyProof.Rows.sortedS ss=true->S p=none->R (.ref p) (S.set p<|.lst<|(iD kn ss).map ah))
theorem JV(T:Txt w K mg t):Ok P w base T.CM 1 Bd:=by
 refine T.CM.F.bG Gs ?_;obtain⟨cs,lk,kn,e,hk,hI,q⟩;have V5:=hI.len;refine{_,(s1<|sr<|vd (N:=["_law_key_here","_law_standing"]) (src:=[none,some 0]) (kD (ae IV) ["_law_standing"] rfl rfl<|by trivial) (il<|cb sD T.fQ eE<|al 0 an) (pT<|show(["_law_key_here","_law_standing"]:List Str).Nodup by trivial) (aU rfl) aV (λ_ _ _ _ _=>sC) λ_ _ _ _ _=>(cN<|al 0<|ac (ix hr.u (dv 1)<|dv 0) an)),?_};refine !{lk,gb kn,kn.map (·.1),rfl,hk,by unfold gb;rw[zx,zx];rfl,by unfold gb;rw[za];lia,λss hp hs p kX=>?_};have hlen:ss.length<=60:=by rw[hp.length_eq,za];exact V5
 refine{_,aa,?_};refine comp_map (λd=>match d with|.str z=>.tup [.str z,ud kn z]|_=>.av) aa (by show(ss.map D.str).length<=1000;rw[za];lia) (λd hd Q hQ=>?_) λp2 hG=>?_;obtain⟨z,hz,rfl⟩:=zg.mp hd;obtain⟨ws,GS⟩:=mr<|hp.mem_iff.mp hz;have hQ:Q (.tup [.str z,ud kn z]) (S.set p<|.lst<|ss.map D.str):=hQ;have e1:bZ (gb kn) (.inr z)=some (ud kn z):=by rw[nH];unfold ud;rw[GS];rfl
 exact !!!{gb kn,_,(Sub.new kX) _ _ hk,e1,cG,hQ};have em:(ss.map D.str).map (λd=>match d with|.str z=>D.tup [.str z,ud kn z]|_=>.av)=(iD kn ss).map ah:=by rw[vM hp,zx];rfl
 rw[show({ss.map D.str,λS=>we S (.ref p)<|ss.map D.str}:q9).xs=ss.map D.str from rfl,em];exact{_,cz<|.new kX,q ss p2 hp hs<|cn (.new kX) hG}
structure aay(t:fk)(ds:List D)(S:au)(R:KD)(Z:KX):Prop where
 of:Oh t ds S R Z
noncomputable def Fs(lk lm:Addr)(kn:Kn)(ce:VZ):List (Addr×Ce):=(lk,.cO<|gb kn)::(lm,.lst<|ce.map λx=>D.ref x.1)::ce.map V0
structure Bt(t:fk)(S0:au)(a lk lm:Addr)(cs:List (Str×Str))(kn:Kn)(ce:VZ)(F:List Addr)(dl:List D)(rs:jx)(S:au):Prop where
 st:St t S0 a (Fs lk lm kn ce) F cs dl rs S
 ki:KI cs kn
 ri:RI rs dl.length kn
 hi:HI rs cs dl.length (ce.map Prod.snd)
 le:dl.length<=89
inductive vS (t:fk) (ds:List D) (S:au) (R:KD) (Z:KX):Prop where
 |mk (cs:List<|Str×Str) (l:Addr) (ms:List Int) (h0:ds=[.tup<|cs.map aA,.ref l]) (h1:Gd cs) (h2:S l=some (.lst<|ms.map D.int)) (h3:ms.length<=30) (h4:∀S' a lk lm kn ce F dl rs,Bt t S a lk lm cs kn ce F dl rs S'->R (.tup [.ref a,.ref lm,.ref lk]) S')
theorem JW(T:Txt w K mg t):Ok P w base T.wV 8 (vS t):=by
 have JX:Ok P w base T.wR 7 (aay t):=(ME T).Qo λds S R Z h=>h.of;refine T.wV.F.bG cU ?_;obtain⟨cs,l,ms,e,hg,hl,h30,q⟩;refine{_,(sc (bO (i:=2) cU.nd<|mk T.Jc (Mw T) (hr.mono<|by decide) T.Jb T.fS.b d0<|al 0 an)<|sc (bO (i:=3) cU.nd Up)<|sc (bO (i:=4) cU.nd<|cB<|ac (cB an) an)<|sc (bO (i:=5) cU.nd<|cB an)<|sc (Bv<|Ko (il<|IQ (dv 1) o0<|o1 di) (gn (i:=6) cU.nd)<|s1<|si (bq bA hr.u (bo ba hr.u (dv 6) di) di) (s1<|Kq (i:=5) (N:=["_law_k","_law_cell"]) (src:=[none,some 6]) cU.nd (kD (ae Ge) ["_law_columns_here","_law_cells","_law_shelf","_law_standing","_law_moments","_law_more","_law_cell"] rfl rfl<|by trivial) (NO T.gD<|ac (bo bf hr.u di<|bo ba hr.u (bo bR hr.u (dv 6) di) di) an) (pT<|show(["_law_k","_law_cell"]:List Str).Nodup by trivial) (aU rfl) aV (λ_ _ _ _ _=>sC) λ_ _ _ _ _=>(bo bf hr.u (bo bR hr.u (dv 1) di)<|bo sy hr.u di<|dv 0)) s0)<|sc (Bv<|Ko (il<|bo bf hr.u (dv 5)<|dv 1) (gn (i:=6) cU.nd)<|sc (se<|aT T.wR JX hr<|al 2<|ac (aT T.CL (JU T) hr<|al 0<|al 3<|al 6 an) an)<|s1<|se<|bm zN zV zW cC (dv 4)<|ac (aT T.CM (JV T) hr<|al 3 an) an)<|s1<|sr<|cN<|al 2<|al 4<|al 3 an),?_};refine{_,rfl,λa ha=>{a,cs,rfl,hg,aa,λS1 F1 AS VD=>{rfl,?_}}};have aaz:Xl S F1 S1:=λb c hb=>by have h2:b≠a:=ib hb ha;exact VD b c (λm=>h2<|zE.mp m)<|(ag h2).trans hb
 have st0:St t S a [] F1 cs [] [] S1:={AS,λ_ h=>(nomatch h),.nil,aaz};refine λlk ZA=>?_;have E6:=st0.new ZA<|.cO [];generalize S1.set lk (.cO [])=SA at E6⊢;refine{mm,λq0 hq0=>{uE,λlm hlm=>?_}};have Bp:=(E6.new hq0<|.lst []).new hlm<|.lst [.ref q0];generalize (SA.set q0<|.lst []).set lm (.lst [.ref q0])=SB at Bp⊢;have Bq:St t S a (Fs lk lm [] [(q0,[])]) F1 cs [] [] SB:=Bp.perm<|.cons _<|.swap _ _ _;refine{mm,λle hle=>?_};have sb0:=Sub.new (c:=.lst []) hle;have V7:(SB.set le<|.lst []) le=some (.lst []):=aa;have Se:=sb0 _ _<|Bq.Du.sub _ _ hl;generalize SB.set le (.lst [])=SC at sb0 V7 Se⊢;refine{λaI S'=>∃(lx:Addr)(ys:List Int)(o6:Option D),aI=[some<|.tup<|cs.map aA,some<|.ref l,some<|.ref a,some<|.ref lk,some<|.ref lm,some<|.ref lx,o6]/\Sub SC S'/\S' lx=some (.lst<|ys.map D.int)/\ys.length<=59,?_,?_};refine !!{_,Se,λp1 vJ=>{_,aa,?_}};have Q9:=Sub.new (c:=.lst<|bK (ms.map D.int) none<|some 1) vJ;have MY:(SC.set p1<|.lst<|bK (ms.map D.int) none<|some 1) p1=some (.lst<|bK (ms.map D.int) none<|some 1):=aa;generalize SC.set p1 (.lst<|bK (ms.map D.int) none<|some 1)=SD at Q9 MY⊢;rw[kl]at MY⊢;generalize bK ms none (some 1)=m1 at MY⊢;refine{λi aI S'=>∃(lx:Addr)(ys:List Int)(o6:Option D),aI=[some<|.tup<|cs.map aA,some<|.ref l,some<|.ref a,some<|.ref lk,some<|.ref lm,some<|.ref lx,o6]/\Sub SD S'/\S' lx=some (.lst<|ys.map D.int)/\ys.length<=59,{le,[],none,rfl,.refl _,Q9 _ _ V7,zT _},?_,?_,?_};rintro i aI S' ⟨_,_,_,_,sb,_⟩;exact sb _ _ MY;rintro i d aI S' hd ⟨lx,ys,o6,rfl,sb,hx,hy⟩;have hd:(m1.map D.int)[i]?=some d:=hd;obtain⟨c,_,rfl⟩:=zg.mp<|zy hd;refine !{by decide,_,rfl,bX (λ_=>?_) λ_=>{lx,ys,_,rfl,sb,hx,hy}};have b0:0<=c/8%40:=zL _ (by decide);have b1:c/8%40<40:=zJ _ (by decide);refine{_,rfl,{by decide,by trivial},by decide,_,rfl,by lia,by lia,?_};refine iu (λ_ v=>∃x:Int,v=.int x) trivial (by show(dQ 0 _).length<=_;rw[b_];lia) (λd hd Q hQ=>?_) λout ur p kX=>?_;obtain⟨j,hj⟩:=yp hd;obtain⟨_,rfl⟩:=cP hj;exact{_,rfl,{by decide,by trivial},_,rfl,.inl<|by decide,hQ _ {_,rfl}};have hlen:=yH ur;have:∀{L out:List D},Paired (λ_ v=>∃x:Int,v=D.int x) L out->∃xs:List Int,out=xs.map D.int:=λ{L out} h=>by induction h with|nil=>exact{[],rfl}|cons r _ ih=>obtain⟨x,rfl⟩:=r;obtain⟨xs,rfl⟩:=ih;exact{x::xs,rfl}
 obtain⟨zs,rfl⟩:=this ur;rw[za]at hlen;have hlen:(dQ 0 (20+c/8%40).toNat).length=zs.length:=hlen;rw[b_]at hlen;exact{p,zs,_,rfl,sb.trans<|.new kX,aa,by lia};rintro aI S' ⟨lx,ys,o6,rfl,sb,r⟩;exact fo {lx,ys,o6,rfl,Q9.trans sb,r};rintro aI S2 ⟨lx,ys,o6,rfl,Kk,hx,hy⟩;have Sn:=(Bq.sub sb0).sub Kk;refine{λaI S'=>∃(kn:Kn)(ce:VZ)(F:List Addr)(dl:List D)(rs:jx)(o6:Option D),aI=[some<|.tup<|cs.map aA,some<|.ref l,some<|.ref a,some<|.ref lk,some<|.ref lm,some<|.ref lx,o6]/\Bt t S a lk lm cs kn ce F dl rs S',?_,?_};refine !!{_,_,hx,Kk _ _ Se,sm<|by rw[za,za];lia,λlz hlz=>{_,aa,?_}};rw[<-zG];have ZJ:(ys++ms).length<=89:=by rw[zt];lia
 generalize ys++ms=zs at ZJ⊢;have Kj:St t S a ((lz,.lst<|zs.map D.int)::Fs lk lm [] [(q0,[])]) F1 cs [] [] (S2.set lz<|.lst<|zs.map D.int):=(Sn.new hlz _).perm (List.perm_append_singleton _ _).symm;generalize S2.set lz (.lst<|zs.map D.int)=S3 at Kj⊢;refine{λi aI S'=>∃(kn:Kn)(ce:VZ)(F:List Addr)(dl:List D)(rs:jx)(o6:Option D),aI=[some<|.tup<|cs.map aA,some<|.ref l,some<|.ref a,some<|.ref lk,some<|.ref lm,some<|.ref lx,o6]/\dl.length=i/\St t S a ((lz,.lst<|zs.map D.int)::Fs lk lm kn ce) F cs dl rs S'/\KI cs kn/\RI rs dl.length kn/\HI rs cs dl.length (ce.map Prod.snd),?_,?_,?_,?_};refine{[],[(q0,[])],F1,[],[],_,rfl,rfl,Kj,KI.nil cs,RI.nil,rfl,λm rows e=>?_};cases m with|zero=>(cases e;exact{[],[],rfl,KI.nil cs,.refl _,rfl,λz=>rfl})|succ m=>simp at e
 rintro i aI S' ⟨_,_,_,_,_,_,_,_,st,_⟩;exact st.at 0 rfl;rintro i d aI S' hd ⟨kn,ce,F,dl,rs,o6,rfl,Ac,st,hI,hR,hH⟩;have hd:(zs.map D.int)[i]?=some d:=hd;have hi:=(ze.mp hd).1;rw[za]at hi;obtain⟨c,_,rfl⟩:=zg.mp<|zy hd;refine !!!!{cs,lk,kn,c,rfl,hg,st.at 1 rfl,hI,λde fu hde VJ MZ=>?_};have Rr:St t S a ((lz,.lst<|zs.map D.int)::Fs lk lm fu ce) F cs dl rs _:=st.put 1 rfl<|.cO<|gb fu;generalize S'.set lk (.cO<|gb fu)=S6 at Rr⊢;refine⟨(GW Rr.sh hg hI hR (by lia) hde VJ λS7 F7 rs7 hS7 hK7 hR7 hold=>?_).of⟩;have Hg:=Rr.VY hS7 hK7;have hM:=Hg.at 2 rfl;have Bs:(ce.map λx=>D.ref x.1).length<sizeLine:=bg (by have:=hH.1;rw[za]at this⊢;lia);refine{_,rfl,{rfl,_,hM},_,rfl,cs,lk,fu,rfl,Hg.at 1 rfl,MZ,λss p hp ho kX=>?_};refine{lm,_,_,rfl,rfl,(Sub.new kX) _ _ hM,Bs,?_};have M0:=(Hg.new kX<|.lst<|(iD fu ss).map ah).put 2 rfl<|.lst<|(ce.map λx=>D.ref x.1)++[.ref p];refine{fu,ce++[(p,iD fu ss)],F7,dl++[de],rs7,_,rfl,by rw[zt,Ac];rfl,?_,MZ,by rw[zt];exact hR7,?_};unfold Fs;rw[zG,zG];exact M0;rw[zt,zG];exact hH.step hold MZ hR7 hp ho;rintro aI S' ⟨kn,ce,F,dl,rs,o6,rfl,Ac,st,hI,hR,hH⟩;have Ac:dl.length=(zs.map D.int).length:=Ac;rw[za]at Ac;exact fo {kn,ce,F,dl,rs,o6,rfl,st.less (yo.mp st.nd).2 λx hx=>zi _ hx,hI,hR,hH,by lia};rintro aI S' ⟨kn,ce,F,dl,rs,o6,rfl,hb⟩;exact !!!{uF,fo<|q _ _ _ _ _ _ _ _ _ hb}
theorem Ru{cs:List<|Str×Str}{ps:List Part}{g:vO}(h:Gp cs ps g){S:au} : Ly S 3 (pG g):=by
 have hs:PyData.strOk g.2.2=true:=by have:=h.side;unfold A_ at this;rw[Bool.or_eq_true]at this;rcases this with q|q<;>rw[zC q]<;>decide +kernel
 refine Ly.tup λx hx=>?_;simp only[zh,zM,or_false]at hx;rcases hx with rfl|rfl;refine Ly.tup λx hx=>?_;simp only[zh,zM,or_false]at hx;rcases hx with rfl|rfl;refine Ly.tup λx hx=>?_;obtain⟨i,ei⟩:=yp hx;obtain⟨k,_,hv⟩:=cW h.pv ei;exact Ly.plain hv.2;exact(Ly.str (f_ _ h.key).2.2).le (by decide);exact(Ly.str hs).le<|by decide
theorem V8{S:au}{ds:List D}{z:Str}{R:KD}(h:Ly S 3<|.tup ds)(hz:PyData.strOk z=true)(q:R (.bl false) S):Eh false (.tup ds) (.str z) S R:=by obtain⟨p,a,b,c⟩:=h;simp only[Dp]at a;obtain⟨ps,rfl,k⟩:=a;refine{.tuple ps,.str z,by simp only[Dl,Dp];exact⟨ps,rfl,k⟩,by simp only[Dl,Dp],b,by simp only[PyData.canLay0];exact hz,.inl<|by lia,?_};rw[if_neg zd,show PyData.eqv (.tuple ps) (.str z)=false by simp only[PyData.eqv]];exact q
theorem Ox{S:au}{σ:SD}{ds:List D}{z:Str}{R:KD}{Z:KX}(h:Ly S 3<|.tup ds)(hz:PyData.strOk z=true)(q:R (.bl false) S):dC (.str z) σ S (λy S2=>Eh false (.tup ds) y S2 R) Z:=V8 h hz q
set_option genInjectivity true in
set_option genSizeOfSpec true in
inductive Sd where
 |s
 |e
 |g (g:vO)
noncomputable def Oy:Sd->D|.s=>.str "start"|.e=>.str "end"|.g g=>pG g
noncomputable def vT(cs:List<|Str×Str)(ps:List Part)(wy:Str)(A:List Row):Sd->Nat|.s=>0|.e=>A.length|.g g=>A.countP<|gP cs ps wy g
def KA(cs:List<|Str×Str)(ps:List Part):Sd->Prop|.g g=>Gp cs ps g|_=>True
theorem JY:∀s,vT cs ps wy A s<=A.length|.s=>zT _|.e=>zr _|.g _=>List.countP_le_length
structure Wk where
 (w a:Addr)
 ps:List Part
 wy:Str
 d:D
 n:Nat
 (f h:Sd)
noncomputable def ue(C:Addr)(q:Wk):Ce:=.ins C [("shelf",.ref q.a),("order",dw q.ps q.wy),("sieve",q.d),("size",.int (q.n:Nat)),("fore",Oy q.f),("hinder",Oy q.h)]
noncomputable def pH(cs:List<|Str×Str)(ps:List Part)(rows:List Row)(s:Sd):Sd×Sd:=match rows[0]?,rows[rows.length-1]? with|some r0,some r1=>(.g<|EZ cs ps "ahead" r0,.g<|EZ cs ps "behind" r1)|_,_=>(s,s)
noncomputable def So(cs:List<|Str×Str)(ps:List Part)(wy:Str)(A:List Row)(s:Sd)(n:Nat):Nat×Nat:=(vT cs ps wy A s,tW A (vT cs ps wy A s) n)
noncomputable def Sr(cs:List<|Str×Str)(ps:List Part)(wy:Str)(A:List Row)(s:Sd)(n:Nat):Nat×Nat:=(vT cs ps wy A s-n,vT cs ps wy A s)
inductive lO (ds:List D) (S:au) (R:KD) (Z:KX):Prop where
 |mk (cs:List<|Str×Str) (ps:List Part) (wy:Str) (p:Addr) (rows:List Row) (b c:Nat) (s:Sd) (h0:ds=[.tup<|cs.map aA,dw ps wy,GY p b c,Oy s]) (h1:Gd cs) (h2:Pin cs ps) (h3:ps.length<=8) (h4:S p=some (.lst<|rows.map ah)) (h5:∀r∈rows,Wg cs r.2) (h6:R (.tup [Oy (pH cs ps rows s).1,Oy (pH cs ps rows s).2]) S)
theorem tY(T:Txt w K mg t):Ok P w base T.jY 5 lO:=by refine T.jY.F.bG j0 ?_;obtain⟨cs,ps,wy,p,rows,b,c,s,e,hg,hp,h8,hS,hw,q⟩;refine{_,(sc (bO (i:=4) j0.nd<|aT T.rq (tX T) hr<|al 0<|al 1<|al 2 an)<|s1<|sr<|LP (bq jr hr.u (dv 4) dn) (cN<|al 3<|al 3 an)<|dv 4),?_};refine !!!{cs,ps,wy,p,rows,b,c,rfl,hg,hp,h8,hS,hw,λz=>?_,λr0 r1 q0 q1=>?_};subst z;exact !!⟨dG !!{cG,fo q}⟩;unfold pH at q;rw[q0,q1]at q;exact !!⟨a_ !⟨fo q⟩⟩
inductive qv (t:fk) (ds:List D) (S:au) (R:KD) (Z:KX):Prop where
 |mk (k a:Addr) (cs:List<|Str×Str) (ps:List Part) (wy:Str) (d:D) (n:Nat) (F:List Addr) (dl:List D) (rs:jx) (h0:ds=[.ref k,.ref a,dw ps wy,d,.int (n:Nat)]) (h1:Gd cs) (h2:Og cs ps wy) (h3:Sq cs d) (h4:1<=n) (h5:n<=1000) (h6:cq t.ak S a F cs dl rs) (h7:S k=some (.ins t.aG [])) (h8:R .av<|S.set k<|ue t.aG {k,a,ps,wy,d,n,.s,.s})
theorem JZ(T:Txt w K mg t):rh P w mg base T.gX 7 (qv t):=by refine T.gX.F.bG oS ?_;obtain⟨k,a,cs,ps,wy,d,n,F,dl,rs,e,hg,ho,hd,h1,h2,hS,hk,q⟩;obtain⟨ld,lr,ra,h,_⟩:=id hS;refine{_,(sc (se<|aT T.eU (gk T) hr<|ac (fI (dv 1) T.aj T.az (aN T) hr)<|al 2 an)<|sc (se<|aT T.eV (gm T) hr<|ac (fI (dv 1) T.aj T.az (aN T) hr)<|al 3 an)<|sc (se<|aT T.iV (lK T) hr<|al 4 an)<|sc (sf T.aD T.eQ (dv 0)<|dv 1)<|sc (sf T.aD T.eR (dv 0)<|dv 2)<|sc (sf T.aD T.lq (dv 0)<|dv 3)<|sc (sf T.aD T.iP (dv 0)<|dv 4)<|sc (sf T.aD T.fm (dv 0)<|dg (v:=.str "start") T.sS {_,rfl} λ_=>fF _)<|s1<|sf T.aD T.dS (dv 0)<|dg (v:=.str "start") T.sS {_,rfl} λ_=>fF _),?_};refine !{a,_,rfl,h.ins,rfl,a,F,cs,dl,rs,rfl,hS,_,rfl,cs,ps,wy,rfl,hg,ho.tx,λ_=>?_,λz=>tf ho.ok z};refine !{a,_,rfl,h.ins,rfl,a,F,cs,dl,rs,rfl,hS,_,rfl,cs,d,rfl,hg,hd,?_};refine !!{by lia,by lia,?_};refine !!{k,_,rfl,hk,(show 0<1000 by decide),?_};refine !!{k,_,rfl,aa,(show 1<1000 by decide),?_};refine !!{k,_,rfl,aa,(show 2<1000 by decide),?_};refine !!{k,_,rfl,aa,(show 3<1000 by decide),?_};refine !{k,_,rfl,aa,(show 4<1000 by decide),?_};refine !{k,_,rfl,aa,(show 5<1000 by decide),?_};rw[bj,bj,bj,bj,bj];exact fo q
inductive qw (t:fk) (ds:List D) (S:au) (R:KD) (Z:KX):Prop where
 |mk (q:Wk) (l:Addr) (s:Sd) (A:List Row) (cs:List<|Str×Str) (F:List Addr) (dl:List D) (rs:jx) (h0:ds=[.ref q.w,.ref l,Oy s]) (h1:S q.w=some (ue t.aG q)) (h2:Gd cs) (h3:Og cs q.ps q.wy) (h4:cq t.ak S q.a F cs dl rs) (h5:S l=some (.lst<|A.map ah)) (h6:An cs q.ps q.wy A) (h7:KA cs q.ps s) (h8:R (.int (vT cs q.ps q.wy A s:Nat)) S)
theorem nZ(T:Txt w K mg t):rh P w mg base T.bN 6 (qw t):=by refine T.bN.F.bG mj ?_;obtain⟨k,l,s,A,cs,F,dl,rs,e,hk,hg,ho,hS,hl,hA,hs,q⟩;obtain⟨ld,lr,ra,h,_⟩:=id hS;refine{_,(sc (si (bq bA hr.u (dv 2)<|dg (v:=.str "start") T.sS {_,rfl} λ_=>fF _) (s1<|sr di) s0)<|sc (si (bq bA hr.u (dv 2)<|dg (v:=.str "end") T.QP {_,rfl} λ_=>fF _) (s1<|sr<|cb aQ T.aM aE<|al 1 an) s0)<|s1<|sr<|aT T.cR (cY T) hr<|ac (fI (fl T.aD T.eQ<|dv 0) T.aj T.az (aN T) hr)<|ac (fl T.aD T.eR<|dv 0)<|al 1<|al 2 an),?_};cases s with|s=>exact (!!⟨qg (by trivial)<|fo q⟩)|e=>refine !!⟨bL (by trivial) !!⟨qg (by trivial) !!⟨.inl {_,hl,?_}⟩⟩⟩;rw[za];exact fo q|g g=>have Xp:=Ru hs (S:=S);exact{_,rfl,Ox Xp (by trivial) !⟨a_ !⟨Ox Xp (by trivial) !⟨a_ !{k.w,_,_,rfl,hk,rfl,k.a,_,rfl,h.ins,rfl,k.a,F,cs,dl,rs,rfl,hS,_,rfl,k.w,_,_,rfl,hk,rfl,_,rfl,_,rfl,cs,k.ps,k.wy,A,l,g,rfl,hg,ho.pin,ho.len,hl,hA,hs,fo q}⟩⟩⟩}
inductive n5 (t:fk) (ds:List D) (S:au) (R:KD) (Z:KX):Prop where
 |mk (q:Wk) (p:Addr) (b c:Nat) (s:Sd) (rows:List Row) (cs:List<|Str×Str) (F:List Addr) (dl:List D) (rs:jx) (h0:ds=[.ref q.w,GY p b c,Oy s]) (h1:S q.w=some (ue t.aG q)) (h2:Gd cs) (h3:Og cs q.ps q.wy) (h4:cq t.ak S q.a F cs dl rs) (h5:S p=some (.lst<|rows.map ah)) (h6:∀r∈rows,Wg cs r.2) (h7:R .av<|S.set q.w<|ue t.aG {q.w,q.a,q.ps,q.wy,q.d,q.n,(pH cs q.ps rows s).1,(pH cs q.ps rows s).2})
theorem vU(T:Txt w K mg t):rh P w mg base T.cI 6 (n5 t):=by refine T.cI.F.bG eX ?_;obtain⟨k,p,b,c,s,rows,cs,F,dl,rs,e,hk,hg,ho,hS,hp,hw,q⟩;obtain⟨ld,lr,ra,h,_⟩:=id hS;refine{_,(sc (bO (i:=3) eX.nd<|aT T.jY (tY T) hr<|ac (fI (fl T.aD T.eQ<|dv 0) T.aj T.az (aN T) hr)<|ac (fl T.aD T.eR<|dv 0)<|al 1<|al 2 an)<|sc (sf T.aD T.fm (dv 0)<|ix hr.u (dv 3) di)<|s1<|sf T.aD T.dS (dv 0)<|ix hr.u (dv 3) di),?_};refine !{k.w,_,_,rfl,hk,rfl,k.a,_,rfl,h.ins,rfl,k.a,F,cs,dl,rs,rfl,hS,_,rfl,k.w,_,_,rfl,hk,rfl,_,rfl,_,rfl,cs,k.ps,k.wy,p,rows,b,c,s,rfl,hg,ho.pin,ho.len,hp,hw,?_};refine !!!{k.w,_,rfl,hk,(show 6<1000 by decide),?_};refine !!!{k.w,_,rfl,aa,(show 6<1000 by decide),?_};rw[bj];exact fo q
inductive lP (t:fk) (ds:List D) (S:au) (R:KD) (Z:KX):Prop where
 |mk (q:Wk) (cs:List<|Str×Str) (rows:List Row) (h0:ds=[.ref q.w]) (h1:S q.w=some (ue t.aG q)) (h2:Qs t S q.a cs q.ps q.wy q.d .av rows) (h3:∀(A:List Row)(p:Addr),xE cs q.ps q.wy 7 q.d rows A->S p=none->R (.ref p) (S.set p<|.lst<|A.map ah))
theorem mB(T:Txt w K mg t)(B:Bm mg base):rh P w mg base T.cE 13 (lP t):=by refine T.cE.F.bG mi ?_;obtain⟨k,cs,rows,e,hk,hq,q⟩;refine{_,(s1<|sr<|aT T.cg (cL T B) hr<|ac (fl T.aD T.eQ<|dv 0)<|ac (fl T.aD T.eR<|dv 0)<|ac (fl T.aD T.lq<|dv 0)<|ac dn an),?_};exact !{k.w,_,_,rfl,hk,rfl,_,rfl,k.w,_,_,rfl,hk,rfl,_,rfl,k.w,_,_,rfl,hk,rfl,k.a,cs,k.ps,k.wy,k.d,.av,rows,rfl,hq.g,hq.o,hq.s,hq.v,hq.t,λA l pm pw hl=>fo<|q A l (xG hq.v.rg hq.k pm pw) hl}
inductive kr (t:fk) (f:List (Str×Str)->List Part->Str->List Row->Sd->Nat->Nat×Nat) (ds:List D) (S:au) (R:KD) (Z:KX):Prop where
 |mk (q:Wk) (s:Sd) (cs:List<|Str×Str) (rows:List Row) (h0:ds=[.ref q.w,Oy s]) (h1:S q.w=some (ue t.aG q)) (h2:Qs t S q.a cs q.ps q.wy q.d .av rows) (h3:KA cs q.ps s) (h4:∀(A:List Row)(p:Addr)(b e:Nat),xE cs q.ps q.wy 7 q.d rows A->S p=none->f cs q.ps q.wy A s q.n=(b,e)->R (GY p b<|A.length-e) ((S.set p<|.lst<|(seg A b e).map ah).set q.w<|ue t.aG {q.w,q.a,q.ps,q.wy,q.d,q.n,(pH cs q.ps (seg A b e) s).1,(pH cs q.ps (seg A b e) s).2}))
theorem Be(T:Txt w K mg t)(B:Bm mg base):rh P w mg base T.iZ 14 (kr t So):=by refine T.iZ.F.bG fc ?_;obtain⟨k,s,cs,rows,e,hk,hq,hs,q⟩;obtain⟨F,dl,rs,hS,_⟩:=hq.v.sh;refine{_,(sc (bO (i:=2) fc.nd<|fI (dv 0) T.aD T.cE (mB T B) hr)<|sc (bO (i:=3) fc.nd<|aT T.kI (nX T) hr<|al 2<|ac (oG (dv 0) T.aD T.bN (nZ T) hr<|al 2<|al 1 an)<|ac (fl T.aD T.iP<|dv 0) an)<|sc (se<|oG (dv 0) T.aD T.cI (vU T) hr<|al 3<|al 1 an)<|s1<|sr<|dv 3),?_};refine !{k.w,_,rfl,hk,rfl,k,cs,rows,rfl,hk,hq,λA l hA hl=>?_};have s1:=Sub.new (c:=.lst<|A.map ah) hl;have A1:(S.set l<|.lst<|A.map ah) l=some (.lst<|A.map ah):=aa;generalize S.set l (.lst<|A.map ah)=S1 at s1 A1⊢;have sF:=s1 _ _ hk;refine !!{k.w,_,rfl,sF,rfl,_,rfl,_,rfl,k,l,s,A,cs,F,dl,rs,rfl,sF,hq.g,hq.o,hS.sub s1,A1,hA.an,hs,_,rfl,k.w,_,_,rfl,sF,rfl,l,A,_,k.n,rfl,A1,JY s,λp hp=>?_};have NP:=(Sub.new (c:=.lst<|(seg A (So cs k.ps k.wy A s k.n).1 (So cs k.ps k.wy A s k.n).2).map ah) hp) _ _ sF;exact !{k.w,_,rfl,NP,rfl,_,rfl,_,rfl,k,p,_,_,s,seg A (So cs k.ps k.wy A s k.n).1 (So cs k.ps k.wy A s k.n).2,cs,F,dl,rs,rfl,NP,hq.g,hq.o,(hS.sub s1).sub<|.new hp,aa,λr hr=>hA.an.rg.1 r<|kL hr,_,rfl,_,cz<|cz s1,q A p _ _ hA (cn s1 hp) rfl}
theorem uM(T:Txt w K mg t)(B:Bm mg base):rh P w mg base T.fT 14 (kr t Sr):=by refine T.fT.F.bG dY ?_;obtain⟨k,s,cs,rows,e,hk,hq,hs,q⟩;obtain⟨F,dl,rs,hS,_⟩:=hq.v.sh;refine{_,(sc (bO (i:=2) dY.nd<|fI (dv 0) T.aD T.cE (mB T B) hr)<|sc (bO (i:=3) dY.nd<|aT T.iT (lN T) hr<|al 2<|ac (oG (dv 0) T.aD T.bN (nZ T) hr<|al 2<|al 1 an)<|ac (fl T.aD T.iP<|dv 0) an)<|sc (se<|oG (dv 0) T.aD T.cI (vU T) hr<|al 3<|al 1 an)<|s1<|sr<|dv 3),?_};refine !{k.w,_,rfl,hk,rfl,k,cs,rows,rfl,hk,hq,λA l hA hl=>?_};have s1:=Sub.new (c:=.lst<|A.map ah) hl;have A1:(S.set l<|.lst<|A.map ah) l=some (.lst<|A.map ah):=aa;generalize S.set l (.lst<|A.map ah)=S1 at s1 A1⊢;have sF:=s1 _ _ hk;refine !!{k.w,_,rfl,sF,rfl,_,rfl,_,rfl,k,l,s,A,cs,F,dl,rs,rfl,sF,hq.g,hq.o,hS.sub s1,A1,hA.an,hs,_,rfl,k.w,_,_,rfl,sF,rfl,l,A,_,k.n,rfl,A1,JY s,λp hp=>?_};have NP:=(Sub.new (c:=.lst<|(seg A (Sr cs k.ps k.wy A s k.n).1 (Sr cs k.ps k.wy A s k.n).2).map ah) hp) _ _ sF;exact !{k.w,_,rfl,NP,rfl,_,rfl,_,rfl,k,p,_,_,s,seg A (Sr cs k.ps k.wy A s k.n).1 (Sr cs k.ps k.wy A s k.n).2,cs,F,dl,rs,rfl,NP,hq.g,hq.o,(hS.sub s1).sub<|.new hp,aa,λr hr=>hA.an.rg.1 r<|kL hr,_,rfl,_,cz<|cz s1,q A p _ _ hA (cn s1 hp) rfl}
inductive pI (t:fk) (f:List (Str×Str)->List Part->Str->List Row->Sd->Nat->Nat×Nat) (g:Wk->Sd) (ds:List D) (S:au) (R:KD) (Z:KX):Prop where
 |mk (q:Wk) (cs:List<|Str×Str) (rows:List Row) (h0:ds=[.ref q.w]) (h1:S q.w=some (ue t.aG q)) (h2:Qs t S q.a cs q.ps q.wy q.d .av rows) (h3:KA cs q.ps<|g q) (h4:∀(A:List Row)(p:Addr)(b e:Nat),xE cs q.ps q.wy 7 q.d rows A->S p=none->f cs q.ps q.wy A (g q) q.n=(b,e)->R (GY p b<|A.length-e) ((S.set p<|.lst<|(seg A b e).map ah).set q.w<|ue t.aG {q.w,q.a,q.ps,q.wy,q.d,q.n,(pH cs q.ps (seg A b e)<|g q).1,(pH cs q.ps (seg A b e)<|g q).2}))
theorem DF(T:Txt w K mg t)(B:Bm mg base):rh P w mg base T.nh 15 (pI t So Wk.h):=by refine T.nh.F.bG CZ ?_;obtain⟨k,cs,rows,e,hk,hq,hs,q⟩;refine{_,(s1<|sr<|oG (dv 0) T.aD T.iZ (Be T B) hr<|ac (fl T.aD T.dS<|dv 0) an),?_};exact !{k.w,_,rfl,hk,rfl,_,rfl,k.w,_,_,rfl,hk,rfl,k,k.h,cs,rows,rfl,hk,hq,hs,λA p b e hA hp he=>fo<|q A p b e hA hp he}
theorem J1(T:Txt w K mg t)(B:Bm mg base):rh P w mg base T.oQ 15 (pI t Sr Wk.f):=by refine T.oQ.F.bG xc ?_;obtain⟨k,cs,rows,e,hk,hq,hs,q⟩;refine{_,(s1<|sr<|oG (dv 0) T.aD T.fT (uM T B) hr<|ac (fl T.aD T.fm<|dv 0) an),?_};exact !{k.w,_,rfl,hk,rfl,_,rfl,k.w,_,_,rfl,hk,rfl,k,k.f,cs,rows,rfl,hk,hq,hs,λA p b e hA hp he=>fo<|q A p b e hA hp he}
inductive n6 (t:fk) (ds:List D) (S:au) (R:KD) (Z:KX):Prop where
 |mk (q:Wk) (cs:List<|Str×Str) (rows:List Row) (h0:ds=[.ref q.w]) (h1:S q.w=some (ue t.aG q)) (h2:Qs t S q.a cs q.ps q.wy q.d .av rows) (h3:KA cs q.ps q.f) (h4:KA cs q.ps q.h) (h5:∀(A:List Row)(p:Addr),xE cs q.ps q.wy 7 q.d rows A->S p=none->R (.ref p) (S.set p<|.lst<|bK (A.map ah) (some ((vT cs q.ps q.wy A q.f:Nat):Int))<|some ((vT cs q.ps q.wy A q.h:Nat):Int)))
theorem GZ(T:Txt w K mg t)(B:Bm mg base):rh P w mg base T.mh 14 (n6 t):=by refine T.mh.F.bG lB ?_;obtain⟨k,cs,rows,e,hk,hq,hf,hh,q⟩;obtain⟨F,dl,rs,hS,_⟩:=hq.v.sh;refine{_,(sc (bO (i:=1) lB.nd<|fI (dv 0) T.aD T.cE (mB T B) hr)<|s1<|sr<|IQ (dv 1) (o1<|oG (dv 0) T.aD T.bN (nZ T) hr<|al 1<|ac (fl T.aD T.fm<|dv 0) an)<|o1<|oG (dv 0) T.aD T.bN (nZ T) hr<|al 1<|ac (fl T.aD T.dS<|dv 0) an),?_};refine !{k.w,_,rfl,hk,rfl,k,cs,rows,rfl,hk,hq,λA l hA hl=>?_};have s1:=Sub.new (c:=.lst<|A.map ah) hl;have A1:(S.set l<|.lst<|A.map ah) l=some (.lst<|A.map ah):=aa;generalize S.set l (.lst<|A.map ah)=S1 at s1 A1⊢;have sF:=s1 _ _ hk;have AS:=hS.sub s1;exact !!{k.w,_,rfl,sF,rfl,_,rfl,_,rfl,k.w,_,_,rfl,sF,rfl,k,l,k.f,A,cs,F,dl,rs,rfl,sF,hq.g,hq.o,AS,A1,hA.an,hf,_,rfl,_,rfl,k.w,_,rfl,sF,rfl,_,rfl,_,rfl,k.w,_,_,rfl,sF,rfl,k,l,k.h,A,cs,F,dl,rs,rfl,sF,hq.g,hq.o,AS,A1,hA.an,hh,_,rfl,_,A1,λp hp=>{_,cz s1,q A p hA<|cn s1 hp}}
theorem J2(hg:Gd cs)(hp:Pin cs ps)(hw:Wg cs r.2)(hk:r.1∈KS):cA (rE ps wy) (qq cs ps r) (qq cs ps r)=0:=(tR EY (pF hg hp hw hk)<|pF hg hp hw hk).mpr rfl
theorem An.at(hg:Gd cs)(hp:Pin cs ps)(h:An cs ps wy A)(e:A[i]?=some r):A.countP (gP cs ps wy<|EZ cs ps "ahead" r)=i/\A.countP (gP cs ps wy<|EZ cs ps "behind" r)=i+1:=by
 have hi:=(ze.mp e).1;have hr:=zy e;have lx:=List.pairwise_iff_getElem.mp<|h.lex hg hp;have lt:∀j a,j<i->A[j]?=some a->cA (rE ps wy) (qq cs ps a) (qq cs ps r)<0:=λj a hj ej=>by have:=lx j i (ze.mp ej).1 hi hj;rw[(ze.mp ej).2,(ze.mp e).2]at this;exact this
 have gt:∀j a,i<j->A[j]?=some a->0<cA (rE ps wy) (qq cs ps a) (qq cs ps r):=λj a hj ej=>by have hj':=(ze.mp ej).1;have:=lx i j hi hj' hj;rw[(ze.mp ej).2,(ze.mp e).2]at this;have ha:=zy ej;exact(A9 (pF hg hp (h.rg.1 a ha)<|h.ky a ha)<|pF hg hp (h.rg.1 r hr)<|h.ky r hr).mp this
 have me:=J2 (wy:=wy) hg hp (h.rg.1 r hr)<|h.ky r hr;constructor;refine(Dy (h.mono hg hp<|mz hg hp (h.rg.1 r hr) (h.ky r hr)<|by trivial) (yw hi) (λj a hj ej=>?_) λj a hj ej=>?_).symm;show(decide (cA (rE ps wy) (qq cs ps a) (qq cs ps r)<0)||_)=true;rw[zu<|lt j a hj ej];rfl;show(decide (cA (rE ps wy) (qq cs ps a) (qq cs ps r)<0)||(_&&decide (("ahead": Str) ="behind")))=false;rw[show decide (("ahead": Str) ="behind")=false by trivial,Bool.and_false,Bool.or_false,zq];rcases Nat.lt_or_ge i j with q|q;have:=gt j a q ej;lia;have:j=i:=by lia
 subst this;rw[e]at ej;cases ej;lia;refine(Dy (h.mono hg hp<|mz hg hp (h.rg.1 r hr) (h.ky r hr)<|by trivial) hi (λj a hj ej=>?_) λj a hj ej=>?_).symm;show(decide (cA (rE ps wy) (qq cs ps a) (qq cs ps r)<0)||(decide (cA (rE ps wy) (qq cs ps a) (qq cs ps r)=0)&&decide (("behind": Str) ="behind")))=true;rcases Nat.lt_or_ge j i with q|q;rw[zu<|lt j a q ej];rfl;have:j=i:=by lia
 subst this;rw[e]at ej;cases ej;rw[me];rfl;show(decide (cA (rE ps wy) (qq cs ps a) (qq cs ps r)<0)||(decide (cA (rE ps wy) (qq cs ps a) (qq cs ps r)=0)&&decide (("behind": Str) ="behind")))=false;have:=gt j a (by lia) ej;rw[zq<|by lia,zq<|by lia];rfl
section
variable{t:fk}{S0:au}{a lk lm:Addr}{cs:List (Str×Str)}{kn:Kn}{ce:VZ}{F:List Addr}{dl:List D}{rs:jx}{S:au}
theorem Bt.sub(h:Bt t S0 a lk lm cs kn ce F dl rs S)(b:Sub S S'):Bt t S0 a lk lm cs kn ce F dl rs S':={h.st.sub b,h.ki,h.ri,h.hi,h.le}
theorem Bt.ml(h:Bt t S0 a lk lm cs kn ce F dl rs S):S lm=some (.lst<|ce.map λx=>D.ref x.1):=h.st.at 1 rfl
theorem Bt.cell(h:Bt t S0 a lk lm cs kn ce F dl rs S){k:Nat}{x:Addr×List Row}(e:ce[k]?=some x):S x.1=some (.lst<|x.2.map ah):=h.st.at (k+2)<|by show(ce.map V0)[k]?=_;rw[zk,e];rfl
theorem Bt.len(h:Bt t S0 a lk lm cs kn ce F dl rs S):ce.length=dl.length+1:=by have:=h.hi.1;rwa [za]at this
theorem Bt.snap(h:Bt t S0 a lk lm cs kn ce F dl rs S)(e:ce[k]?=some x):Snap rs cs k x.2:=h.hi.2 k x.2<|by rw[zk,e];rfl
theorem Bt.vn(h:Bt t S0 a lk lm cs kn ce F dl rs S)(e:ce[dl.length]?=some x):Vw t.ak S a cs .av x.2:=(h.snap e).vw h.st.sh h.ri rfl tH
theorem Bt.at(h:Bt t S0 a lk lm cs kn ce F dl rs S)(hk:k<ce.length):∃x,ce[k]?=some x:={_,zf hk}
theorem Bt.end(h:Bt t S0 a lk lm cs kn ce F dl rs S)(e:ce[dl.length]?=some x):mD (ce.map λx=>D.ref x.1) (-1)=some (.ref x.1):=by have hl:=h.len;unfold mD Hx;rw[za,if_neg<|by decide,if_pos<|by lia,show((-1:Int)+((ce.length:Nat):Int)).toNat=dl.length by lia];show(ce.map λx=>D.ref x.1)[dl.length]?=_;rw[zk,e];rfl
end
theorem vV:∀{A:List α},A.Pairwise (λa b=>q b=true->q a=true)->A.filter q=A.take (A.countP q)|[],_=>rfl|a::A,h=>by obtain⟨h1,h2⟩:=List.pairwise_cons.mp h;cases qa:q a with|true=>rw[List.filter_cons_of_pos qa,List.countP_cons_of_pos qa,List.take_succ_cons,vV h2]|false=>have e:(a::A).filter q=[]:=List.filter_eq_nil_iff.mpr λb hb e=>(by rcases zh.mp hb with rfl|hb;rw[qa]at e;cases e;have:=h1 b hb e;rw[qa]at this;cases this);rw[List.countP_eq_length_filter,e];rfl
noncomputable def cF{α:Type}(p:α->Bool)(A:List α)(i:Nat):Nat:=((A.take i).filter p).length
theorem J3(h:A.Pairwise λa b=>q b=true->q a=true):(A.filter p).countP q=cF p A (A.countP q):=by unfold cF;rw[<-vV h,List.countP_eq_length_filter,List.filter_filter,List.filter_filter,List.filter_congr λa _=>Bool.and_comm _ _]
theorem tZ(h:b<=e):A.take e=A.take b++seg A b e:=by unfold seg;rw[<-List.take_add,Nat.add_sub_cancel' h]
theorem DH(h:b<=e):cF p A e=cF p A b+((seg A b e).filter p).length:=by unfold cF;rw[tZ h,List.filter_append,zt]
theorem E7:cF p A i<=(A.filter p).length/\cF p A i<=i:=by unfold cF;refine{((List.take_sublist i A).filter p).length_le,zK (yg _ _)<|List.length_take_le _ _}
theorem Bf(h:b<=e):seg (A.filter p) (cF p A b) (cF p A e)=(seg A b e).filter p:=by
 have e1:A.filter p=(A.take b).filter p++((seg A b e).filter p++(A.drop e).filter p):=by rw[<-List.append_assoc,<-List.filter_append,<-tZ h,<-List.filter_append,List.take_append_drop]
 rw[DH h];show(((A.filter p).drop<|cF p A b).take<|cF p A b+((seg A b e).filter p).length-cF p A b)=_;rw[Nat.add_sub_cancel_left,e1];unfold cF;rw[List.drop_left,List.take_left]
theorem t5:seg A 0 e=A.take e:=by unfold seg;rw[List.drop_zero,Nat.sub_zero]
theorem xE.V9(h:xE cs ps wy n d rows A)(p:Row->Bool):xE cs ps wy n d (rows.filter p) (A.filter p):=by
 refine{{h.an.rg.sub yt,λr hr=>h.an.ky r (yk.mp hr).1,h.an.pw.filter _},?_};have e:(rows.filter p).filter (λr=>bU cs r n d)=(rows.filter λr=>bU cs r n d).filter p:=by rw[List.filter_filter,List.filter_filter,List.filter_congr λa _=>Bool.and_comm _ _]
 rw[e];exact h.pm.filter p
theorem xE.cnt(hg:Gd cs)(hp:Pin cs ps)(h:xE cs ps wy n d rows A)(hv:Gp cs ps g)(p:Row->Bool):(A.filter p).countP (gP cs ps wy g)=cF p A (A.countP<|gP cs ps wy g):=J3<|h.an.mono hg hp hv
noncomputable def aR(gone:List Str)(r:Row):Bool:=!(gone.any λz=>z==r.1)
theorem Rw(rows:List Row):rows.filter (aR [])=rows:=List.filter_eq_self.mpr λ_ _=>rfl
theorem M4{gone:List Str}{z:Str}{rows:List Row} : rows.filter (aR<|gone++[z])=(rows.filter<|aR gone).filter λr=>decide (r.1≠z):=by
 rw[List.filter_filter];refine List.filter_congr λr _=>?_;unfold aR;rw[List.any_append,Bool.not_or,Bool.and_comm];congr 1;show(!((z==r.1)||false))=_;rw[Bool.or_false];by_cases h:r.1=z;rw[zq λk=>k h,h];simp;rw[zu h];have:(z==r.1)=false:=by simpa using λk=>h<|Eq.symm k
 rw[this];rfl
theorem E8:∀{l:List Str}{p:Str},(p::l).Pairwise (λa b=>a.cps.toList<=b.cps.toList)->PyProof.Rows.risingS p l=true|[],_,_=>rfl|x::r,p,h=>by obtain⟨h1,h2⟩:=List.pairwise_cons.mp h;show(!PySem.Spec.ltCps x.cps.toList p.cps.toList&&PyProof.Rows.risingS x r)=true;rw[zO,PyProof.Rows.ltCps_eq,Bool.not_eq_true',yi];exact{List.not_lt.mpr<|h1 x zo,E8 h2}
theorem G0(h:l.Pairwise λa b=>a.cps.toList<=b.cps.toList):PyProof.Rows.sortedS l=true:=by cases l with|nil=>rfl|cons x r=>exact E8 h
theorem Snap.take(h:Snap rs cs n rows)(hR:RI rs n kn)(hz:z∈KS):Snap (mn rs z n) cs (n+1) (rows.filter λr=>decide<|r.1≠z):=by obtain⟨k0,ss,rfl,hI,p,o,hw⟩:=h.ex;refine{oZ k0 z,ss.filter λk=>decide<|k≠z,?_,hI.del z,?_,G0<|(pB o).filter _,λk=>?_};unfold iD;rw[List.filter_map];refine zU λk hk=>?_;have hk:=(yk.mp hk).2;have hk:k≠z:=zC hk;rw[EI,if_neg hk];unfold oZ;rw[show(λr:Str×List D=>decide<|r.1≠z)=(λk:Str=>decide<|k≠z) ∘ Prod.fst from rfl];have:=p.filter λk=>decide<|k≠z;rw[List.filter_map]at this;exact this;rw[(hR.del hz).wt,rD,rD,<-hw,hR.wt]
structure Nw(t:fk)(S0:au)(a lk:Addr)(fs:List (Addr×Ce))(F:List Addr)(cs:List (Str×Str))(dl:List D)(rs:jx)(kn:Kn)(rows:List Row)(S:au):Prop where
 st:St t S0 a ((lk,.cO<|gb kn)::fs) F cs dl rs S
 ki:KI cs kn
 ri:RI rs dl.length kn
 sn:Snap rs cs dl.length rows
inductive vW (t:fk) (ds:List D) (S:au) (R:KD) (Z:KX):Prop where
 |mk (S0:au) (a lk l:Addr) (ms:List Int) (fs:List<|Addr×Ce) (F:List Addr) (cs:List<|Str×Str) (dl:List D) (rs:jx) (kn:Kn) (rows:List Row) (h0:ds=[.ref a,.ref lk,.ref l]) (h1:Nw t S0 a lk ((l,.lst<|ms.map D.int)::fs) F cs dl rs kn rows S) (h2:dl.length+ms.length<=110) (h3:ms.length<=6)
  (h4:∀S' pE bT fu gone p,Nw t S0 a lk ((p,.lst<|gone.map D.str)::fs) F cs pE bT fu (rows.filter<|aR gone) S'->pE.length<=dl.length+6->R (.ref p) S'):vW t ds S R Z
theorem Bh(T:Txt w K mg t):Ok P w base T.rB 7 (vW t):=by
 refine T.rB.F.bG fW ?_;obtain⟨S0,a,lk,l,ms,fs,F,cs,dl,rs,kn,rows,e,⟨st,hI,hR,hN⟩,V_,h6,q⟩;refine{_,(sc (bO (i:=3) fW.nd<|cB an)<|sc (Bv<|Ko (il<|dv 2) (gn (i:=4) fW.nd)<|sc (bO (i:=5) fW.nd<|cb sD T.fQ eE<|al 1 an)<|s1<|si (twd<|twand (bq js hr.u (dv 5)<|cB an)<|tw1<|bq ox hr.u (bo ba hr.u (dv 4) di) di) (sc (bO (i:=6) fW.nd<|ix hr.u (dv 5)<|bo ba hr.u (bo bR hr.u (dv 4) di)<|cb aQ T.aM aE<|al 5 an)<|sc (se<|oG (dv 0) T.aj T.dM (EG T) hr<|al 6 an)<|sc (se<|mp1 (dv 1)<|dv 6)<|s1<|se<|bm zN zV zW cC (dv 3)<|al 6 an) s0)<|s1<|sr<|dv 3),?_};refine{mm,λp hp=>?_};have E6:St t S0 a ((lk,.cO<|gb kn)::(p,.lst<|([]:List Str).map D.str)::(l,.lst<|ms.map D.int)::fs) F cs dl rs (S.set p<|.lst []):=(st.new hp<|.lst []).perm<|(List.Perm.cons _ (List.perm_append_singleton _ _).symm);generalize S.set p (.lst [])=S1 at E6⊢;refine{λaI S'=>∃(pE:List D)(bT:jx)(fu:Kn)(gone:List Str)(o4 o5 o6:Option D),aI=[some<|.ref a,some<|.ref lk,some<|.ref l,some<|.ref p,o4,o5,o6]/\Nw t S0 a lk ((p,.lst<|gone.map D.str)::(l,.lst<|ms.map D.int)::fs) F cs pE bT fu (rows.filter<|aR gone) S'/\pE.length<=dl.length+6,?_,?_};refine !{_,E6.at 2 rfl,?_};refine{λi aI S'=>∃(pE:List D)(bT:jx)(fu:Kn)(gone:List Str)(o4 o5 o6:Option D),aI=[some<|.ref a,some<|.ref lk,some<|.ref l,some<|.ref p,o4,o5,o6]/\Nw t S0 a lk ((p,.lst<|gone.map D.str)::(l,.lst<|ms.map D.int)::fs) F cs pE bT fu (rows.filter<|aR gone) S'/\pE.length<=dl.length+i/\gone.length<=i,?_,?_,?_,?_};exact{dl,rs,kn,[],none,none,none,rfl,{E6,hI,hR,by rw[Rw];exact hN},zr _,zr _};rintro i aI S' ⟨_,_,_,_,_,_,_,_,h,_⟩;exact h.st.at 2 rfl;rintro i d aI S' hd ⟨pE,bT,fu,gone,o4,o5,o6,rfl,⟨dP,MZ,Xq,hN'⟩,Ac,hgo⟩;have hd:(ms.map D.int)[i]?=some d:=hd;have hi:=(ze.mp hd).1;rw[za]at hi;obtain⟨c,_,rfl⟩:=zg.mp<|zy hd;have V5:=MZ.len;refine !{lk,gb fu,fu.map (·.1),rfl,dP.at 0 rfl,by unfold gb;rw[zx,zx];rfl,by unfold gb;rw[za];lia,λss VL hs p5 hp5=>?_};have s5:=Sub.new (c:=.lst<|ss.map D.str) hp5;have Qz:(S'.set p5<|.lst<|ss.map D.str) p5=some (.lst<|ss.map D.str):=aa;generalize S'.set p5 (.lst<|ss.map D.str)=S5 at s5 Qz⊢;refine !{mm,λp6 hp6=>xA ((Sub.new hp6) _ _ Qz) aa (MZ.ly VL) !⟨?_⟩};have s6:=s5.trans<|Sub.new (c:=.lst []) hp6;have hs6:=(Sub.new (c:=.lst []) hp6) _ _ Qz;generalize S5.set p6 (.lst [])=S6 at s6 hs6⊢;have keep:∀o5 o6:Option D,∃(dl2:List D)(Ve:jx)(kn2:Kn)(J4:List Str)(o4' o5' o6':Option D),[some<|.ref a,some<|.ref lk,some<|.ref l,some<|.ref p,some<|.int c,o5,o6]=[some<|.ref a,some<|.ref lk,some<|.ref l,some<|.ref p,o4',o5',o6']/\Nw t S0 a lk ((p,.lst<|J4.map D.str)::(l,.lst<|ms.map D.int)::fs) F cs dl2 Ve kn2 (rows.filter<|aR J4) S6/\dl2.length<=dl.length+(i+1)/\J4.length<=i+1:=λo5 o6=>{pE,bT,fu,gone,_,_,_,rfl,{dP.sub s6,MZ,Xq,hN'},by lia,by lia};refine bX (λh=>!{by decide,_,rfl,bX (λ_=>?_) λ_=>keep _ _}) λh=>a_<|keep _ _;have h:(!(ss.map D.str).isEmpty)=true:=h;have B7:0<ss.length:=by cases ss with|nil=>(cases h)|cons _ _=>exact Nat.succ_pos _
 have ml:(ss.map D.str).length=ss.length:=za _;obtain⟨d',e1,e2⟩:=mP (l:=ss.map D.str) (i:=c/3%(((ss.map D.str).length:Nat):Int)) (zL _<|by lia)<|zJ _ (by lia);obtain⟨z,hz,rfl⟩:=zg.mp<|zy e2;obtain⟨vs,V6⟩:=mr<|VL.mem_iff.mp hz;have Wa:=(MZ.ok _<|rC V6).1;have Sm:(iE fu z).isSome=true:=by rw[V6];rfl
 have Rr:=dP.sub s6;obtain⟨ld,lr,ra,hh,_,_⟩:=id Rr.sh;have nn:=(xB Xq Wa).trans<|Ds Sm;refine !!⟨{by decide,by trivial},_,rfl,_,rfl,.inl {_,hs6,by lia,_,_,hs6,e1,?_}⟩;refine !{a,_,rfl,hh.ins,rfl,_,rfl,a,F,cs,pE,bT,_,rfl,Rr.sh,A8 Wa,by lia,λe=>tf (f_ z Wa).1 e,λ_ e=>tf e nn,λz' ez _ _ S7 hS7 hK7=>?_};cases ez;have Hg:=Rr.VY hS7 hK7;have hk7:=Hg.at 0 rfl;refine !{lk,gb fu,rfl,hk7,_,rfl,gb fu,.inr z,.tup vs,hk7,rfl,by rw[nH,V6];rfl,?_};rw[Jp];have M0:=Hg.put 0 rfl<|.cO<|gb<|oZ fu z;have hp8:=M0.at 1 rfl;refine{_,rfl,{rfl,_,hp8},_,rfl,p,_,_,rfl,rfl,hp8,bg<|by rw[za];lia,?_};have KC:=M0.put 1 rfl<|.lst<|gone.map D.str++[.str z];refine{pE++[.tup [.str "take",.str z]],mn bT z pE.length,oZ fu z,gone++[z],_,_,_,rfl,{?_,MZ.del z,?_,?_},?_,?_};rw[zG];exact KC;rw[zt];exact Xq.del Wa;rw[zt,M4];exact hN'.take Xq Wa;rw[zt];show pE.length+1<=_;lia;rw[zt];show gone.length+1<=_;lia;rintro aI S' ⟨pE,bT,fu,gone,o4,o5,o6,rfl,h,Ac,hgo⟩;have Ac:pE.length<=dl.length+(ms.map D.int).length:=Ac;rw[za]at Ac;exact fo {pE,bT,fu,gone,_,_,_,rfl,h,by lia};rintro aI S' ⟨pE,bT,fu,gone,o4,o5,o6,rfl,⟨dP,r1,r2,r3⟩,Ac⟩;refine{_,rfl,fo<|q _ pE bT fu gone p {dP.less ?_ ?_,r1,r2,r3} Ac};have:=dP.nd;exact this.sublist<|(List.sublist_cons_self _ _).cons₂ _ |>.cons₂ _;intro x hx;rcases zh.mp hx with rfl|hx;exact zo;rcases zh.mp hx with rfl|hx;exact zi _ zo;exact zi _<|zi _<|zi _ hx
noncomputable def kpD(gone:List Str):D->Bool|.tup (.str k::_)=>!(gone.any λz=>z==k)|_=>false
theorem xJ(gone:List Str)(k:Str):BQ (jI<|.str k) ((gone.map D.str).map jI)=gone.any λz=>z==k:=by rw[zx];unfold BQ;rw[List.any_map];rfl
theorem pJ(gone:List Str):(gone.map D.str).all je=true:=by rw[List.all_map];exact zZ.mpr λ_ _=>rfl
theorem E9{gone:List Str}{B:List Row} : ((B.map ah).filter<|kpD gone).map id=(B.filter<|aR gone).map ah:=by rw[List.map_id,List.filter_map];rfl
theorem pK{α:Type}{p:α->Bool}{A:List α}{e:Nat} : (A.filter p).take (cF p A e)=(A.take e).filter p:=by
 have e1:A.filter p=(A.take e).filter p++(A.drop e).filter p:=by rw[<-List.filter_append,List.take_append_drop]
 rw[e1];unfold cF;rw[List.take_left]
theorem J5{α:Type}{A X L:List α}{i j:Nat}(h:A.take j=X++L)(hi:i<=X.length):seg A i j=X.drop i++L:=by unfold seg;rw[<-List.drop_take,h,List.drop_append_of_le_length hi]
theorem J6{α:Type}{l:List α}{j:Nat}(h:j<=l.length):bK l (some ((j:Nat):Int)) none=l.drop j:=by unfold bK;rw[HT.sIx_nat,Nat.min_eq_left h,show HT.sIx l.length l.length none=l.length from rfl,List.take_of_length_le<|by rw[yJ];lia]
inductive ku (t:fk) (ds:List D) (S:au) (R:KD) (Z:KX):Prop where
 |mk (a p g:Addr) (cs:List<|Str×Str) (ps:List Part) (wy:Str) (d:D) (n b e:Nat) (A rows:List Row) (gone:List Str) (h0:ds=[.ref a,.tup<|cs.map aA,dw ps wy,d,.int (n:Nat),GY p b<|A.length-e,.ref g]) (h1:Qs t S a cs ps wy d .av<|rows.filter<|aR gone) (h2:xE cs ps wy 7 d rows A) (h3:b<e) (h4:e<=A.length) (h5:e<=b+n) (h6:1<=n) (h7:n<=1000) (h8:A.length<=60) (h9:S p=some (.lst<|(seg A b e).map ah)) (h10:S g=some (.lst<|gone.map D.str)) (h11:R (.bl true) S)
theorem uN(T:Txt w K mg t)(B:Bm mg base):Ok P w base T.iX 14 (ku t):=by
 refine T.iX.F.bG bx ?_;rintro _ _ _ _ _ _ _ S R Z hr ⟨a,p,g,cs,ps,wy,d,n,b,e,A,rows,gone,e0,hq,hA,Fe,heA,y8,n1,n2,hAl,hp,hgo,q⟩;subst e0;have hg:=hq.g;have ho:=hq.o;have sl:=i8 (yw Fe) heA;have sg:∀r∈seg A b e,r∈A:=λr hr=>kL hr;refine{_,(sc (sa (aT T.rq (tX T) hr<|al 1<|al 2<|al 5 an)<|gt (n:=2)<|gc (gn (i:=7) bx.nd)<|gc (gn (i:=8) bx.nd) g0)<|sc (Kq (i:=9) (N:=["_law_row","_law_gone"]) (src:=[none,some 6]) bx.nd (kD (ae sM) ["_law_shelf","_law_columns_here","_law_order_here","_law_sieve_here","_law_size_here","_law_page","_law_gone","_law_fore","_law_hinder","_law_kept","_law_ahead","_law_due","_law_found"] rfl rfl<|by trivial) (il<|ix hr.u (dv 5) di) (pT<|show(["_law_row","_law_gone"]:List Str).Nodup by trivial) (aU rfl) aV (λ_ _ _ _ _=>(if1<|bq Ig hr.u (ix hr.u (dv 0) di)<|dv 1)) λ_ _ _ _ _=>(dv 0))<|sc (bO (i:=10) bx.nd<|cf (((DD T B).w).mono<|by decide) hr T.rm.m T.rm.k T.AE d1<|al 0<|al 2<|al 3<|ac dn<|al 7 an)<|sc (bO (i:=11) bx.nd<|bo bf hr.u (IQ (dv 10) (o1<|cb NJ T.Ob IP<|ac di<|ac (bo bf hr.u (bo mR hr.u (cb aQ T.aM aE<|al 10 an)<|dv 4)<|cb aQ T.aM aE<|al 9 an) an) o0)<|dv 9)<|sc (bO (i:=12) bx.nd<|cf (((xI T B).w).mono<|by decide) hr T.kF.m T.kF.k T.uw d1<|al 0<|al 2<|al 3<|al 4<|al 8 an)<|s1<|sr<|sx (cm bA hr.u (ix hr.u (dv 12) di)<|dv 11)<|Ia<|cm bA hr.u (ix hr.u (dv 12) di)<|bo bf hr.u (bo mR hr.u (cb aQ T.aM aE<|al 10 an)<|cb aQ T.aM aE<|al 11 an)<|cb aQ T.aM aE<|al 9 an),?_};refine !!!{cs,ps,wy,p,seg A b e,b,_,rfl,hg,ho.pin,ho.len,hp,λr hr=>hA.an.rg.1 r<|sg r hr,λz=>by rw[z]at sl;simp at sl;lia,λr0 r1 q0 q1=>?_};refine !{rfl,_,_,rfl,_,_,rfl,rfl,?_};have m0:=sg r0<|zy q0;have m1:=sg r1<|zy q1;have p0:Gp cs ps (EZ cs ps "ahead" r0):=mz hg ho.pin (hA.an.rg.1 r0 m0) (hA.an.ky r0 m0) (by trivial);have p1:Gp cs ps (EZ cs ps "behind" r1):=mz hg ho.pin (hA.an.rg.1 r1 m1) (hA.an.ky r1 m1) (by trivial);rw[rF<|by lia]at q0;rw[sl,rF<|by lia]at q1;have c0:=(hA.an.at hg ho.pin q0).1;have c1:=(hA.an.at hg ho.pin q1).2;rw[show b+0=b from rfl]at c0;rw[show b+(e-b-1)+1=e by lia]at c1;have k0:=hA.cnt hg ho.pin p0<|aR gone;have k1:=hA.cnt hg ho.pin p1<|aR gone;rw[c0]at k0;rw[c1]at k1;have Xr:=hA.V9<|aR gone;have V5:((seg A b e).filter<|aR gone).length<=e-b:=by rw[<-sl];exact yg _ _
 have ce:=DH (p:=aR gone) (A:=A)<|yw Fe;have cle:=(E7 (p:=aR gone) (A:=A) (i:=b)).2;have Wb:=(E7 (p:=aR gone) (A:=A) (i:=b)).1;refine !!{_,hp,?_};refine fC (kpD gone) id hp (by show((seg A b e).map ah).length<=_;rw[za];lia) (λx hx Q Q' hQ C_=>?_) λpk MV=>?_;obtain⟨r,lF,rfl⟩:=zg.mp hx;refine !!!⟨.inl {_,hgo,rfl,pJ gone,?_}⟩;rw[xJ];exact{_,rfl,bX (λh=>!⟨hQ h⟩) λh=>C_ h};rw[show({(seg A b e).map ah,λS=>S p=some (.lst<|(seg A b e).map ah)}:q9).xs=(seg A b e).map ah from rfl,E9];have s1:=Sub.new (c:=.lst<|((seg A b e).filter<|aR gone).map ah) MV;have sF:(S.set pk<|.lst<|((seg A b e).filter<|aR gone).map ah) pk=some (.lst<|((seg A b e).filter<|aR gone).map ah):=aa;generalize S.set pk (.lst<|((seg A b e).filter<|aR gone).map ah)=S1 at s1 sF⊢;refine !!!!⟨(hq.sub s1).st none (some<|EZ cs ps "ahead" r0) nofun (λg z=>by cases z;exact p0) λA' pa J_ Xs=>?_⟩;obtain rfl:=Xr.one hg ho.pin J_;rw[show Bz cs ps wy (A.filter<|aR gone) 0 none=0 from rfl,show Bz cs ps wy (A.filter<|aR gone) (A.filter<|aR gone).length (some<|EZ cs ps "ahead" r0)=cF (aR gone) A b from k0,xD (zT _) Wb,t5,pK];have s2:=s1.trans<|Sub.new (c:=.lst<|((A.take b).filter<|aR gone).map ah) Xs;have c_:=(Sub.new (c:=.lst<|((A.take b).filter<|aR gone).map ah) Xs) _ _ sF;have L7:(S1.set pa<|.lst<|((A.take b).filter<|aR gone).map ah) pa=some (.lst<|((A.take b).filter<|aR gone).map ah):=aa;generalize S1.set pa (.lst<|((A.take b).filter<|aR gone).map ah)=S2 at s2 c_ L7⊢;refine !!!⟨.inl {_,L7,_,rfl,_,rfl,_,rfl,.inl {_,c_,_,_,rfl,?_}}⟩;rw[za,za,show((A.take b).filter<|aR gone).length=cF (aR gone) A b from rfl];generalize W7:((seg A b e).filter<|aR gone).length=kk at V5 ce⊢;generalize hcb:cF (aR gone) A b=cb at cle Wb ce⊢;have e1:(if decide ((0:Int)<((cb:Nat):Int)-((n:Nat):Int)+((kk:Nat):Int))=true then ((cb:Nat):Int)-((n:Nat):Int)+((kk:Nat):Int) else 0)=((cb+kk-n:Nat):Int):=by by_cases h:(0:Int)<((cb:Nat):Int)-((n:Nat):Int)+((kk:Nat):Int);rw[if_pos<|zu h];lia;rw[if_neg<|by rw[zq h];exact zd];lia
 dsimp only;rw[e1];refine !{_,L7,λKs Rx=>?_};have lx:(((A.take b).filter<|aR gone).map ah).length=cb:=by rw[za];exact hcb
 rw[J6<|by rw[lx];lia,<-List.map_drop];have s3:=s2.trans<|Sub.new (c:=.lst<|(((A.take b).filter<|aR gone).drop<|cb+kk-n).map ah) Rx;have hk3:=(Sub.new (c:=.lst<|(((A.take b).filter<|aR gone).drop<|cb+kk-n).map ah) Rx) _ _ c_;have ha3:=(Sub.new (c:=.lst<|(((A.take b).filter<|aR gone).drop<|cb+kk-n).map ah) Rx) _ _ L7;have T5:(S2.set Ks<|.lst<|(((A.take b).filter<|aR gone).drop<|cb+kk-n).map ah) Ks=some (.lst<|(((A.take b).filter<|aR gone).drop<|cb+kk-n).map ah):=aa;generalize S2.set Ks (.lst<|(((A.take b).filter<|aR gone).drop<|cb+kk-n).map ah)=S3 at s3 hk3 ha3 T5⊢;have dl:(((A.take b).filter<|aR gone).drop<|cb+kk-n).length=cb-(cb+kk-n):=by rw[yJ];exact congrArg (·-_) hcb
 refine !{_,_,T5,hk3,sm<|by rw[za,za,dl,W7];lia,λpd Sl=>?_};rw[<-zG];have sb:=J5 (A:=A.filter<|aR gone) (X:=(A.take b).filter<|aR gone) (L:=(seg A b e).filter<|aR gone) (i:=cb+kk-n) (j:=cF (aR gone) A e) (by rw[pK,tZ<|yw Fe,List.filter_append]) (by show _<=cF (aR gone) A b;lia);rw[<-sb];have s4:=s3.trans<|Sub.new (c:=.lst<|(seg (A.filter<|aR gone) (cb+kk-n)<|cF (aR gone) A e).map ah) Sl;have hk4:=(Sub.new (c:=.lst<|(seg (A.filter<|aR gone) (cb+kk-n)<|cF (aR gone) A e).map ah) Sl) _ _ hk3;have ha4:=(Sub.new (c:=.lst<|(seg (A.filter<|aR gone) (cb+kk-n)<|cF (aR gone) A e).map ah) Sl) _ _ ha3;have hd4:(S3.set pd<|.lst<|(seg (A.filter<|aR gone) (cb+kk-n)<|cF (aR gone) A e).map ah) pd=some (.lst<|(seg (A.filter<|aR gone) (cb+kk-n)<|cF (aR gone) A e).map ah):=aa;generalize S3.set pd (.lst<|(seg (A.filter<|aR gone) (cb+kk-n)<|cF (aR gone) A e).map ah)=S4 at s4 hk4 ha4 hd4⊢;refine !!!!!⟨(hq.sub s4).pg (f:=Xo) (some<|EZ cs ps "behind" r1) n1 n2 (λg z=>by cases z;exact p1) λA' pf J_ Ss=>?_⟩;obtain rfl:=Xr.one hg ho.pin J_;rw[show Xo cs ps wy (A.filter<|aR gone) (some<|EZ cs ps "behind" r1) n=(cF (aR gone) A e-n,cF (aR gone) A e) from congrArg (λx=>(x-n,x)) k1];rw[ce];rw[ce]at hd4 sb;dsimp only;have s5:=s4.trans<|Sub.new (c:=.lst<|(seg (A.filter<|aR gone) (cb+kk-n)<|cb+kk).map ah) Ss;have Wc:=(Sub.new (c:=.lst<|(seg (A.filter<|aR gone) (cb+kk-n)<|cb+kk).map ah) Ss) _ _ hk4;have ha5:=(Sub.new (c:=.lst<|(seg (A.filter<|aR gone) (cb+kk-n)<|cb+kk).map ah) Ss) _ _ ha4;have hd5:=(Sub.new (c:=.lst<|(seg (A.filter<|aR gone) (cb+kk-n)<|cb+kk).map ah) Ss) _ _ hd4;have hf5:(S4.set pf<|.lst<|(seg (A.filter<|aR gone) (cb+kk-n)<|cb+kk).map ah) pf=some (.lst<|(seg (A.filter<|aR gone) (cb+kk-n)<|cb+kk).map ah):=aa;generalize S4.set pf (.lst<|(seg (A.filter<|aR gone) (cb+kk-n)<|cb+kk).map ah)=S5 at s5 Wc ha5 hd5 hf5⊢;have Xp:∀d∈(seg (A.filter (aR gone)) (cb+kk-n) (cb+kk)).map ah,Ly S5 60 d:=gM (Xr.an.rg.sub<|(List.take_sublist _ _).trans<|List.drop_sublist _ _) λr hr=>Xr.an.ky r<|kL hr;refine !!!⟨nI hf5 hd5 Xp !⟨dG ?_⟩⟩;refine !!!!⟨.inl {_,ha5,_,rfl,_,rfl,.inl {_,hd5,_,rfl,_,rfl,.inl {_,Wc,?_}}}⟩;have fin:∀y:Int,((cb+kk-n:Nat):Int)=y->Fo S5 (R<|.bl<|decide<|((cb+kk-n:Nat):Int)=y):=λy h=>by rw[zu h];exact⟨S,s5,q⟩
 refine fin _ ?_;rw[lx,za,za,sb,zt,dl,W7];lia
theorem DJ{cs:List<|Str×Str}(hg:Gd cs){ps:List Part}(hp:Pin cs ps){wy:Str}{A:List Row}(h:An cs ps wy A){b e:Nat}(Fe:b<=e)(he:e<=A.length){s:Sd}(hs:KA cs ps s)(hn:b=e->vT cs ps wy A s=b): KA cs ps (pH cs ps (seg A b e) s).1/\KA cs ps (pH cs ps (seg A b e) s).2/\vT cs ps wy A (pH cs ps (seg A b e) s).1=b/\vT cs ps wy A (pH cs ps (seg A b e) s).2=e:=by
 have sl:=i8 Fe he;by_cases q:b=e;subst q;have e0:seg A b b=[]:=List.length_eq_zero_iff.mp (by lia);rw[e0];exact{hs,hs,hn rfl,hn rfl};have a0:=zf (show b<A.length by lia);have a1:=zf (show e-1<A.length by lia);generalize A[b]=r0 at a0;generalize A[e-1]=r1 at a1;have q0:(seg A b e)[0]?=some r0:=by rw[rF<|by lia];exact a0
 have q1:(seg A b e)[(seg A b e).length-1]?=some r1:=by rw[sl,rF<|by lia,show b+(e-b-1)=e-1 by lia];exact a1
 have m0:=zy a0;have m1:=zy a1;unfold pH;rw[q0,q1];refine{mz hg hp (h.rg.1 r0 m0) (h.ky r0 m0)<|by trivial,mz hg hp (h.rg.1 r1 m1) (h.ky r1 m1)<|by trivial,(h.at hg hp a0).1,(h.at hg hp a1).2.trans<|by lia}
theorem M5{cs:List<|Str×Str}(hg:Gd cs){ps:List Part}(hp:Pin cs ps){wy:Str}{n:Nat}{d:D}{rows A:List Row}(h:xE cs ps wy n d rows A){s:Sd}(hs:KA cs ps s)(p:Row->Bool):vT cs ps wy (A.filter p) s=cF p A (vT cs ps wy A s):=by cases s with|s=>rfl|e=>show(A.filter p).length=cF p A A.length;unfold cF;rw[yK]|g g=>exact h.cnt hg hp hs p
theorem Ry{α:Type}{l:List α}{j:Nat}(h:j<=l.length):bK l none (some ((j:Nat):Int))=l.take j:=by unfold bK;rw[HT.sIx_nat,Nat.min_eq_left h,show HT.sIx l.length 0 none=0 from rfl,List.drop_zero,Nat.sub_zero]
theorem Nw.qs{S0 S:au}{a lk:Addr}{fs:List<|Addr×Ce}{F:List Addr}{cs:List<|Str×Str}{dl:List D}{rs:jx}{kn:Kn}{rows:List Row}(h:Nw t S0 a lk fs F cs dl rs kn rows S){S':au}(b:Sub S S')(hg:Gd cs){ps:List Part}{wy:Str}(ho:Og cs ps wy){d:D}(hd:Sq cs d)(ht:Tb t S0):Qs t S' a cs ps wy d .av rows:={hg,ho,hd,(h.sn.vw h.st.sh h.ri rfl tH).sub b,h.sn.key,(ht.sub h.st.Du.sub).sub b}
theorem E_{S:au}{gone:List Str}{B:List Row}{σ:SD}{src:List<|Option Nat}{gd:xV}{tc:mE}{te:TD}{p:Addr}{R:KD}(hp:S p=some (.lst<|B.map ah))(hl:B.length<=1000) (step:∀r∈B,∀(Q:KD)(Q':au->Prop),(aR gone r=true->Q (ah r) S)->(aR gone r=false->Q' S)->gd (ah r) (lg σ src) S λfw S3=>tc fw S3 (λb S4=>if b=true then te fw S4 Q Zf else Q' S4) Zf) (fin:∀q,S q=none->R (.ref q) (S.set q<|.lst<|(B.filter<|aR gone).map ah)):u_ σ src gd tc te R {B.map ah,λS=>we S (.ref p)<|B.map ah} S:=by refine fC (kpD gone) id hp (by show(B.map ah).length<=_;rw[za];exact hl) (λx hx Q Q' hQ C_=>?_) λpk MV=>?_;obtain⟨r,lF,rfl⟩:=zg.mp hx;exact step r lF Q Q' hQ C_;rw[show({B.map ah,λS=>we S (.ref p)<|B.map ah}:q9).xs=B.map ah from rfl,E9];exact fin pk MV
inductive kx (t:fk) (ds:List D) (S:au) (R:KD) (Z:KX):Prop where
 |mk (S0:au) (a lk l:Addr) (ms:List Int) (F:List Addr) (cs:List<|Str×Str) (dl:List D) (rs:jx) (kn:Kn) (rows:List Row) (ps:List Part) (wy:Str) (d:D) (n:Nat) (h0:ds=[.ref a,dw ps wy,d,.int (n:Nat),.ref lk,.ref l]) (h1:Nw t S0 a lk [(l,.lst<|ms.map D.int)] F cs dl rs kn rows S) (h2:Gd cs) (h3:Og cs ps wy) (h4:Sq cs d) (h5:Tb t S0) (h6:1<=n) (h7:n<=1000) (h8:dl.length+ms.length<=110) (h9:ms.length<=6) (h10:∀S',Sub S0 S'->R (.bl true) S')
theorem uO(T:Txt w K mg t)(B:Bm mg base):Ok P w base T.iY 16 (kx t):=by
 refine T.iY.F.bG bc ?_;rintro _ _ _ _ _ _ _ S R Z hr ⟨S0,a,lk,l,ms,F,cs,dl,rs,kn,rows,ps,wy,d,n,e0,⟨st,hI,hR,hN⟩,hg,ho,hd,ht,n1,n2,V_,h6,q⟩;subst e0;obtain⟨Xt,h60⟩:=hN.rg;refine{_,(sc (bO (i:=6) bc.nd<|mk T.Mr (JZ T) (hr.mono<|by decide) T.Mq T.gX.b d0<|al 0<|al 1<|al 2<|al 3 an)<|sc (bO (i:=7) bc.nd<|ix hr.u (fI (dv 6) T.aD T.nh (DF T B) hr) di)<|sc (bO (i:=8) bc.nd<|ix hr.u (fI (dv 6) T.aD T.nh (DF T B) hr) di)<|sc (si (bq bA hr.u (dv 8)<|cB an) (s1<|sr db) s0)<|sc (bO (i:=9) bc.nd<|aT T.rB (Bh T) hr<|al 0<|al 4<|al 5 an)<|sc (bO (i:=10) bc.nd<|fI (dv 6) T.aD T.mh (GZ T B) hr)<|sc (si (bq js hr.u (dv 10)<|vd (N:=["_law_row","_law_gone"]) (src:=[none,some 9]) (kD (ae jN) ["_law_shelf","_law_order_here","_law_sieve_here","_law_size_here","_law_standing","_law_cells","_law_walk","_law_one","_law_two","_law_gone","_law_again","_law_kept","_law_found"] rfl rfl<|by trivial) (il<|dv 8) (pT<|show(["_law_row","_law_gone"]:List Str).Nodup by trivial) (aU rfl) aV (λ_ _ _ _ _=>(if1<|bq Ig hr.u (ix hr.u (dv 0) di)<|dv 1)) λ_ _ _ _ _=>(dv 0)) (s1<|sr db) s0)<|sc (Kq (i:=11) (N:=["_law_row","_law_gone"]) (src:=[none,some 9]) bc.nd (kD (ae jN) ["_law_shelf","_law_order_here","_law_sieve_here","_law_size_here","_law_standing","_law_cells","_law_walk","_law_one","_law_two","_law_gone","_law_again","_law_kept","_law_found"] rfl rfl<|by trivial) (il<|dv 7) (pT<|show(["_law_row","_law_gone"]:List Str).Nodup by trivial) (aU rfl) aV (λ_ _ _ _ _=>(if1<|bq Ig hr.u (ix hr.u (dv 0) di)<|dv 1)) λ_ _ _ _ _=>(dv 0))<|sc (si (bq js hr.u (ix hr.u (fI (dv 6) T.aD T.oQ (J1 T B) hr) di)<|dv 11) (s1<|sr db) s0)<|sc (si (bq bA hr.u (dv 11)<|cB an) (s1<|sr db) s0)<|sc (bO (i:=12) bc.nd<|ix hr.u (fI (dv 6) T.aD T.nh (DF T B) hr) di)<|s1<|sr<|cm bA hr.u (IQ (dv 12) o0<|o1<|cb aQ T.aM aE<|al 10 an)<|dv 10),?_};refine !!!!⟨λk hk=>{k,a,cs,ps,wy,d,n,F,dl,rs,rfl,hg,ho,hd,n1,n2,st.sh.sub<|.new hk,aa,rfl,?_}⟩;rw[bj];have E6:St t S0 a ((lk,.cO<|gb kn)::[(l,.lst<|ms.map D.int),(k,ue t.aG {k,a,ps,wy,d,n,.s,.s})]) F cs dl rs (S.set k<|ue t.aG {k,a,ps,wy,d,n,.s,.s}):=st.new hk _;generalize S.set k (ue t.aG {k,a,ps,wy,d,n,.s,.s})=S1 at E6⊢;have N1:Nw t S0 a lk _ F cs dl rs kn rows S1:=⟨E6,hI,hR,hN⟩;have sF:=E6.at 2 rfl;refine !{k,_,rfl,sF,rfl,{k,a,ps,wy,d,n,.s,.s},cs,rows,rfl,sF,N1.qs (.refl _) hg ho hd ht,trivial,λA p1 b m hA vJ hE=>!⟨?_⟩};have L8:b=0:=(congrArg Prod.fst hE).symm;have hm:m=tW A 0 n:=(congrArg Prod.snd hE).symm;subst L8;have U7:m<=n/\m<=A.length/\(m=0->A.length=0):=by rw[hm];unfold tW;lia
 clear hE;have aeu:A.length<=60:=by rw[hA.pm.length_eq];exact zK (yg _ _) h60
 have Su:=DJ hg ho.pin hA.an (zT m) U7.2.1 (s:=.s) trivial λ_=>rfl;have Bp:=(E6.new vJ<|.lst<|(seg A 0 m).map ah).put 2 rfl<|ue t.aG {k,a,ps,wy,d,n,(pH cs ps (seg A 0 m) .s).1,(pH cs ps (seg A 0 m) .s).2};generalize pH cs ps (seg A 0 m) .s=s1 at Su Bp⊢;generalize (S1.set p1<|.lst<|(seg A 0 m).map ah).set k (ue t.aG ⟨k,a,ps,wy,d,n,s1.1,s1.2⟩)=S2 at Bp⊢;have N2:Nw t S0 a lk _ F cs dl rs kn rows S2:=⟨Bp,hI,hR,hN⟩;have c_:=Bp.at 2 rfl;refine !{k,_,rfl,c_,rfl,⟨k,a,ps,wy,d,n,s1.1,s1.2⟩,cs,rows,rfl,c_,N2.qs (.refl _) hg ho hd ht,Su.2.1,λA' p2 b e J_ hG hE=>!⟨?_⟩};obtain rfl:=hA.one hg ho.pin J_;have hb1:b=m:=(congrArg Prod.fst hE).symm.trans Su.2.2.2;subst hb1;have hE2:e=tW A b n:=(congrArg Prod.snd hE).symm.trans (by show tW A (vT cs ps wy A s1.2) n=_;rw[Su.2.2.2]);have Iq:b<=e/\e<=A.length/\e<=b+n:=by rw[hE2];unfold tW;lia
 clear hE;have M6:=DJ hg ho.pin hA.an Iq.1 Iq.2.1 (s:=s1.2) Su.2.1 λ_=>Su.2.2.2;have Bq:=(Bp.new hG<|.lst<|(seg A b e).map ah).put 2 rfl<|ue t.aG {k,a,ps,wy,d,n,(pH cs ps (seg A b e) s1.2).1,(pH cs ps (seg A b e) s1.2).2};generalize pH cs ps (seg A b e) s1.2=s2 at M6 Bq⊢;generalize (S2.set p2<|.lst<|(seg A b e).map ah).set k (ue t.aG ⟨k,a,ps,wy,d,n,s2.1,s2.2⟩)=S3 at Bq⊢;have Xu:∀i j,Rg cs (seg A i j)/\Ov (seg A i j):=λi j=>{hA.an.rg.sub<|(List.take_sublist _ _).trans<|List.drop_sublist _ _,λr hr=>hA.an.ky r<|kL hr};have Oe:=Bq.at 4 rfl;refine !{mm,λpe Er=>eq_nil ((Sub.new Er) _ _ Oe) aa (gM (Xu b e).1 (Xu b e).2) !⟨bX (λ_=>fo<|q _<|Bq.Du.sub.trans<|.new Er) λ_=>?_⟩};have Sn:=Bq.sub<|Sub.new (c:=.lst []) Er;generalize S3.set pe (.lst [])=S4 at Sn⊢;refine !!!{S0,a,lk,l,ms,[(k,ue t.aG ⟨k,a,ps,wy,d,n,s2.1,s2.2⟩),(p1,.lst<|(seg A 0 b).map ah),(p2,.lst<|(seg A b e).map ah)],F,cs,dl,rs,kn,rows,rfl,⟨Sn,hI,hR,hN⟩,V_,h6,λS5 pE bT fu gone pg N5 _=>?_};have Xv:=hA.V9<|aR gone;have fA:∀{s},KA cs ps s->vT cs ps wy (A.filter<|aR gone) s=cF (aR gone) A (vT cs ps wy A s):=λhs=>M5 hg ho.pin hA hs<|aR gone;have hg5:=N5.st.at 1 rfl;have Wc:=N5.st.at 2 rfl;have h15:=N5.st.at 3 rfl;have h25:=N5.st.at 4 rfl;have f1:vT cs ps wy (A.filter<|aR gone) s2.1=cF (aR gone) A b:=(fA M6.1).trans (by rw[M6.2.2.1]);have f2:vT cs ps wy (A.filter<|aR gone) s2.2=cF (aR gone) A e:=(fA M6.2.1).trans (by rw[M6.2.2.2]);have ce:=DH (p:=aR gone) (A:=A) Iq.1;have cm:=E7 (p:=aR gone) (A:=A) (i:=b);have ce2:=(E7 (p:=aR gone) (A:=A) (i:=e)).1;have ck:((seg A b e).filter<|aR gone).length<=e-b:=by rw[<-i8 Iq.1 Iq.2.1];exact yg _ _
 refine !{k,_,rfl,Wc,rfl,⟨k,a,ps,wy,d,n,s2.1,s2.2⟩,cs,rows.filter<|aR gone,rfl,Wc,N5.qs (.refl _) hg ho hd ht,M6.1,M6.2.1,λA' pa J_ Xs=>?_};obtain rfl:=Xv.one hg ho.pin J_;dsimp only;rw[f1,f2,xD (by lia) ce2,Bf Iq.1];have Sv:=N5.st.new Xs<|.lst<|((seg A b e).filter<|aR gone).map ah;generalize S5.set pa (.lst<|((seg A b e).filter<|aR gone).map ah)=S6 at Sv⊢;have hga:=Sv.at 1 rfl;have fl:∀i j,Rg cs ((seg A i j).filter<|aR gone)/\Ov ((seg A i j).filter<|aR gone):=λi j=>{(Xu i j).1.sub yt,λr hr=>(Xu i j).2 r (yk.mp hr).1};refine !!{_,Sv.at 4 rfl,?_};refine E_ (gone:=gone) (Sv.at 4 rfl) (by rw[i8 Iq.1 Iq.2.1];lia) (λr lF Q Q' hQ C_=>?_) λpk MV=>?_;refine !!!⟨.inl {_,hga,rfl,pJ gone,?_}⟩;rw[xJ];exact{_,rfl,bX (λh=>!⟨hQ h⟩) λh=>C_ h};refine nI ((Sub.new MV) _ _<|Sv.at 5 rfl) aa (gM (fl b e).1 (fl b e).2) !⟨a_ ?_⟩;have Hg:=Sv.sub<|Sub.new (c:=.lst<|((seg A b e).filter<|aR gone).map ah) MV;generalize S6.set pk (.lst<|((seg A b e).filter<|aR gone).map ah)=S7 at Hg⊢;have hg7:=Hg.at 1 rfl;refine !{_,Hg.at 3 rfl,?_};refine E_ (gone:=gone) (Hg.at 3 rfl) (by rw[i8 (zT _) U7.2.1];lia) (λr lF Q Q' hQ C_=>?_) λpq hpq=>?_;refine !!!⟨.inl {_,hg7,rfl,pJ gone,?_}⟩;rw[xJ];exact{_,rfl,bX (λh=>!⟨hQ h⟩) λh=>C_ h};have M0:=Hg.new hpq<|.lst<|((seg A 0 b).filter<|aR gone).map ah;generalize S7.set pq (.lst<|((seg A 0 b).filter<|aR gone).map ah)=S8 at M0⊢;have N8:Nw t S0 a lk _ F cs pE bT fu (rows.filter<|aR gone) S8:=⟨M0,N5.ki,N5.ri,N5.sn⟩;have VM:=M0.at 2 rfl;refine !{k,_,rfl,VM,rfl,⟨k,a,ps,wy,d,n,s2.1,s2.2⟩,cs,rows.filter<|aR gone,rfl,VM,N8.qs (.refl _) hg ho hd ht,M6.1,λA' pb b2 e2 J_ hpb hE=>!!⟨?_⟩};obtain rfl:=Xv.one hg ho.pin J_;have hE2:e2=cF (aR gone) A b:=(congrArg Prod.snd hE).symm.trans f1;have hB2:b2=0:=(congrArg Prod.fst hE).symm.trans (by show vT cs ps wy (A.filter<|aR gone) s2.1-n=0;rw[f1];lia);subst hE2 hB2;clear hE;have es:seg (A.filter<|aR gone) 0 (cF (aR gone) A b)=(seg A 0 b).filter (aR gone):=by rw[t5,pK,t5]
 have KC:=(M0.new hpb<|.lst<|(seg (A.filter<|aR gone) 0<|cF (aR gone) A b).map ah).put 2 rfl<|ue t.aG {k,a,ps,wy,d,n,(pH cs ps (seg (A.filter<|aR gone) 0<|cF (aR gone) A b) s2.1).1,(pH cs ps (seg (A.filter<|aR gone) 0<|cF (aR gone) A b) s2.1).2};have stC:=λh=>DJ hg ho.pin Xv.an (zT _) cm.1 (s:=s2.1) M6.1 h;generalize pH cs ps (seg (A.filter<|aR gone) 0<|cF (aR gone) A b) s2.1=s3 at stC KC⊢;rw[es]at KC⊢;generalize (S8.set pb<|.lst<|((seg A 0 b).filter<|aR gone).map ah).set k (ue t.aG ⟨k,a,ps,wy,d,n,s3.1,s3.2⟩)=S9 at KC⊢;refine nI (KC.at 7 rfl) (KC.at 6 rfl) (gM (fl 0 b).1 (fl 0 b).2) !⟨a_ ?_⟩;refine !{mm,λpe2 Rz=>eq_nil ((Sub.new Rz) _ _<|KC.at 6 rfl) aa (gM (fl 0 b).1 (fl 0 b).2) !⟨bX (λ_=>fo<|q _<|KC.Du.sub.trans<|.new Rz) λEC=>?_⟩};have EC:(((seg A 0 b).filter<|aR gone).map ah).isEmpty=false:=EC;have hc0:0≠cF (aR gone) A b:=λz=>by rw[<-es,<-z]at EC;cases EC
 have M7:=KC.sub<|Sub.new (c:=.lst []) Rz;generalize S9.set pe2 (.lst [])=SA at M7⊢;have NA:Nw t S0 a lk _ F cs pE bT fu (rows.filter<|aR gone) SA:=⟨M7,N5.ki,N5.ri,N5.sn⟩;have hkA:=M7.at 2 rfl;have stC:=stC λz=>absurd z hc0;refine !{k,_,rfl,hkA,rfl,⟨k,a,ps,wy,d,n,s3.1,s3.2⟩,cs,rows.filter<|aR gone,rfl,hkA,NA.qs (.refl _) hg ho hd ht,stC.2.1,λA' pf b3 e3 J_ Ss hE=>!⟨?_⟩};obtain rfl:=Xv.one hg ho.pin J_;have hB3:b3=cF (aR gone) A b:=(congrArg Prod.fst hE).symm.trans stC.2.2.2;subst hB3;have hE3:e3=tW (A.filter<|aR gone) (cF (aR gone) A b) n:=(congrArg Prod.snd hE).symm.trans (by show tW (A.filter<|aR gone) (vT cs ps wy (A.filter<|aR gone) s3.2) n=_;rw[stC.2.2.2]);have he3:e3<=(A.filter<|aR gone).length/\cF (aR gone) A e<=e3:=by rw[hE3];unfold tW;lia
 clear hE hE3;have Wd:=(M7.new Ss<|.lst<|(seg (A.filter<|aR gone) (cF (aR gone) A b) e3).map ah).put 2 rfl<|ue t.aG {k,a,ps,wy,d,n,(pH cs ps (seg (A.filter<|aR gone) (cF (aR gone) A b) e3) s3.2).1,(pH cs ps (seg (A.filter<|aR gone) (cF (aR gone) A b) e3) s3.2).2};generalize (SA.set pf<|.lst<|(seg (A.filter<|aR gone) (cF (aR gone) A b) e3).map ah).set k (ue t.aG {k,a,ps,wy,d,n,(pH cs ps (seg (A.filter<|aR gone) (cF (aR gone) A b) e3) s3.2).1,(pH cs ps (seg (A.filter<|aR gone) (cF (aR gone) A b) e3) s3.2).2})=SD at Wd⊢;refine !!!⟨.inl {_,Wd.at 5 rfl,_,rfl,_,Wd.at 8 rfl,λpz hpz=>?_}⟩;have es2:bK ((seg (A.filter<|aR gone) (cF (aR gone) A b) e3).map ah) none (some (((((seg A b e).filter<|aR gone).map ah).length:Nat):Int))=((seg A b e).filter<|aR gone).map ah:=by rw[Ry<|by rw[za,za,i8 (by lia) he3.1];lia,za,<-List.map_take];congr 1;rw[<-Bf Iq.1];unfold seg;rw[List.take_take,ym,yJ];congr 1;lia
 rw[es2];exact{_,rfl,nI aa ((Sub.new hpz) _ _<|Wd.at 5 rfl) (gM (fl b e).1 (fl b e).2)<|fo<|q _<|Wd.Du.sub.trans<|.new hpz}
theorem Sg.up:∀{n:Nat}{d:D},Sg cs n d->Sg cs (n+1) d|0,_,h=>h.elim|n+1,d,h=>by rcases h with h|⟨e,h1,h2⟩|⟨o,ds,h1,h2,h3,h4⟩;exact .inl h;exact .inr<|.inl ⟨e,h1,h2.up⟩;exact .inr<|.inr {o,ds,h1,h2,h3,λe he=>(h4 e he).up}
theorem Oz:∀{n:Nat}{d:D},Sg cs n d->qk (n+1) d=qk n d|0,_,h=>h.elim|n+1,d,h=>by show((nM d).map<|qk<|n+1).sum+1=((nM d).map<|qk n).sum+1;rw[zU λf hf=>Oz<|Jt h f hf]
theorem OA{cs:List<|Str×Str}{n:Nat}{d:D}(h:Sg cs n d)(h2:qk n d<=40):∀k,Sg cs (n+k) d/\qk (n+k) d<=40|0=>⟨h,h2⟩|k+1=>by obtain⟨a,b⟩:=OA h h2 k;exact{a.up,by show qk (n+k+1) d<=40;rw[Oz a];exact b}
theorem RA{P:Program}{w:World}{K:Frag}{mg:Str->Option Value}{base:Heap}{k N:Nat}{f:Addr}{fd:FuncData}{ps:List Str}{sp:Nat->kO}(F:∀n,n<=N->bI P w K mg base (fE P w mg) k f fd ps (q8 K<|sp n)):bI P w K mg base (fE P w mg) k f fd ps (q8 K λds S R Z=>∃n,n<=N/\sp n ds S R Z):={by rintro vs H Q E ⟨ds,S,R,Z,a,b,⟨n,hn,c⟩,d⟩;exact(F n hn).len vs H Q E ⟨ds,S,R,Z,a,b,c,d⟩,by rintro A outer s H args us vs Q E hr he hb hv ⟨ds,S,R,Z,a,b,⟨n,hn,c⟩,d⟩;exact(F n hn).run A outer s H args us vs Q E hr he hb hv ⟨ds,S,R,Z,a,b,c,d⟩}
theorem We(ns:List Int):(bK ns (some 6)<|some 36).length<=30:=by unfold bK;rw[show HT.sIx ns.length 0 (some 6)=min 6 ns.length from HT.sIx_nat ..,show HT.sIx ns.length ns.length (some 36)=min 36 ns.length from HT.sIx_nat ..];exact zK (List.length_take_le _ _)<|by lia
theorem Wf(ns:List Int)(i:Nat):(bK ns (some ((i:Nat):Int))<|some ((i+6:Nat):Int)).length<=6:=by unfold bK;rw[HT.sIx_nat,HT.sIx_nat];exact zK (List.length_take_le _ _)<|by lia
inductive Ka (t:fk) (ds:List D) (S:au) (R:KD) (Z:KX):Prop where
 |mk (ns:List Int) (h0:ds=[.lU<|ns.map D.int]) (h1:ns.length<=63) (h2:Tb t S) (h3:R (.bl true) S)
theorem M8(T:Txt w K mg t)(B:Bm mg base):Ok P w base T.Z2 20 (Ka t):=by
 have G1:Ok P w base T.iW 5 _:=RA (sp:=Rj) (N:=3) λn hn=>(pA T n).mono (by lia);refine T.Z2.F.bG dX ?_;obtain⟨ns,e,Qv,htb,q⟩;refine{_,(sc (bO (i:=1) dX.nd<|aT T.oP (Dd T) hr<|ac (aT T.eJ (fZ T) hr<|al 0<|ac di an) an)<|sc (bO (i:=2) dX.nd<|aT T.wQ (JJ T) hr<|al 1<|ac (aT T.eJ (fZ T) hr<|al 0<|ac di an) an)<|sc (bO (i:=3) dX.nd<|aT T.iW G1 hr<|al 1<|ac (aT T.gG (iB T) hr<|ac (aT T.eJ (fZ T) hr<|al 0<|ac di an)<|ac di an)<|ac (bo ba hr.u (aT T.eJ (fZ T) hr<|al 0<|ac di an) di) an)<|sc (sa (aT T.wV (JW T) hr<|al 1<|ac (IQ (dv 0) (o1 di)<|o1 di) an)<|gt (n:=3)<|gc (gn (i:=4) dX.nd)<|gc (gn (i:=5) dX.nd)<|gc (gn (i:=6) dX.nd) g0)<|sc (bO (i:=7) dX.nd<|aT T.gG (iB T) hr<|ac (aT T.eJ (fZ T) hr<|al 0<|ac di an)<|ac di an)<|sc (bO (i:=8) dX.nd<|aT T.CO (MW T) hr<|ac (ix hr.u (dv 7) di) an)<|sc (bO (i:=9) dX.nd<|wq<|ix hr.u (cB<|ac dn<|ac (aT T.Jd (MX T) hr<|al 1<|al 2<|ac (bo bR hr.u (ix hr.u (dv 7) di) di) an) an)<|ct NH T.I0 BX<|ac (cm ox hr.u (bo ba hr.u (ix hr.u (dv 7) di) di) di) an)<|sc (Bv<|si (twd<|twand (bq wg hr.u (bo ba hr.u (ix hr.u (dv 7) di) di) di)<|tw1<|bq js hr.u (ix hr.u (dv 5)<|Ag di)<|cB an) (sc (bO (i:=10) dX.nd<|ix hr.u (ix hr.u (dv 5)<|Ag di)<|bo ba hr.u (ix hr.u (dv 7) di)<|cb aQ T.aM aE<|ac (ix hr.u (dv 5)<|Ag di) an)<|s1<|bO (i:=9) dX.nd<|cN<|ac (aT T.wU (JS T) hr<|al 1<|al 2<|al 10 an)<|ac (wq<|ix hr.u (cB<|ac ds<|ac ds an)<|bo ba hr.u (bo bR hr.u (ix hr.u (dv 7) di) di) di) an) s0)<|sc (bO (i:=11) dX.nd<|cf (((DC T B).w).mono<|by decide) hr T.rl.m T.rl.k T.AD d1<|al 4<|al 2<|al 3<|al 8<|al 9 an)<|sc (bO (i:=12) dX.nd<|aT T.rB (Bh T) hr<|al 4<|al 6<|ac (IQ (dv 0) (o1 di)<|o1 di) an)<|sc (Bv<|si (bq js hr.u (ix hr.u (dv 11) di)<|cB an) (s1<|si (cM<|tv<|aT T.iX (uN T B) hr<|al 4<|al 1<|al 2<|al 3<|al 8<|al 11<|al 12 an) (s1<|sr db) s0) s0)<|s1<|sr<|aT T.iY (uO T B) hr<|al 4<|al 2<|al 3<|al 8<|al 6<|ac (IQ (dv 0) (o1 di)<|o1 di) an),?_};refine !{ns,0,rfl,λc0=>{c0,rfl,λcs hcg=>?_}};have hg:=hcg.1;refine !!{ns,1,rfl,λc1=>{cs,c1,rfl,hg,λps wy ho=>?_}};refine !!{ns,2,rfl,λc2=>{c2,14,rfl,by decide,λxs lx Kx hx y6=>!{ns,3,rfl,λc3=>{by decide,?_}}}};obtain⟨m,em⟩:=Int.eq_ofNat_of_zero_le<|show 0<=c3%3 from zL _ (by decide);have hm:m<3:=by have:=zJ c3 (show(0:Int)<3 by decide);lia
 refine{m+1,by lia,cs,lx,m,xs,rfl,by rw[em];rfl,hcg,aa,by lia,hx,λd ys hd hsz _ _=>?_};rw[bj];have hsq:Sq cs d:=by have h13:qk (m+1) d<=40:=zK hsz (by rcases m with _|_|_|m<;>first|decide|lia);obtain⟨a,b⟩:=OA hd h13<|6-m;rw[show m+1+(6-m)=7 by lia]at a b;exact{a,by lia}
 have s1:=Sub.new (c:=.lst<|ys.map D.int) y6;generalize S.set lx (.lst<|ys.map D.int)=S1 at s1⊢;refine !!!!⟨λp1 vJ=>{cs,p1,bK ns (some 6)<|some 36,rfl,hg,by rw[kl];exact aa,We ns,λS3 a lk lm kn ce F dl rs hb=>?_}⟩;have s2:=s1.trans<|Sub.new (c:=.lst<|bK (ns.map D.int) (some 6)<|some 36) vJ;generalize S1.set p1 (.lst<|bK (ns.map D.int) (some 6)<|some 36)=S2 at s2 hb;have tb2:=htb.sub s2;have hle:=hb.le;have Bs:=hb.len;refine !{rfl,_,_,rfl,_,_,rfl,_,_,rfl,rfl,?_};refine !{ns,4,rfl,λc4=>{c4,3,rfl,by decide,λxs lx Kx hx y6=>?_}};have s4:=Sub.new (c:=.lst<|xs.map D.int) y6;have hX:(S3.set lx<|.lst<|xs.map D.int) lx=some (.lst<|xs.map D.int):=aa;generalize S3.set lx (.lst<|xs.map D.int)=S4 at s4 hX⊢;have at_:∀k:Nat,k<3->∃x:Int,mD (xs.map D.int) ((k:Nat):Int)=some (.int x)/\0<=x:=λk hk=>nG (by lia) (by rw[za];lia) hx;obtain⟨x0,e0,_⟩:=at_ 0 (by decide);obtain⟨x1,e1,_⟩:=at_ 1 (by decide);obtain⟨x2,e2,_⟩:=at_ 2 (by decide);have Xw:=hb.sub s4;refine !{_,_,hX,e0,_,rfl,λn n1 n2=>?_};have OB:∀g0 d',Gp cs ps g0->d'∈[D.av,pG g0]->∃b,d'=Hf b/\Bg cs ps b:=λg0 d' Xx rG=>by simp only[zh,zM,or_false]at rG;rcases rG with h|h;exact⟨none,h,nofun⟩;exact{some g0,h,λg z=>by cases z;exact Xx}
 obtain⟨y,ey⟩:=hb.at (show dl.length<ce.length by lia);have hM:=Xw.ml;have hY:=Xw.cell ey;have eM:=hb.end ey;obtain⟨Xt,h60⟩:=(hb.snap ey).rg;have hky:Ov y.2:=(hb.snap ey).key;refine !!!{_,_,hX,e1,{by decide,by trivial},cs,ps,wy,_,rfl,hg,ho,λg0 Xx=>{cG,λp hp=>?_}};refine !{_,_,(Sub.new hp) _ _ hX,e1,by decide,.inr !⟨bH (L:=[D.av,pG g0]) ?_ ?_ hp λd' rG=>?_⟩};dsimp only;split<;>decide;show _<(2:Int);split<;>decide;obtain⟨b0,rfl,L8⟩:=OB g0 d' Xx rG;clear rG hp Xx OB p g0;have ml2:(y.2.map ah).length=y.2.length:=za _;refine{λaI S'=>∃(b:Option vO)(o10:Option D),Bg cs ps b/\aI=[some<|.lU<|ns.map D.int,some<|.tup<|cs.map aA,some<|dw ps wy,some d,some<|.ref a,some<|.ref lm,some<|.ref lk,some<|.ref lx,some<|.int (n:Nat),some<|Hf b,o10,none,none]/\S'=S4,?_,?_};refine !{_,_,hX,e1,by decide,_,rfl,bX (λ_=>?_) λ_=>a_<|fo {b0,_,L8,rfl,rfl}};refine !!{_,_,hM,eM,mm,λp2 hG=>xA ((Sub.new hG) _ _ hY) aa (gM Xt hky) !⟨bX (λh2=>?_) λh2=>{S4,.new hG,b0,_,L8,rfl,rfl}⟩};have h2:(!(y.2.map ah).isEmpty)=true:=h2;have B7:0<y.2.length:=by cases h:y.2 with|nil=>(rw[h]at h2;cases h2)|cons _ _=>exact Nat.succ_pos _
 have s5:=Sub.new (c:=.lst []) hG;have hY5:=s5 _ _ hY;have hX5:=s5 _ _ hX;have hM5:=s5 _ _ hM;generalize S4.set p2 (.lst [])=S5 at s5 hY5 hX5 hM5⊢;obtain⟨d',VC,e2'⟩:=mP (l:=y.2.map ah) (i:=x2%(((y.2.map ah).length:Nat):Int)) (zL _<|by lia)<|zJ _ (by lia);obtain⟨r,lF,rfl⟩:=zg.mp<|zy e2';refine !!{_,_,hM5,eM,_,rfl,_,_,hX5,e2,_,rfl,_,rfl,_,_,hM5,eM,_,rfl,.inl {_,hY5,by lia,_,_,hY5,VC,?_}};refine !!!{cs,ps,wy,r,rfl,hg,ho.pin,ho.len,Xt.1 r lF,cG,λp hp=>!{_,_,(Sub.new hp) _ _ hX5,e1,{by decide,by trivial},by decide,bH (zL _<|by decide) (zJ _<|by decide) hp λd' rG=>?_}};obtain⟨sd,rfl,hsd⟩:=E3 rG;exact{cG,S4,s5,some<|EZ cs ps sd r,_,(λg e=>by cases e;exact mz hg ho.pin (Xt.1 r lF) (hky r lF) hsd),rfl,rfl};rintro aI S' ⟨b,o10,hbg,rfl,rfl⟩;have hq:Qs t S' a cs ps wy d .av y.2:={hg,ho,hsq,Xw.vn ey,hky,(tb2.sub hb.st.Du.sub).sub s4};refine !!!!!⟨hq.pg (f:=Xn) b n1 n2 hbg λA p hA hp=>?_⟩;have hb1:=Ro (cs:=cs) (ps:=ps) (wy:=wy) (zT A.length) b;have e0:Xn cs ps wy A b n=(Bz cs ps wy A 0 b,tW A (Bz cs ps wy A 0 b) n):=rfl;rw[e0];dsimp only;generalize Bz cs ps wy A 0 b=bb at hb1⊢;have hE:bb<=tW A bb n/\tW A bb n<=A.length/\tW A bb n<=bb+n:=by unfold tW;lia
 generalize tW A bb n=ee at hE⊢;have hAl:A.length<=60:=by rw[hA.pm.length_eq];exact zK (yg _ _) h60
 have st0:St t S2 a [(lk,.cO<|gb kn)] F cs dl rs S':=Xw.st.less (by simp) λx hx=>by rw[zE.mp hx];exact zo
 have E6:=st0.new hp<|.lst<|(seg A bb ee).map ah;generalize S'.set p (.lst<|(seg A bb ee).map ah)=S5 at E6⊢;refine !!!!!⟨λp2 hG=>?_⟩;rw[kl];have Bp:St t S2 a [(lk,.cO<|gb kn),(p2,.lst<|(bK ns (some 36)<|some 42).map D.int),(p,.lst<|(seg A bb ee).map ah)] F cs dl rs _:=(E6.new hG<|.lst<|(bK ns (some 36)<|some 42).map D.int).perm<|.cons _<|.swap _ _ _;have l6:=Wf ns 36;refine{S2,a,lk,p2,bK ns (some 36)<|some 42,_,F,cs,dl,rs,kn,y.2,rfl,{Bp,hb.ki,hb.ri,hb.snap ey},by have:(bK ns (some 36)<|some 42).length<=6:=l6;lia,l6,λS6 pE bT fu gone pg N6 Ac=>?_};have hg6:=N6.st.at 1 rfl;have hP6:=N6.st.at 2 rfl;refine{λaI S7=>aI=[some<|.lU<|ns.map D.int,some<|.tup<|cs.map aA,some<|dw ps wy,some d,some<|.ref a,some<|.ref lm,some<|.ref lk,some<|.ref lx,some<|.int (n:Nat),some<|Hf b,o10,some<|GY p bb<|A.length-ee,some<|.ref pg]/\S7=S6,?_,?_};refine !!{mm,λpe Er=>xA ((Sub.new Er) _ _ hP6) aa (gM (hA.an.rg.sub<|(List.take_sublist _ _).trans<|List.drop_sublist _ _) λr hr=>hA.an.ky r<|kL hr) !⟨bX (λh=>?_) λ_=>{S6,.new Er,rfl,rfl}⟩};have h:(!((seg A bb ee).map ah).isEmpty)=true:=h;have eO:bb<ee:=by have:=i8 hE.1 hE.2.1;cases q:seg A bb ee with|nil=>(rw[q]at h;cases h)|cons _ _=>rw[q]at this;simp at this;lia
 exact !!!!!!!{a,p,pg,cs,ps,wy,d,n,bb,ee,A,y.2,gone,rfl,N6.qs (.new Er) hg ho hsq tb2,hA,eO,hE.2.1,hE.2.2,n1,n2,hAl,(Sub.new Er) _ _ hP6,(Sub.new Er) _ _ hg6,_,rfl,a_ {S6,.new Er,rfl,rfl}};rintro aI S7 ⟨rfl,rfl⟩;refine !!!!!!!!⟨λp3 Oe=>?_⟩;rw[kl];have Bq:St t S2 a [(lk,.cO<|gb fu)] F cs pE bT S7:=N6.st.less (by simp) λx hx=>by rw[zE.mp hx];exact zo
 have Sn:=Bq.new Oe<|.lst<|(bK ns (some 42)<|some 48).map D.int;have l6':=Wf ns 42;exact{S2,a,lk,p3,bK ns (some 42)<|some 48,F,cs,pE,bT,fu,_,ps,wy,d,n,rfl,⟨Sn,N6.ki,N6.ri,N6.sn⟩,hg,ho,hsq,tb2,n1,n2,by have:(bK ns (some 42)<|some 48).length<=6:=l6';lia,l6',λS' sb=>{S,s2.trans sb,q}}
def Kb(t:fk)(K:Frag):Sp:=λvs H Q _=>q8 K (Ka t) vs H Q E0
theorem RB(T:Txt w K mg t)(B:Bm mg base):bI P w K mg base WH 20 t.N9 t.IW ["_law_script"] (Kb t K):=bI.calm<|M8 T B
theorem Kc{w:World}{K:Frag}{mg:Str->Option Value}{t:fk}(T:Txt w K mg t){H:Hp}{a:Addr}{ns:List Int}(hl:ns.length<=63)(hO:Av t.ts H)(hS:kz K H a<|ns.map V.int):Kb t K [.ref a] H (λv _=>v=.bl true) λ_ _ _=>False:=by
 have hR:NB K H a (ns.map V.int):=by rcases hS with (h|h)|h;rcases hO.all a with q|⟨o,xs,q⟩|⟨_,q⟩;rw[q]at h;cases h;rw[q]at h;cases h;rw[q]at h;cases h;exact .inl h;exact .inr h
 have EC:t.aK≠t.aP:=λe=>by have:=T.np;rw[e]at this;simp at this
 have tok:∀q,Ef H q #[]:=λq=>{trivial,λ_ _ e=>by cases e};refine{[.lU<|ns.map D.int],λb=>if b=t.aP then some (.tab qK) else if b=t.aK then some (.tab qV) else none,λd _=>d=.bl true,λ_ _=>False,aY (H_ hR<|Ee ns) bD,λb c e=>?_,{ns,rfl,hl,{if_pos rfl,(if_neg EC).trans<|if_pos rfl},rfl},λd S v H' e r _ _=>by subst e;exact r.bl,λ_ _ _ z=>z.elim};by_cases h1:b=t.aP;have e:=(if_pos h1).symm.trans e;cases e;rw[h1];exact{#[],hO.tab _ T.m9,tok _};by_cases h2:b=t.aK;have e:=(if_neg h1).symm.trans e;have e:=(if_pos h2).symm.trans e;cases e;rw[h2];exact{#[],hO.tab _ T.kR,tok _};have e:=(if_neg h1).symm.trans e;have e:=(if_neg h2).symm.trans e;cases e
theorem RC{P:Program}{w:World}{K:Frag}{mg:Str->Option Value}{fa:Addr}{ts:List Addr}(PL:mg "law"= some (.ref fa))(T:∃t:fk,t.ts=ts/\Txt w K mg t):∃(fd:FuncData) (sp:Sp),(∀b∈ts,∃c,codeHdIn K c b=true)/\(∀(s:Shared) (u:Value),BindsTo s fd {[u],[]} [("_law_script",u)])/\(∀base:Heap,Bm mg base->K.In base->base.Ns mainGlobals mg->bI P w K mg base WH 20 fa fd ["_law_script"] sp)/\∀(H:Hp) (a:Addr) (ns:List Int),ns.length<=63->Av ts H->kz K H a (ns.map V.int)->sp [.ref a] H (λv _=>v=.bl true) λ_ _ _=>False:=by obtain⟨t,et,T⟩:=T;have e0:=PL.symm.trans T.Z2.m;cases e0;subst et;exact{_,_,λb hb=>(T.ta b<|hb).elim (λe=>{_,e ▸ T.dU}) λe=>{_,e ▸ T.dr},T.bl,λbase B kb nb=>RB T B,λH a ns hl hO hS=>Kc T hl hO hS}
end My
end Tactic
open Tactic
local macro_rules|`(command|universe $xs*)=>do return Lean.mkNullNode (← (xs[0]!.getId.toString.foldl (fun (h,n,k,l) c=>let n:=n*62+(if c.isDigit then c.toNat-48 else if c.isUpper then c.toNat-55 else c.toNat-61);if k=9 then (h+n-10*62^9,0,0,l.push (h+n-10*62^9)) else (h,n,k+1,l)) (0,0,0,(#[]:Array Nat))).2.2.2.mapM fun v=>`(command|theorem $(Lean.mkIdent (.mkSimple s!"tw{v}")):ident : True:=trivial))
namespace PySem.W.Fast
universe A3NzNduXe3GPMcx6ZYtlG9UAJH39lMEBdgTQggrLB6ZUPHlsC0EQFR1moxIbCCuxQYjEaNBOMoLrPxYQBZpziQf7jWA1Kl5TpP4XBGy34dcj1dDDYXvhHjGSELhD86AEqoBTeCGXSaOeBppgCpFV4RAjAunGEVsqD6xZKKwgy7BIzkmJxKEEAez1l3bp0lCf8JQjQ4TrAA5AzjQ0EnC18fJRqelHAKPf0MT0YDA0J0rp77QKAqSXzhZPZlB9nDna8BezBHedUcD3L5D2wsUikUsjAcVzWkYCBcCa5jk0teP4AAwyN95eorDM9LgehmUIA3QOJTujqsD2V2V5yAqWAIrkurq3GlAGTAtzxz14BYQmU8qCrXCRhuWkO4Y5Ax6tyAxwkmE20oRlLmXhATLNNyaZXUDI7S8ipz2JCeLoMF8BWvApbsClMMqGA4vmoxO6XvAeQuVrCgjPAMEibMbMVcB6SiJycLW4BEDtPOoo9fCpVHiYmeE4E8RZDixLZTAG1xO1dR10A1InUdX6j7CLcbirtRnCAnkvrwzxpMBmMn7Chj0qC5Qzvy0U64G38LQVv4AJAB2iCAs0EoD9KXdx7g3KA3fDAROerLC9ufvLGeHEAPGFKqvItsADuodyrsnuAd2XgxZiEJBWvF2FsjfvAxgqgX0FIGAq4F9yNrtmAe0v91rrtuAkRAD4jT7CAJUPcTYeL1BGWELBYkBTE39J9mysAIB8R42Js9vIAyNGOwuEiRA4wC63MN9fDaVewNIBzkAlWIOGXTCoD7mB9o7M5CAsPbjIa4qzADteqEKTIcBXhMV2NMZBB7GcLR99uvHXtXPc1QxtBKG2ae6niJA2ACiBmAaWAZEUPelFhOAla8cVX9T2ACTXcoZcsJAyRkPdkyWYBvV71fVqDJAHkewpZCs0BK5iBwnuiWA6HwpiUQtfBHJJLYMqWUAmaCjKE4SbArukPO3kmbAQJTHsrfg4B5JuQz5suRAYFxSqUonFAV5oKacsuuA6SU3l8AUdAjKxMogi7cADeWndVfLoAeRV17PPx8ByvF6oA9ecC6brVW3YRnB7MFdI0JaGBC3epLtyGWANuL2G3x50AspInnjXmqAIGQkgJn8UBNW2dw3Wt3BC0MuucgRuA0AcpxO6xeCuTcts9PM7B8X88jn2xhAUB3HOYaMrDBWLWWxdbbAGq5tKe54SAC3Yf47GR1Ax6MqH4yPoBnQdJZl1YyA8FDTLUsyFALNfUOJZ5YAk34hdoQQEA35S6yuYwvAYhcdzBoz7AmYtVZdkKiA7RHTThzziDjsaiigGc9C4FrCBAsEjAnm0A4vgrnADOHOvnvWEAuEdiFLNyFA2ING97JcvALoZndPiuBAXqvgqoF5DAfIZcdHxNLACC0eJS3jpEFQ0nBlj3xAl47Gg14m4Ahg0UHCqZcFCHv9npcJjCcREorNunVCerYijyPHPAKYBfiGUb1ApLryEFVybAkeEULd7CmB2sBPTE0qxAgvdauMCxjBs9dDYOXZcCCuMnCM0yDB6D3zg0Dc2C8ZbN42AzTASfA1BTdBqABSG0AwxIIAlCFOefVD0AhRHuAQGcpFSbZkOy5CxAfSq9MHclGBV8CU1WCnjB1z1zNnH4QBiLOHtp4f3AyUTkhBeE3B4Swsl94kwBOzH7TF1BQD8VuWpvy9gA8VBLD5brKAhz8mPZ6K4AYuxMwdeb2DTQQuurO1OBDHQs1O3dlA5WP9aaBUcBpbZ02kvisCFzoqbXUkhATBub3D2PkDqPTk85SWJCTJffNFPraAzAldjbQyzBrtlyJwpFfDzmA2Cp8TzAa4ODhBNL1BdhSjsaExaCLFhBvpVMgEWY7hZMvsVASq0osgUUkBSbI5giumGBjfkkC7LK2AhgBC1crZoA3SOlxUWDPDGYUcyYbNqABHMtUsokNCkbWkoq8U2ARpUPw3PgEBQiQjNY0C8ARyeFT3VtICUCCAtfahNBNCpdeKxxIAVG7yqaDaOBQC9lblGjCBVqkXXbtk9AQCtqEwWaaBHVo8szecIA9cApYoeCOB5ZQbrPZKADQXVPzJy2QATNfkEY0wgAHaubmUoZsBx8RbpgaHyASnd5VJmnsA2XBPONfTpEAACwGOa2oAMCG39OX65BbTxKrhQ0NAREAXEejaECK24Un55HgBUh2tqvKZ0DitRUUJxrhAhPa7487eKALVzeEHsKaAJOMiTvxQPADCde9TAj9Cvscf1HbOQBEoRgANXvXBJijnDqbPNAM3J6Yp2w6ANPk5gaEOSBQuObQ2gClB8yH490iGcEVuVnGGqmCBYOexarrtAB8UUMYXUUqBmShomAMwaB9r3ZQozriA1CGvCiPwjBC6f9eop1TAiW50r781IBbDbdXhZ0AAWlMMZNV5OAWjlNEveW3AgSRFHOpMOBFmTtEkIdWEcENCr4TfuBkomIvQHSWC93oCErDygB2dpQr1J4zCnXo05fMoTAEv7MPPazCBUKGXJs3MyBJhx5pCenJAkdtluobryAJq3zmPDigAdMpxLTov9AgL5CYdNaYAOc1oM9caSAZzZz4C2JUEApq0Z9wHmBEnfVHijcGFA8OmAdz1PA84qEXDTLOBOF5WZ2KDnAKUk8OCS4xC7WFOSAplYBO3Q3GpBJ0AHmzWbB9TIBCW8dJ7nHwAZiPdE4J0BB3Y33fzeHXCsRj5RNiyjA4CGlRzCNiAFm33jhtJ6ARNANrLdBCH8RoKYhD8eB9RORwRBU3C1KJq6BJ0aA1okj6dGOiBDZGQWHUKdAtsD5JvZ3WCt9cL7b1iiDvLLfoOrrWB0vMB8gVqLDDQxtzfdmSBJUNHRfMyeDI7xEp5SCUAAbxgEgYabAgRc6kvhPYA4sNSG0PkOINmsuOex59AcnVSPpvfzCWAFSf75QdBcD6WhiW1oBkYnL4wFCOCpT4SLbWG9D8lkWhC5E2DNKMxnvRItAZRDlM7So9ARjHjFH3BXBHNIqqgj0vA5oAKUkukcBsxw7GRXLAAIZSnwZAzFANNaYCptJHBKs1nCGLQ3BL9FRbOkSEArYuy2AZRGA3wWmMvMdsB2Xwqx2BCXBetrq7IoORAKG3mBxsslA24CuOBELOBLZSYnnLuHB6KCIedVIfDKx5V2fOlUBaxIrYaSWaB6oXHbEmtPBq4Ztnc2j2AIxc9y9LkgAeuRfK5FGSBuwcELRJXjA6ejvVtkiIAEW35wPP0jF4WQbRIAojBjgcsNiEKrAEXDueAjkXA9bag84wLBA6CkQVHLA7Amae3wTL8xAHL3E8R8Z2BTAZ7ilUejADZkDotEHDBppdQmzO1qCtT8GcpQV9A1OW5GO8sfAkopgu5CRaAO7byp2YBcAYWn9CJ3NnBlnMgvTGNgF4HVtfjfDIACLBEq2UN0Ee7LwjNVk5BRCEdv8nnCAWq0HgyfGhArpKZ395KuBVk45fAVyZAGmZAuWPEnAoJgCnSBoOAOv2XY06mzAj8cAZjpWvA7HAo0BaixAeETaA0teBA7THTWVFD2ASYFoqoz1FA0aHTsBlFKA4XQOQohclCf9PrRLikiBfPgvMknY9A3ni8nRv9lA1Zh468yuKAHb2LrjCEbA5Ls7mmWLLB42o8XRfh2B6P1jw6c8ADipXlLngtYBjuOfcq28ABLP14Jy0kcClL9JHHuI7AIFwdWjLFOArSaBrZP8eBEMHx6N03TALlzav23XOBq8jGkruvUBlEPBPzVrdB4lulDz2wwCBXtzfYiuUDDawwNZdJtAv79Gw1HzwFybwzeHUHZBXUYrFvnxABfaa7TUZc8AmQugvNgS3A8qdO28VxZAHuU4E7l9gAmm0uZoFgfBhOfjff7w7Eqz1H2sISZJGU9ezu8QpASBnWXrDGiCRnrempT2JA4Ma8DibcFFaOE4a9HtGFsaJrdpYziB1AZvKks28B8z1ycvXi2AenlfPJWzyB12g7TGCWvCIKSkuHGUiAFonY5nmWKBPbX4rovpgBH9I0T1ufzC8QxLwFY9RA1usGKzo55A1bPBijLkPAlviHgUHEpAaCut8j8X7B06XGW6k3dAHnUukgcDXBDbyhWKJOCAPOeoACqJhATjZ6QDuK3AmpEUVqQb5CLBlpPd9qoAOURFcVrtRCbU92q1Li4BKHE81HDHuCH8KaZXpA6ApY2c4hU4SBkxAbNYVFxAjvrrCJi0gAgw7BzMy0GCxOdZXkB2lBRyCm5Rt1ODYuRWEodcCB38T1oaXTMBdBZvmKETdBp2vEgiiP4As2nHJR0v5Cj4rH44PEkD7sxapukwWDZWYlsfJ6WEp0y8h2Cy0D93hBwnLCPAStYPxCr0hAfUagMxTNdADzTdp0s9EE39TvaZ13TAjbrcq3IiuBx09RuFn8uCZ58eqS7AmATExTsVDafAwNWHZ0zV4C3uLVscEcaA7fvEA6Qb1CG1rH7K5imB7YaBO3YMFAPCrLGgvREAnyDyXsAh1AaHrMoT3zaAKAQsFkEMFAO6F7Hm2L9AEVnzj2cueBOkCnrIiZfDw4OsZ1rkyAR2fSXVGbJAkVVBv2bKiBG5YjoM1yRAanQc7ReyVBjp1igu2eQDXhm7wqdK1BIXJKhHhS5AlHg6LgSmDAwt1oFXNiMBGhpr7Gr3PBZ6wvDkGflFC40kyyXdEAYtT9HwyF6BV71L7I6DJBSfFEWfGxAAl4VJNGIO8AZs7zcR17nAPxkfjlx7VBgVET7KAbWBLndWrnWYsBQJwMT683VCUlvM1MeezB6Hsyu7CMFAKfQBcxuwgAZabV9IMAbESVCFRffIfApRunHbu0gBdnfpwbgFGAouVQD0O4DFAWyllMYbHAesPYkh8ZWBsKoYNVwNrAx3BUc4wf9BAhJ85n6rWGcsnj4aZnHBzQz76Kq5SCodlojN4qNAmkPwDRrdZA324gaPYzhBGga8aqjIvBjtNgf2cdjAYJbXCl70AAmIodujFHYAR1gbF4albAE0GEZuCnjACcSUvNXrYAhvyBOOYm4ADKvxoavkHBMm5xbaql7AF2rqc93WdAh2YvZMosuAScSxfuPXxAIC9fCuQjuCYaHrbKXFVAfax0yKRNcADd6Q5ZTMHBkojRtDrOpAfuUOKXezHAd2rO6eSw4A1NRd4lTziAIQrXHhweuEI4sXkkfy0A5Eh8dZtN9A5xGSIyQkPCbIMGNKNthBEBAVEanobAmCpLaf3LRBdWAsYSu7OACggHCp4QFBAdTQTNOMaAwoogs2itABB9FqERIrdATyQHBD7K1AMPbJF5y44C88NxutUDcCAnnn56ac1CIiCjnPgKWBSpqnRqQQLBMR1xbzmk1FSyLxHqbIAECqGJa8Hg5BzqtjoT65xDfY4hTBWsXCvw8166rcoBOI8EGcaK7AgIiaoY6LXABDpeDqKo3AGqyx2q1QvCXY8lyfcSzDHJlASKIWvAYckPzwWY3Dge62n9bIrAkPPUD9tn2CErfIE01O9B0gRZDnliyAYAtPdBiBaDDyng6mFaNAuXG1Y4zxlA9GirsV2bWAFebq3ttAJApfcAPD2xUAN8p4kPUIYCFRBjVtL1ACa411buEyxDXTgxTQvQ5AK4QEmYa1CAHQPtKR06YB8pMqah5JYCZQsGWE9twBWuTHYLfgABTkdw4vHmkACz8n6EwB4AW3DmXnVe3C2KWYwQADrBgN8t2rwFGAyhOWpD0jBADC5pmZmD8A7GFEUTqmBCgMYyBgQ3TBE5kzR493LB5WvdqOqD7AAVJN8i3J5BID5vAHZ97AwSwEg3Lg4B1QVctVYHYCkNnLn8fwOCGvldvlxunA5dYCG9RiVAlwcf3hYGNA4TYKPk8C5A8hCmOjsJbAVPPrnMZhcAQVe6Pou1mA4v5V7g3pHApgO4XEHMmB92436ohoOAj4aEMteozAZlkDyEN06AtIcRFjOtJA1F1tBIGOLBRmyaKELl4CMMRw9c2VMBUUMT1yzNiBheJcXR2CFA52DcVgMqLC7scUqV5kYB3TJp8c2OLA1ehiqXI9tAKJUXLCWl6CQt7PJ2E3qAIg3MRvXteBtto9DtqvhCsY1lcieQ0BuOmJvB4jKCM5x6aoEdaAlh3NHuwrPAhn3f6fHDNA8FvAcbTdYC9g2lqJrTEADGACoAEfwEams8z1tPFA5c6iLsOX0Bd1Xfd107JAKguV1nCoaBOiPrtJuVdCSIWkw741zBOrFxn8A5EA3OPQwFJ6AB7eXJpd2FeAf7htjH371AJLbDnY5FYCqDgWY649bAWONrCP344Dw5eYoa1q1B41fMcvffcA3J9FiWMzwAefTArlNHnBQs0uab8o6EB2yHdJKNtAH9Jw5APE4Cw9RjXXTBEBA2rMrTTQPCziUIbG8CFA4VQ9Rr1y8AZH2jDR5NbAXFt0wyrQwDaUChKYDA8DGkw1BqfsbBcxWmW6ylXALC981T6plGRiRAsIcc3CUqFmEpWCDBgD3sKaNVNAIJz8H1cv7C1R431RtahBu5Y1DJuBMBXpwQsXgzWB4seAbFRH1CUTikfNw8uAOqSUXgptWDKoobEzrGaBdawQhdQZbByk8H4fGFIC7XPKKUMfrAE3f55snSIB0Rvt5RtupAijHDTJYwbBxsGmx57GdA2GuiHDdNjBZyO5VWR6RAjIgsI1iedBRDUNQ8BHgAQngRZ98oBAbOxSs0PiPAEV15SPzrFAapPKXOuHEAh7avCOUY5BcfzXuj4vWBKBQDIpMUQAdWDcCHipjAWRT9v2i97AYV1z71nOzDaPQ7bk19cFjFQliQRG7AUCo2MqbRkA4YhzgzoS7EQe4BQefNbBRJtyCsKn4B080k6fXxwCkuOaMFKMeEEaiEjVlZqCZ1Htz9MQdANpoqYDm5zA9IjGkib6hBeEpV2j4oiAkiSFB75gSAaW63Jv0uSA7mmFLTGlgAHFPnBU1VnC3uSi5znA6A0G2ea6u3qACCU7bW1xiBEojIM9ntNCgczLOuRWzAG3fG6RbkMANQOi9mJTRAxMrlzjJGbCUIOs2xAKgB6wWDB0gYMA5j31drDJeB1v0vG0C1DATOHice8J5AOTkDnAA0sB4vZcVUQETBbgUGvlzShAPWFYRfMFaBRq5s62OrEAmBsQeeQXaCNQUXZbBMKBsvw5gRMQTAacjuMdFFWAFWksy86pUAziHLFKrrAA8niQogORDAaT2ndfi2XEpFNYTj5RpBJFdaGbGQYBnIU3Ls54sAnD3snKIFBAeCxUnGlr3BVoZ62U9OEAC2BUYVpyfCTD6KGoTkvFFbjBq0QcVAGBvEyVcOcAL71xwQyDjA9Y53kIlbbAQZc0IUYDUBaVT5yUYHTAkPIjpMKfbAhC3KViOXUBIQazkuW4rBiRlnZEOMUAkV4l1R1BiCEfoZauV22B0sFNHpBB3AGGCwzaGF2Bq3n9gd4k1EKE2ky4WiRAPkyXcFDJlAi27a6C9ndAKBbAH4Zn6AJMJ5J9qnPBLVdhPh7UUA1Jj4H61jtA0JRN0chgkBZQHiKXJ0cDPWPdJKSkdEiGmt6zlZdEa0inkCmmUCTDZcB13YhC5SeReXlYjCnH65QCzAGAEed5QnfKUATKrfWU2NTAIwRgtJAC9A1hThxbipxBjXK4cgZqiF5cg4cQH74BtVDzoxUZKA67qFQ9VYxC3p5w1EqEtClUyyBswZnDnhorqkrTYB5erMJqxhPC55yKtW9NlCNsr3WFbWmB1k6EzheIPAfRfzashA4AYRWbuwbyFAtZ2vsKfhhArSqIzX78oAwnFZXvh9mBdVKlJe91hD92u6Kxfi8BrXFSX0ozsBNTMHavM47AJ6X8AM7fXAaVjdfP1xDA9099N1Re7BxFFVBJDD5BhGWL3wIscBbrHLU3KWMBZtv8XOiG0Ct3J83rDMCAPzER2z9G7EG9VVOX1IPBdhYpCMew5B4H5R8ULdGAI7P3RvTvzBTNaVGrs07CIr2i8f7VJA5GRX7RakxCRhusJ1GLsAA28QGkSuOByYVt0lc0xG6GQ7vaAGoAbiznD98VxAceNHTof2bAXQSWmtScaAfI34UD3XbAMJHvNcIfCBYeAqpPnTqAfYUJasGODB3S5yGfJutCZGxB07g2MDkZAEisYlTBlsTYtt7SRAEfcfBLwigACs4GWlYx3AMyIOQoSefBT9QB1VrnYDl3PJuAwxqBu4COO2EIsCizgTGLlZiBRHFPLLgUkBHL4lIOh0sC4zfDTI12aB5IkCWO6xLAzZ5l8Xkq6BGvj6X69AWA7jIVTXdF5A4MD4Pg6LIA0j0EcXrJHAUElcPZLryAoleztgDK4BLRJhp5IfyCwbbN1qmq3ADXdmgg0NmBPiaoJzgzWAe11Ott6XiA8rhsd8xvEE7iYVfVq2WAZeISiwnxFBT7QGGhk3vBlvpQkp4W4APIvBbN00UBPkLvH1pxeDFyA9JHfJ5AGbMD8YVVkAJv5XJBOIzBgd9gYPDl4B9wq1n7lXdCfAnroJd09AONxE4CcG9BN5piAObUXAPZhCqpnJ7FWEUcbDfeqBhienUePlKD9zYBJjBvaAkTXbhIzpIAY7erNQaqLA17XkafA7sC4hvQhzq0jBb8jnyzvFpAwO8dQVJ95CUBXtSqEzOAa7iwqYjvXA1hkX1WRaODgAJD6uh89B6IxV30LvvAn56rb8qLLAFirVQspRaAGGb0psAawBGMR7cJRpZD48cGUmnz0APzlUDXt04A0LrA66wZ7BFJRux7FEmC7UFar8urHA8dOfCdTdfCDdL3FM5xYAKVTtfjILyB2xkA45ngBA6zGSnG0OGBXjJAjnH11CiuwVHElj3A4ZbKzEJJqBbqyydKxrAAtdApNPbUGCCTRNUdS3cCfyC4JJdGEAFWZlHtX6PCMvmHSYJHABioS92oRoHAepebw52OKC17GNwaKemC36Fov8lzyAAbUIvryAkCnn8e2aRpsAC4aPwPKmcANX3oKzBx7AvcSXYh16VADn7NMZaJAA06gG2kwV7CChcSoHuGwAusmG3NwdfE16oe5vBZoCxvl74q599AVSPlsiEUFACe8ZCLaNhAMUMGVeEjTBBm4JrhIfJAToRo0oUSXAe9h0RdJ43AKzaGa8CMeCWpwT6sh6SB0Rj1N2eTOD1t06Tc3PEC2HUd06vfhAFcIKg4CmIA9BwsjYnt4AGC89QZQAiCpKjwzLGytAain57QXnzAOxkO9iWE8A6vijoeri5ARwu76YN8fAsE4Z8GK4yABmcxf2fBpBfPLEyxGhCA3XamUxrqzAWtV0mdueNAjpOI88XPOBGxEbRtaURAcGrs365xJAz9iCbkZ8qAREc1B9tcvAi3Yn8NHqGBFa1XertwACmRWZwoaXHBv1B9SbhsKAYg7cxs1CvD2Osui9HF3BGrTKG8gl3CGYb6PVjD8ARm5SEJDXUDX1EB8CRRpActHO1lq6GDeog5MSJdDBfCGOE1YYVBOck6qg3jgAQyTctdNIbF7MCniBl1BA4oKxdM9jgAcFhqeaOswCGyrBfeRJhDqjFtQYcOtAxcd8VCds3A06E8ozhcWGUBiYIzB5nAqXpeTcMAaCW5HwTYnv8A4tZIzvlkjAginDPtf4pAgFK2gWEtvBLYxFw4jhMASbzgnRdNeAtuU1ytHYyAm63V2JxVC
end PySem.W.Fast
open PySem PySem.W PyProof.Rows
set_option maxRecDepth 100000 in
set_option maxHeartbeats 0 in
theorem PySem.Challenge.cw_pageturns_k83_whole_back_again_holds : PySem.Challenge.rw_pageturns_k83_whole_back_again.Holds := by
 w_on;o_law;k_head;(case hw=>w_witness2)
 k_fill
 refine L2.IL (l:=PySem.Challenge.rw_pageturns_k83_whole_back_again) (n:=63) (k:=20) (x := "_law_script") (CX:=L2.WH) rfl (by decide) rfl ⟨rfl,by decide,by decide⟩ (fun w h Y=>PySem.W.km_in_of Y) (fun w h Y=>PySem.W.km_tabs_of Y) (fun w h Y=>L2.L9 Y (by trivial)) ?tF fun _ _ _ _ z=>z
 intro w mg fa h KX G PL
 refine My.RC PL ?_
 refine' L2.gvc KX G "Shelf" ?a1 ?b1 ?c1 ?d1 ?e1 ?f1 ?g1 fun M9 ak M_ k_Shelf=>?z1
 (case a1|b1|c1|d1|e1|f1|g1=>k_is)
 refine' L2.gvc KX G "Walk" ?a2 ?b2 ?c2 ?d2 ?e2 ?f2 ?g2 fun RD aG RE k_Walk=>?z2
 (case a2|b2|c2|d2|e2|f2|g2=>k_is)
 refine' L2.afx KX G (l:=[17,18,19,20,21,22,23,24,25,26,29,30,31,32,33,34,35,41,42,43,44,45,46,47,48,49,50,51,57,58,59,60,61,62,63,65,66,67,69,75,76,77,78,79,80,81,82,83,84,85,89,95,96,97,98,99,100,101,102,103,104,105,106,107,108,109,110,111,112,113]) (top:=My.top) ?xF fun f0 g0 A0=>?zF
 case xF =>
  repeat' (refine' L2.af KX G _ (by decide) ?a ?b ?c ?d ?e ?_;(case a|b|c|d=>k_is);(case e=>first|exact L2.R9 fun _=>rfl|exact L2.ln2 fun _ _=>rfl|exact L2.R_ fun _ _ _=>rfl|exact L2.Xe fun _ _ _ _=>rfl|exact L2.Vo fun _ _ _ _ _=>rfl|exact L2.Mj fun _ _ _ _ _ _=>rfl|exact L2.wA fun _=>L2.Mj fun _ _ _ _ _ _=>rfl|exact L2.Xd rfl))
  exact L2.af0
 refine' L2.amx ak (l:=[0,1,2,3,4,5,6,7,8,13]) (q := "Shelf.") (cl:=My.bu) ?xMShelf fun CH aaV DK=>?zMShelf
 case xMShelf =>
  repeat' (refine' L2.am ak _ (by decide) ?a ?b ?c ?d ?f ?e ?_;(case a|b|c|d|f=>k_is);(case e=>first|exact L2.R9 fun _=>rfl|exact L2.ln2 fun _ _=>rfl|exact L2.R_ fun _ _ _=>rfl|exact L2.Xe fun _ _ _ _=>rfl|exact L2.Vo fun _ _ _ _ _=>rfl|exact L2.Mj fun _ _ _ _ _ _=>rfl|exact L2.wA fun _=>L2.Mj fun _ _ _ _ _ _=>rfl|exact L2.Xd rfl))
  exact L2.am0
 refine' L2.amx aG (l:=[0,1,2,5,10,11,12,13,14]) (q := "Walk.") (cl:=My.fM) ?xMWalk fun IX acp Ke=>?zMWalk
 case xMWalk =>
  repeat' (refine' L2.am aG _ (by decide) ?a ?b ?c ?d ?f ?e ?_;(case a|b|c|d|f=>k_is);(case e=>first|exact L2.R9 fun _=>rfl|exact L2.ln2 fun _ _=>rfl|exact L2.R_ fun _ _ _=>rfl|exact L2.Xe fun _ _ _ _=>rfl|exact L2.Vo fun _ _ _ _ _=>rfl|exact L2.Mj fun _ _ _ _ _ _=>rfl|exact L2.wA fun _=>L2.Mj fun _ _ _ _ _ _=>rfl|exact L2.Xd rfl))
  exact L2.am0
 refine' L2.ZS KX G "sorted_by_keys" (My.top 68) ["rows","way"] ?a3 ?b3 ?c3 ?d3 ?e3 fun d0 e0 B0 F0=>?z3
 (case a3|b3|c3|d3=>k_is)
 (case e3=>exact L2.ln2 fun _ _=>rfl)
 refine' L2.ZS KX G "sorted_by_values" (My.top 70) ["columns","part","rows"] ?a4 ?b4 ?c4 ?d4 ?e4 fun d1 e1 B1 F1=>?z4
 (case a4|b4|c4|d4=>k_is)
 (case e4=>exact L2.R_ fun _ _ _=>rfl)
 refine' L2.QI KX G "page_on" (My.top 73) ["shelf","order","sieve","size","gap","moment"] #[.none,.none] ?a5 ?b5 ?c5 ?d5 ?e5 ?f5 ?g5 fun d2 F2 D2=>?z5
 (case a5|b5|c5|d5|e5=>k_is)
 (case f5=>intro s us t;revert us;exact L2.Mj fun _ _ _ _ _ _=>.of_defaults rfl t rfl rfl rfl)
 (case g5=>intro s us t;revert us;exact L2.QG fun _ _ _ _ _=>.of_defaults rfl t rfl rfl rfl)
 refine' L2.QI KX G "page_back" (My.top 74) ["shelf","order","sieve","size","gap","moment"] #[.none,.none] ?a6 ?b6 ?c6 ?d6 ?e6 ?f6 ?g6 fun d3 F3 D3=>?z6
 (case a6|b6|c6|d6|e6=>k_is)
 (case f6=>intro s us t;revert us;exact L2.Mj fun _ _ _ _ _ _=>.of_defaults rfl t rfl rfl rfl)
 (case g6=>intro s us t;revert us;exact L2.QG fun _ _ _ _ _=>.of_defaults rfl t rfl rfl rfl)
 refine' L2.QI KX G "stretch" (My.top 86) ["shelf","order","sieve","fore","hinder","moment"] #[.none,.none,.none] ?a7 ?b7 ?c7 ?d7 ?e7 ?f7 ?g7 fun d4 F4 D4=>?z7
 (case a7|b7|c7|d7|e7=>k_is)
 (case f7=>intro s us t;revert us;exact L2.Mj fun _ _ _ _ _ _=>.of_defaults rfl t rfl rfl rfl)
 (case g7=>intro s us t;revert us;exact L2.QG fun _ _ _ _ _=>.of_defaults rfl t rfl rfl rfl)
 refine' L2.ZS KX G "law" (My.top 114) ["_law_script"] ?a8 ?b8 ?c8 ?d8 ?e8 fun d5 e5 B5 F5=>?z8
 (case a8|b8|c8|d8=>k_is)
 (case e8=>exact L2.R9 fun _=>rfl)
 refine' L2.fmd ak "worths_at" "Shelf.worths_at" ((L2.inClass My.bu 9)) ["self","key","moment"] ?a9 ?b9 ?c9 ?d9 ?e9 ?f9 ?g9 ?h9 fun d6 F6 D6=>?z9
 (case a9|b9|c9|d9|e9|f9=>k_is)
 (case g9=>intro s us t;revert us;exact L2.R_ fun _ _ _=>.of_defaults rfl t rfl rfl rfl)
 (case h9=>intro s us t;revert us;exact L2.ZU fun _ _=>.of_defaults rfl t rfl rfl rfl)
 refine' L2.fmd ak "all_at" "Shelf.all_at" ((L2.inClass My.bu 10)) ["self","moment"] ?a10 ?b10 ?c10 ?d10 ?e10 ?f10 ?g10 ?h10 fun d7 F7 D7=>?z10
 (case a10|b10|c10|d10|e10|f10=>k_is)
 (case g10=>intro s us t;revert us;exact L2.ln2 fun _ _=>.of_defaults rfl t rfl rfl rfl)
 (case h10=>intro s us t;revert us;exact L2.ZT fun _=>.of_defaults rfl t rfl rfl rfl)
 refine' L2.Mg KX G "MOST_NAME_SIGNS" 8 ?a11 fun n8=>?z11
 (case a11=>k_is)
 refine' L2.Mg KX G "MOST_KEY_SIGNS" 12 ?a12 fun pL=>?z12
 (case a12=>k_is)
 refine' L2.Mg KX G "MOST_WORD_SIGNS" 40 ?a13 fun n_=>?z13
 (case a13=>k_is)
 refine' L2.Mg KX G "MOST_COLUMNS" 8 ?a14 fun t6=>?z14
 (case a14=>k_is)
 refine' L2.Mg KX G "MOST_PARTS_orders" 8 ?a15 fun k7=>?z15
 (case a15=>k_is)
 refine' L2.Mg KX G "MOST_DEEP" 8 ?a16 fun Bi=>?z16
 (case a16=>k_is)
 refine' L2.Mg KX G "MOST_PARTS_sieves" 200 ?a17 fun k8=>?z17
 (case a17=>k_is)
 refine' L2.Mg KX G "MOST_IN_A_TUPLE" 8 ?a18 fun oa=>?z18
 (case a18=>k_is)
 refine' L2.Mg KX G "MOST_ROWS" 1000 ?a19 fun Bj=>?z19
 (case a19=>k_is)
 refine' L2.gvs KX G "START" "start" ?a20 fun Na=>?z20
 (case a20=>k_is)
 refine' L2.gvs KX G "END" "end" ?a21 fun Wh=>?z21
 (case a21=>k_is)
 refine' L2.Vn KX G "KINDS" ?a22 ?b22 fun Nb w_KINDS=>?z22
 (case a22|b22=>k_is)
 refine' L2.Vn KX G "OTHER_WAY" ?a23 ?b23 fun Bk w_OTHER_WAY=>?z23
 (case a23|b23=>k_is)
 refine' L2.Vn KX G "OTHER_END" ?a24 ?b24 fun Bl w_OTHER_END=>?z24
 (case a24|b24=>k_is)
 refine' L2.Vn KX G "OTHER_SIDE" ?a25 ?b25 fun xK w_OTHER_SIDE=>?z25
 (case a25|b25=>k_is)
 refine' L2.Vn KX G "LENGTHS" ?a26 ?b26 fun G4 w_LENGTHS=>?z26
 (case a26|b26=>k_is)
 refine' L2.Bw KX G "len" ?a27 fun Wi=>?z27
 (case a27=>k_is)
 refine' L2.Bw KX G "all" ?a28 fun Wj=>?z28
 (case a28=>k_is)
 refine' L2.Bw KX G "any" ?a29 fun Wl=>?z29
 (case a29=>k_is)
 refine' L2.Bw KX G "isinstance" ?a30 fun xM=>?z30
 (case a30=>k_is)
 refine' L2.Bw KX G "range" ?a31 fun Nc=>?z31
 (case a31=>k_is)
 refine' L2.Bw KX G "int" ?a32 fun Wm=>?z32
 (case a32=>k_is)
 refine' L2.Bw KX G "str" ?a33 fun Wn=>?z33
 (case a33=>k_is)
 refine' L2.Bw KX G "bool" ?a34 fun RF=>?z34
 (case a34=>k_is)
 refine' L2.Bw KX G "tuple" ?a35 fun Nd=>?z35
 (case a35=>k_is)
 refine' L2.Bw KX G "dict" ?a36 fun RG=>?z36
 (case a36=>k_is)
 refine' L2.Bw KX G "set" ?a37 fun Wo=>?z37
 (case a37=>k_is)
 refine' L2.Bw KX G "zip" ?a38 fun Wq=>?z38
 (case a38=>k_is)
 refine' L2.Bw KX G "sorted" ?a39 fun Kf=>?z39
 (case a39=>k_is)
 refine' L2.Bw KX G "min" ?a40 fun Wr=>?z40
 (case a40=>k_is)
 refine' L2.Bw KX G "max" ?a41 fun Ws=>?z41
 (case a41=>k_is)
 refine' L2.Bw KX G "reversed" ?a42 fun DL=>?z42
 (case a42=>k_is)
 refine' L2.Mh KX G "BadColumns" ?a43 ?b43 fun xN dR=>?z43
 (case a43=>k_is)
 (case b43=>k_exc)
 refine' L2.Mh KX G "BadRow" ?a44 ?b44 fun Kg ik=>?z44
 (case a44=>k_is)
 (case b44=>k_exc)
 refine' L2.Mh KX G "BadOrder" ?a45 ?b45 fun DM dH=>?z45
 (case a45=>k_is)
 (case b45=>k_exc)
 refine' L2.Mh KX G "BadSieve" ?a46 ?b46 fun DN iO=>?z46
 (case a46=>k_is)
 (case b46=>k_exc)
 refine' L2.Mh KX G "BadPlace" ?a47 ?b47 fun DP dI=>?z47
 (case a47=>k_is)
 (case b47=>k_exc)
 refine' L2.Mh KX G "BadSize" ?a48 ?b48 fun G5 oJ=>?z48
 (case a48=>k_is)
 (case b48=>k_exc)
 refine' L2.Mh KX G "HasKey" ?a49 ?b49 fun Kh sU=>?z49
 (case a49=>k_is)
 (case b49=>k_exc)
 refine' L2.Mh KX G "NoKey" ?a50 ?b50 fun Nf wJ=>?z50
 (case a50=>k_is)
 (case b50=>k_exc)
 refine' L2.Mh KX G "NoMoment" ?a51 ?b51 fun DQ l9=>?z51
 (case a51=>k_is)
 (case b51=>k_exc)
 refine' L2.Mi ak "columns" ?a52 fun qN=>?z52
 (case a52=>k_is)
 refine' L2.Mi ak "deeds" ?a53 fun uP=>?z53
 (case a53=>k_is)
 refine' L2.Mi ak "runs" ?a54 fun xO=>?z54
 (case a54=>k_is)
 refine' L2.Mi aG "shelf" ?a55 fun xP=>?z55
 (case a55=>k_is)
 refine' L2.Mi aG "order" ?a56 fun xQ=>?z56
 (case a56=>k_is)
 refine' L2.Mi aG "sieve" ?a57 fun xR=>?z57
 (case a57=>k_is)
 refine' L2.Mi aG "size" ?a58 fun Bn=>?z58
 (case a58=>k_is)
 refine' L2.Mi aG "fore" ?a59 fun Bo=>?z59
 (case a59=>k_is)
 refine' L2.Mi aG "hinder" ?a60 fun uQ=>?z60
 (case a60=>k_is)
 refine' L2.gvm KX e0 ?a61 ?b61 ?c61 fun pM=>?z61
 (case a61=>k_is)
 (case b61=>rfl)
 (case c61=>first|rfl|decide|simp [codeHdIn])
 refine' L2.gvm KX e1 ?a62 ?b62 ?c62 fun mC=>?z62
 (case a62=>k_is)
 (case b62=>rfl)
 (case c62=>first|rfl|decide|simp [codeHdIn])
 exact⟨⟨_,_,_,_,_,_,_,_,_,_,_,_,_,_,_,_,_,_,_,_,_,_,_,_,_,_,_,_,_,_,_,_,_,_,_,_,_,_,_,_,_,_,_,_,_,_,_,_,_,_,_,_,_,_⟩,rfl,⟨A0,DK,Ke,F0,F1,F2,D2,F3,D3,F4,D4,F5,F6,D6,F7,D7,n8,pL,n_,t6,k7,Bi,k8,oa,Bj,Na,Wh,Nb,fun H=>L2.NC (xs:=[.str "number",.str "word"]) ⟨_,_,_,w_KINDS,rfl,rfl,(by rw[ye];show 2≤16777216;decide),.cons ⟨_,rfl⟩ (.cons ⟨_,rfl⟩ (.nil))⟩ (L2.wd ["number","word"]),Bk,⟨by first|rfl|decide,_,_,_,w_OTHER_WAY,⟨rfl,rfl,rfl⟩,rfl,.cons ⟨rfl,⟨_,rfl⟩,⟨_,rfl⟩⟩ (.cons ⟨rfl,⟨_,rfl⟩,⟨_,rfl⟩⟩ (.nil)),by trivial⟩,Bl,⟨by first|rfl|decide,_,_,_,w_OTHER_END,⟨rfl,rfl,rfl⟩,rfl,.cons ⟨rfl,⟨_,rfl⟩,⟨_,rfl⟩⟩ (.cons ⟨rfl,⟨_,rfl⟩,⟨_,rfl⟩⟩ (.nil)),by trivial⟩,xK,⟨by first|rfl|decide,_,_,_,w_OTHER_SIDE,⟨rfl,rfl,rfl⟩,rfl,.cons ⟨rfl,⟨_,rfl⟩,⟨_,rfl⟩⟩ (.cons ⟨rfl,⟨_,rfl⟩,⟨_,rfl⟩⟩ (.nil)),by trivial⟩,G4,⟨by first|rfl|decide,_,_,_,w_LENGTHS,⟨rfl,rfl,rfl⟩,rfl,.cons ⟨rfl,⟨_,rfl⟩,⟨_,rfl⟩⟩ (.cons ⟨rfl,⟨_,rfl⟩,⟨_,rfl⟩⟩ (.cons ⟨rfl,⟨_,rfl⟩,⟨_,rfl⟩⟩ (.cons ⟨rfl,⟨_,rfl⟩,⟨_,rfl⟩⟩ (.cons ⟨rfl,⟨_,rfl⟩,⟨_,rfl⟩⟩ (.cons ⟨rfl,⟨_,rfl⟩,⟨_,rfl⟩⟩ (.cons ⟨rfl,⟨_,rfl⟩,⟨_,rfl⟩⟩ (.cons ⟨rfl,⟨_,rfl⟩,⟨_,rfl⟩⟩ (.cons ⟨rfl,⟨_,rfl⟩,⟨_,rfl⟩⟩ (.nil))))))))),by trivial⟩,Wi,Wj,Wl,xM,Nc,Wm,Wn,RF,Nd,RG,Wo,Wq,Kf,Wr,Ws,DL,xN,dR,Kg,ik,DM,dH,DN,iO,DP,dI,G5,oJ,Kh,sU,Nf,wJ,DQ,l9,M9,ak,⟨M_,(DK 0 (by decide)).e.at_,(DK 0 (by decide)).e.fn,k_Shelf⟩,qN,uP,xO,RD,aG,⟨RE,(Ke 0 (by decide)).e.at_,(Ke 0 (by decide)).e.fn,k_Walk⟩,xP,xQ,xR,Bn,Bo,uQ,e0,pM,by simp,e1,mC,by simp,by simp,by simp,fun s v=>B5 s [v] rfl⟩⟩
