import PyProof.Rows.All
import Wide.All
import OpenK.AllK
import Wide.FinOn
import Lean
import PyProof.EqAt
import PyProof.EqKinds
import PyProof.TupleCall
import PyProof.NsDelKeeps
import KE.KIsBytes
import PyProof.Rows.SetFrom
import KE.KDictOf
import PyProof.AttrMissSeq
import PyProof.WalksMore
import PyProof.ZipIter
import PyProof.StrBlock2
import PyProof.StrBlockI
import PyProof.Rows.StrJoin2
import PyProof.Rows.CountFlat
import PyProof.Rows.Range3
import PyProof.SumWalkG
import PyProof.Rows.ListMulArg
import PyProof.FactsAll.tuple
import PyProof.EnumFor
import PyProof.EnumMake
import KE.KDictLaws
import KE.KDictSum
import KE.KRevIter
import PyProof.Rows.SortStr
import PyProof.Rows.SortWalk
import PyProof.AutoListH
import PyProof.StrLawsReplace
import PyProof.Rows.SortShellK
import KE.KLam
import KE.KSortKey
import KE.KNestM
import PyProof.EnumStmt
import PyProof.ListMulRoad
import PySem.Challenge.RW_pageturns_k43_several_walks
set_option compiler.extract_closed false
set_option hygiene false in
local macro_rules|`(tactic|obtain $p:rcasesPatMed)=>`(tactic|(rintro _ _ _ _ _ _ _ S R Z hr ($p:rcasesPatMed);subst e))
local macro_rules|`(tactic| trivial)=>`(tactic| decide +kernel)
set_option Elab.async false
set_option linter.all false
set_option maxRecDepth 100000
set_option genInjectivity false
set_option genSizeOfSpec false
namespace Tactic
theorem qQQ(h:True:=by rfl):True:=h
def qQJ:Lean.Syntax:=qQQ._auto_1
theorem qQX(h:True:=by decide):True:=h
def qQZ:Lean.Syntax:=qQX._auto_1
theorem qQK(h:True:=by intro _;rfl):True:=h
def qQ0:Lean.Syntax:=qQK._auto_1
theorem qQ1(h:True:=by with_unfolding_all rfl):True:=h
def qQ2:Lean.Syntax:=qQ1._auto_1
theorem qQ3(h:True:=by exact⟨rfl,rfl,rfl,rfl⟩):True:=h
def qQ4:Lean.Syntax:=qQ3._auto_1
theorem qQ5(h:True:=by first|exact .inl rfl|exact .inr rfl|assumption):True:=h
def qQ6:Lean.Syntax:=qQ5._auto_1
theorem qQ7(h:True:=by first|exact .inl rfl|exact .inr rfl):True:=h
def qQ8:Lean.Syntax:=qQ7._auto_1
theorem qQ9(h:True:=by intro _ _ _ _ _;exact{Or.inl rfl,rfl}):True:=h
def qJQ:Lean.Syntax:=qQ9._auto_1
theorem qJJ(h:True:=by trivial):True:=h
def qJX:Lean.Syntax:=qJJ._auto_1
theorem qJZ(h:True:=by first|decide|omega):True:=h
def qJK:Lean.Syntax:=qJZ._auto_1
theorem qJ0(h:True:=by first|exact Or.inl rfl|exact Or.inr rfl):True:=h
def qJ1:Lean.Syntax:=qJ0._auto_1
theorem qJ2(h:True:=by intro _ _ _ _ _;rfl):True:=h
def qJ3:Lean.Syntax:=qJ2._auto_1
local macro_rules|`({$a:term})=>`(⟨$a⟩)|`({$a:term,$b:term,*})=>`(⟨$a,$b,*⟩)
local macro_rules|`(!$t)=>do{let mut t:=t;let mut n:=1;for _ in [0:20] do{if let `(!$u):=t then{t:=u;n:=n+1}};let xs←(match t with|`(⟨$x,*⟩)=>pure x.getElems|`({$x:term,$y:term,*})=>pure (#[x]++y.getElems)|_=>Lean.Macro.throwUnsupported);let mut a:=xs;for _ in [0:n] do{a:=#[←`(_),←`(rfl)]++a};`(⟨$a,*⟩)}
open PySem.W (instObj methodObj hideAll hideAll_get of_hideAll Frag lookIn plainGet hasDictIn findIn handedIn plainGet_of isFn plainOver takerIn makesIn emptyDict specialIn keepIn mroIn kitOne kia_one kitx_list fnOf codeIn excIn callWith_K methodCall_KW envX kla_fn codeHdIn tabObj codeHd_of_K nsIn mg_of)
theorem za:type_of%@PySem.Heap.get?_push_of_some:=@PySem.Heap.get?_push_of_some
theorem zb:type_of%@List.length_map:=@List.length_map
theorem zc:type_of%@PySem.wpAny_bind:=@PySem.wpAny_bind
theorem zd:type_of%@Bool.false_ne_true:=@Bool.false_ne_true
theorem ze:type_of%@List.getElem?_eq_some_iff:=@List.getElem?_eq_some_iff
theorem zf:type_of%@List.getElem?_map:=@List.getElem?_map
theorem zg:type_of%@List.getElem?_eq_getElem:=@List.getElem?_eq_getElem
theorem zh:type_of%@List.mem_cons_of_mem:=@List.mem_cons_of_mem
theorem zi:type_of%@List.mem_cons:=@List.mem_cons
theorem zj:type_of%@List.mem_map:=@List.mem_map
theorem zk:type_of%@PySem.Heap.get?_push_size:=@PySem.Heap.get?_push_size
theorem zm:type_of%@List.mem_cons_self:=@List.mem_cons_self
theorem zo:type_of%@List.mem_of_getElem?:=@List.mem_of_getElem?
theorem zp:type_of%@Nat.le_refl:=@Nat.le_refl
theorem zq:type_of%@List.size_toArray:=@List.size_toArray
theorem zr:type_of%@Nat.lt_of_lt_of_le:=@Nat.lt_of_lt_of_le
theorem zt:type_of%@of_decide_eq_true:=@of_decide_eq_true
theorem zu:type_of%@List.map_cons:=@List.map_cons
theorem zw:type_of%@PySem.Heap.lt_size:=@PySem.Heap.lt_size
theorem zx:type_of%@List.length_append:=@List.length_append
theorem zy:type_of%@List.map_append:=@List.map_append
theorem zA:type_of%@List.mem_singleton:=@List.mem_singleton
theorem zB:type_of%@decide_eq_false:=@decide_eq_false
theorem zC:type_of%@decide_eq_true:=@decide_eq_true
theorem zD:type_of%@PySem.wpAny_pure:=@PySem.wpAny_pure
theorem zE:type_of%@Nat.ne_of_lt:=@Nat.ne_of_lt
theorem zG:type_of%@List.map_map:=@List.map_map
theorem zH:type_of%@List.not_mem_nil:=@List.not_mem_nil
theorem zI:type_of%@List.mem_append_right:=@List.mem_append_right
theorem zJ:type_of%@List.getD_eq_getElem?_getD:=@List.getD_eq_getElem?_getD
theorem zK:type_of%@PySem.F.plainAttrs_list:=@PySem.F.plainAttrs_list
theorem zL:type_of%@List.mem_append:=@List.mem_append
theorem zM:type_of%@Bool.and_eq_true:=@Bool.and_eq_true
theorem zN:type_of%@Int.emod_lt_of_pos:=@Int.emod_lt_of_pos
theorem zO:type_of%@Nat.le_trans:=@Nat.le_trans
theorem zP:type_of%@Int.emod_nonneg:=@Int.emod_nonneg
theorem zQ:type_of%@PySem.F.slot_list_append:=@PySem.F.slot_list_append
theorem zR:type_of%@PySem.F.type_list_append:=@PySem.F.type_list_append
theorem zS:type_of%@List.length_cons:=@List.length_cons
theorem zT:type_of%@Nat.zero_le:=@Nat.zero_le
theorem zU:type_of%@Option.some.inj:=@Option.some.inj
theorem zV:type_of%@List.mem_range:=@List.mem_range
theorem zW:type_of%@List.map_congr_left:=@List.map_congr_left
theorem zX:type_of%@Bool.false_and:=@Bool.false_and
theorem zY:type_of%@decide_eq_true_eq:=@decide_eq_true_eq
theorem zZ:type_of%@List.getElem?_of_mem:=@List.getElem?_of_mem
theorem ya:type_of%@List.find?_cons:=@List.find?_cons
theorem yb:type_of%@PySem.Heap.size_push:=@PySem.Heap.size_push
theorem yc:type_of%@Bool.true_and:=@Bool.true_and
theorem yd:type_of%@PySem.sizeLine_eq:=@PySem.sizeLine_eq
theorem ye:type_of%@List.mem_append_left:=@List.mem_append_left
theorem yf:type_of%@List.lookup_cons:=@List.lookup_cons
theorem yg:type_of%@List.all_eq_true:=@List.all_eq_true
theorem yh:type_of%@of_decide_eq_false:=@of_decide_eq_false
theorem yi:type_of%@PySem.wpAny_field:=@PySem.wpAny_field
theorem yj:type_of%@List.getElem?_set_self:=@List.getElem?_set_self
theorem yk:type_of%@List.getElem?_set_ne:=@List.getElem?_set_ne
theorem ym:type_of%@PySem.mem_of_lookup:=@PySem.mem_of_lookup
theorem yn:type_of%@decide_eq_false_iff_not:=@decide_eq_false_iff_not
theorem yo:type_of%@Nat.ne_of_gt:=@Nat.ne_of_gt
theorem yp:type_of%@List.nodup_cons:=@List.nodup_cons
theorem yq:type_of%@PySem.Heap.get?_update_other:=@PySem.Heap.get?_update_other
theorem yr:type_of%@List.take_length:=@List.take_length
theorem yt:type_of%@Array.length_toList:=@Array.length_toList
theorem yu:type_of%@PySem.wpAny_truthy_bool:=@PySem.wpAny_truthy_bool
theorem yw:type_of%@PySem.Heap.get?_update_self:=@PySem.Heap.get?_update_self
theorem yx:type_of%@PySem.F.slot_dict_get:=@PySem.F.slot_dict_get
theorem yy:type_of%@PySem.Obj.data_mapFields:=@PySem.Obj.data_mapFields
theorem yz:type_of%@List.length_take:=@List.length_take
theorem yA:type_of%@Nat.lt_irrefl:=@Nat.lt_irrefl
theorem yB:type_of%@PySem.Heap.SameBut.update:=@PySem.Heap.SameBut.update
theorem yC:type_of%@List.length_reverse:=@List.length_reverse
theorem yD:type_of%@List.mem_filter:=@List.mem_filter
theorem yE:type_of%@Bool.eq_iff_iff:=@Bool.eq_iff_iff
theorem yF:type_of%@PySem.Calls.spliced_cons:=@PySem.Calls.spliced_cons
theorem yG:type_of%@PySem.Paired.length:=@PySem.Paired.length
theorem yH:type_of%@PySem.wpAny_mono:=@PySem.wpAny_mono
theorem yI:type_of%@PySem.wpAny_newObj_type:=@PySem.wpAny_newObj_type
theorem yJ:type_of%@Bool.or_eq_true:=@Bool.or_eq_true
theorem yK:type_of%@Sum.inr.inj:=@Sum.inr.inj
theorem yL:type_of%@PySem.wpAny_holding:=@PySem.wpAny_holding
theorem yM:type_of%@PySem.wpAny_call_entry:=@PySem.wpAny_call_entry
theorem yN:type_of%@decide_eq_decide:=@decide_eq_decide
theorem yO:type_of%@Nat.le_of_lt:=@Nat.le_of_lt
theorem yP:type_of%@List.foldl_cons:=@List.foldl_cons
theorem yQ:type_of%@PySem.codeAny_builtin:=@PySem.codeAny_builtin
theorem yR:type_of%@List.any_cons:=@List.any_cons
theorem yS:type_of%@PySem.wpAny_setField:=@PySem.wpAny_setField
theorem yT:type_of%@Nat.le_succ:=@Nat.le_succ
theorem yU:type_of%@PySem.codeAny_mono:=@PySem.codeAny_mono
theorem yV:type_of%@Bool.false_or:=@Bool.false_or
theorem yW:type_of%@Bool.and_self:=@Bool.and_self
theorem yX:type_of%@PySem.wpAny_of_eq:=@PySem.wpAny_of_eq
namespace L2
open PySem PySem.Spec PyProof.Rows
abbrev Key:=Sum Int Str
def keyIs:Key->Value->Bool|.inl k,v=>Value.isInt k v|.inr x,v=>Value.isStrOf x v
def XQ(w:World):Key->Int|.inl k=>hashInt k|.inr x=>hashStr w x
theorem bD:∀{k:Key}{v:Value},keyIs k v=true->(∃i t,k=Sum.inl i/\v=Value.int i t)\/(∃x t,k=Sum.inr x/\v=Value.str x t)|.inl i,v,h=>(by obtain⟨t,e⟩:=Value.isInt_shape (k:=i) (v:=v) h;exact .inl ⟨i,t,rfl,e⟩)|.inr x,v,h=>by obtain⟨t,e⟩:=Value.isStrOf_shape (x:=x) (v:=v) h;exact .inr ⟨x,t,rfl,e⟩
theorem EO(i:Int)(t:Tok):keyIs (.inl i) (.int i t)=true:=by simp[keyIs,Value.isInt]
theorem ER(x:Str)(t:Tok):keyIs (.inr x) (.str x t)=true:=by simp[keyIs,Value.isStrOf]
theorem OF(a b:Int):decide ((Sum.inl a:Key)=Sum.inl b)=(a==b):=by by_cases e:a=b;subst e;simp;have h:¬(Sum.inl a:Key)=Sum.inl b:=λq=>e<|Sum.inl.inj q;rw[zB h];exact(beq_eq_false_iff_ne.mpr e).symm
theorem OG(a b:Str):decide ((Sum.inr a:Key)=Sum.inr b)=decide (a=b):=by by_cases e:a=b;subst e;simp;have h:¬(Sum.inr a:Key)=Sum.inr b:=λq=>e<|yK q;rw[zB h,zB e]
theorem OH(a:Int)(b:Str):decide ((Sum.inl a:Key)=Sum.inr b)=false:=zB λq=>nomatch q
theorem OI(a:Str)(b:Int):decide ((Sum.inr a:Key)=Sum.inl b)=false:=zB λq=>nomatch q
def aH(prog:Program)(w:World):PySem.KeyKind prog w Key where
 is:=keyIs
 hash:=XQ w
 inj:=λv a b ha hb=>by
  rcases bD ha with⟨i,t,rfl,rfl⟩|⟨x,t,rfl,rfl⟩
  ·rcases bD hb with⟨j,u,rfl,e⟩|⟨y,u,rfl,e⟩
   ·injection e with e1 _;rw[e1]
   ·exact nomatch e
  ·rcases bD hb with⟨j,u,rfl,e⟩|⟨y,u,rfl,e⟩
   ·exact nomatch e
   ·injection e with e1 _;rw[e1]
 byValue:=λk v h=>by
  rcases bD h with⟨i,t,rfl,rfl⟩|⟨x,t,rfl,rfl⟩<;>rfl
 pyHash:=λhv h=>by
  rcases bD hv with⟨i,t,rfl,rfl⟩|⟨x,t,rfl,rfl⟩
  ·exact wpAny_pyHash_int h
  ·exact wpAny_pyHash_str h
 eqBool:=λhu hv h=>by
  rcases bD hu with⟨i,t,rfl,rfl⟩|⟨x,t,rfl,rfl⟩
  ·rcases bD hv with⟨j,u,rfl,rfl⟩|⟨y,u,rfl,rfl⟩
   ·rw[OF]at h;exact wpAny_eqBool_int h
   ·rw[OH]at h;exact SeqAt.EqAt.int_str i t y u _ _ _ _ h
  ·rcases bD hv with⟨j,u,rfl,rfl⟩|⟨y,u,rfl,rfl⟩
   ·rw[OI]at h;exact SeqAt.EqAt.str_int x t j u _ _ _ _ h
   ·rw[OG]at h;exact wpAny_eqBool_str h
 «strs»:=λk x t v h=>by
  rcases bD h with⟨i,u,rfl,e⟩|⟨y,u,rfl,e⟩
  ·exact nomatch e
  ·injection e with e1 _
   subst e1
   cases v<;>rfl
theorem xE(prog:Program)(w:World)(i:Int)(t:Tok):(aH prog w).is (.inl i) (.int i t)=true:=EO i t
theorem jo(prog:Program)(w:World)(x:Str)(t:Tok):(aH prog w).is (.inr x) (.str x t)=true:=ER x t
set_option genInjectivity true in
set_option genSizeOfSpec true in
inductive V where
 |av|bl (b:Bool)|int (i:Int)|str (x:Str)|Dq (b:Array UInt8)|OJ (b:UInt64)|ref (a:Addr)|ty (n:String)
 deriving DecidableEq
def RelV:V->Value->Prop|.av,u=>u=Value.none|.bl b,u=>u=Value.bool b|.int i,u=>∃t,u=Value.int i t|.str x,u=>∃t,u=Value.str x t|.Dq b,u=>∃t,u=Value.bytes b t|.OJ b,u=>∃t,u=Value.float b t|.ref a,u=>u=Value.ref a|.ty n,u=>u=Value.type n
abbrev Vals:List V->List Value->Prop:=Paired RelV
theorem Vals.length{xs:List V}{us:List Value}(r:Vals xs us):xs.length=us.length:=yG r
theorem Vals.get:∀{xs:List V}{us:List Value}{i:Nat}{x:V},Vals xs us->xs[i]?=some x->∃u,us[i]?=some u/\RelV x u|_,_,_,_,.nil,e=>by simp at e|_,_,0,_,.cons r _,e=>by simp at e;subst e;exact{_,rfl,r}|_,_,i+1,x,.cons _ t,e=>by obtain⟨u,h1,h2⟩:=Vals.get (i:=i) (x:=x) t (by simpa using e);exact{u,by simpa using h1,h2}
theorem Vals.set(r:RelV x u):∀{xs:List V}{us:List Value}(i:Nat),Vals xs us->Vals (xs.set i x) (us.set i u)|_,_,_,.nil=>.nil|_,_,0,.cons _ t=>.cons r t|_,_,i+1,.cons q t=>.cons q<|Vals.set r i t
theorem Vals.append:∀{xs ys:List V}{us ws:List Value},Vals xs us->Vals ys ws->Vals (xs++ys) (us++ws)|_,_,_,_,.nil,s=>s|_,_,_,_,.cons r t,s=>.cons r<|Vals.append t s
theorem Vals.take:∀{xs:List V}{us:List Value}(n:Nat),Vals xs us->Vals (xs.take n) (us.take n)|_,_,0,_=>.nil|_,_,_+1,.nil=>.nil|_,_,n+1,.cons r t=>.cons r<|Vals.take n t
theorem Vals.drop:∀{xs:List V}{us:List Value}(n:Nat),Vals xs us->Vals (xs.drop n) (us.drop n)|_,_,0,r=>r|_,_,_+1,.nil=>.nil|_,_,n+1,.cons _ t=>Vals.drop n t
def gp:Option V->Option Value->Prop|some v,some u=>RelV v u|none,none=>True|_,_=>False
def KV{κ:Type} : List (κ×V)->List (κ×Value)->Prop:=Paired λ(p:κ×V)(q:κ×Value)=>p.1=q.1/\RelV p.2 q.2
def kV:Key->V|.inl i=>.int i|.inr x=>.str x
set_option genInjectivity true in
set_option genSizeOfSpec true in
inductive HO where
  |lst (xs:List V)
  |tup (xs:List V)
  |dK (kvs:List<|Key×V)|dT (kvs:List<|List Key×V)
  |set (S:Int->Bool) (n:Nat)
  |ins (C dx:Addr) (fs:List<|Str×V)
  |own (x:Addr)
  |xd (fs:List<|Str×V)
  |met (f x:Addr)
  |WK (lo hi:Int)
  |lK (o:Obj) (u:HO)
  |qk (ps:Array Value)
  |ext (φ:Heap->Prop)
abbrev Hp:=Addr->Option HO
noncomputable def upd(H:Hp)(a:Addr)(o:HO):Hp:=λb=>if b=a then some o else H b
theorem aE{H:Hp}{a:Addr}{o:HO} : upd H a o a=some o:=by unfold upd;rw[if_pos rfl]
theorem aw{H:Hp}{a b:Addr}{o:HO}(h:b≠a):upd H a o b=H b:=by unfold upd;rw[if_neg h]
theorem aF{H:Hp}{a b:Addr}{o:HO}(h:H a=some o)(h':H b=none):a≠b:=by intro e;subst e;rw[h]at h';cases h'
def iC(h:Heap)(a:Addr)(items:Array Value):Prop:=∃o,h.get? a=some o/\o.cls=.type "tuple"/\o.dict=none/\∃n,o.data=.seq items n
theorem iC.tup(x:iC h a items):IsTup h a items:=by obtain⟨o,e,c,_,n,d⟩:=x;exact⟨o,e,c,n,d⟩
theorem iC.lt(x:iC h a items):a<h.objs.size:=x.tup.lt
theorem iC.new(h:Heap)(items:Array Value):iC (h.push {cls:=.type "tuple",data:=.seq items}) h.objs.size items:={_,zk _ rfl,rfl,rfl,_,rfl}
section
variable(P:Program)(w:World)
def bt(H:Hp)(h:Heap)(a:Addr):HO->Prop|.lst xs=>xs.length<=sizeLine/\∃(ay:List Value) (n:Nat),Vals xs ay/\h.get? a=some {cls:=.type "list",data:=.seq ay.toArray n}|.tup xs=>xs.length<=sizeLine/\∃ay:List Value,Vals xs ay/\iC h a ay.toArray|.dK kvs=>kvs.length<=sizeLine/\(a==sysModules)=false/\∃vs,KV kvs vs/\h.DictOf (aH P w) a vs|.dT _=>False|.set S n=>h.SetOf (intKind P w) a S n|.ins C dx fs=>H dx=some (.own a)/\fs.length<=1000/\dx≠a/\h.get? a=some (instObj C dx)/\∃mA,h.Ns1 dx mA/\(∀f,gp (fs.lookup f)<|mA f)/\PySem.Within mA (fs.map (·.1))|.own _=>∃o,h.get? a=some o|.xd fs=>∃mA,h.Ns1 a mA/\∀f,gp (fs.lookup f) (mA f)|.WK lo hi=>∃t u v,h.get? a=some {cls:=.type "range",data:=.fields #[.int lo t,.int hi u,.int 1 v]}|.lK o u=>h.get? a=some o/\bt H h a u|.qk ps=>h.get? a=some {cls:=.none,data:=.fields ps}|.met f x=>h.get? a=some (methodObj (.ref f)<|.ref x)|.ext φ=>φ h/\(∃o,h.get? a=some o)/\∀h1 h2:Heap,φ h1->(∀o,h1.get? a=some o->h2.get? a=some o)->φ h2
def lL(H:Hp)(h:Heap):Prop:=∀a o,H a=some o->bt P w H h a o
end
section
variable{P:Program}{w:World}{H H':Hp}{h h':Heap}{a:Addr}{o:HO}
theorem bt.lt(x:bt P w H h a o):a<h.objs.size:=by cases o with|lst xs=>(obtain⟨_,_,_,_,e⟩:=x;exact zw e)|tup xs=>(obtain⟨_,_,_,p⟩:=x;exact p.lt)|dK kvs=>(obtain⟨_,_,_,_,o,_,_,e,_⟩:=x;exact zw e)|dT kvs=>exact False.elim x|set S n=>(obtain⟨o,_,_,_,e,_⟩:=x;exact zw e)|ins C dx fs=>(obtain⟨_,_,_,e,_⟩:=x;exact zw e)|own y=>(obtain⟨_,e⟩:=x;exact zw e)|xd fs=>(obtain⟨_,⟨_,_,_,e,_⟩,_⟩:=x;exact zw e)|WK lo hi=>(obtain⟨_,_,_,e⟩:=x;exact zw e)|lK ob u=>(obtain⟨e,_⟩:=x;exact zw e)|qk ps=>exact zw (show h.get? a=some _ from x)|met f y=>exact zw (show h.get? a=some _ from x)|ext φ=>obtain⟨_,⟨_,e⟩,_⟩:=x;exact zw e
theorem bt.pS(x:bt P w H h a o)(k:∀b u,(b=a\/H b=some (.own a))->h.get? b=some u->h'.get? b=some u) (ho:∀b,H b=some (.own a)->H' b=some (.own a)) (ht:∀b xs,H b=some (.tup xs)->H' b=some (.tup xs)):bt P w H' h' a o:=by induction o with|lst xs=>(obtain⟨z,ay,n,r,e⟩:=x;exact{z,ay,n,r,k _ _ (.inl rfl) e})|tup xs=>(obtain⟨z,ay,r,ob,e,c⟩:=x;exact{z,ay,r,ob,k _ _ (.inl rfl) e,c})|dK kvs=>(obtain⟨z,y,vs,r,ob,es,ep,e,c⟩:=x;exact{z,y,vs,r,ob,es,ep,k _ _ (.inl rfl) e,c})|dT kvs=>exact False.elim x|set S n=>(obtain⟨ob,es,ep,t,e,c⟩:=x;exact{ob,es,ep,t,k _ _ (.inl rfl) e,c})|ins C dx fs=>(obtain⟨d,z,ne,e,mA,⟨od,es,ep,e2,c⟩,r⟩:=x;exact{ho _ d,z,ne,k _ _ (.inl rfl) e,mA,{od,es,ep,k _ _ (.inr d) e2,c},r})|own y=>(obtain⟨ob,e⟩:=x;exact{ob,k _ _ (.inl rfl) e})|xd fs=>(obtain⟨mA,⟨od,es,ep,e,c⟩,r⟩:=x;exact{mA,{od,es,ep,k _ _ (.inl rfl) e,c},r})|WK lo hi=>(obtain⟨t,u,v,e⟩:=x;exact{t,u,v,k _ _ (.inl rfl) e})|lK ob u ih=>(obtain⟨e,q⟩:=x;exact{k _ _ (.inl rfl) e,ih q})|qk ps=>have e:h.get? a=some {cls:=.none,data:=.fields ps}:=x;show h'.get? a=some {cls:=.none,data:=.fields ps};exact k a _ (.inl rfl) e|met f y=>have e:h.get? a=some (methodObj (.ref f)<|.ref y):=x;show h'.get? a=some (methodObj (.ref f)<|.ref y);exact k a _ (.inl rfl) e|ext φ=>obtain⟨p,⟨o,e⟩,st⟩:=x;exact{st _ _ p λo q=>k _ _ (.inl rfl) q,{o,k _ _ (.inl rfl) e},st}
theorem lL.lt(x:lL P w H h)(e:H a=some o):a<h.objs.size:=(x a o e).lt
theorem lL.fresh(x:lL P w H h)(e:h.objs.size<=a):H a=none:=by cases q:H a with|none=>rfl|some u=>exact absurd (zr (x.lt q) e)<|yA _
theorem lL.kept(x:lL P w H h)(k:∀b u,h.get? b=some u->h'.get? b=some u):lL P w H h':=λa o e=>(x a o e).pS (λb u _ q=>k b u q) (λ_ q=>q) λ_ _ q=>q
theorem lL.laid(x:lL P w H h)(k:∀b u,h.get? b=some u->h'.get? b=some u)(hp:h.objs.size<=a)(new:bt P w (upd H a o) h' a o):lL P w (upd H a o) h':=λb u e=>by have hn:=x.fresh hp;by_cases hb:b=a;subst hb;rw[aE]at e;cases e;exact new;rw[aw hb]at e;exact(x b u e).pS (λc v _ q=>k c v q) (λc q=>by rw[aw<|aF q hn];exact q) λc xs q=>by rw[aw<|aF q hn];exact q
end
def Rd(H:Hp)(a:Addr)(u:HO):Prop:=H a=some u\/∃o,H a=some (.lK o u)
theorem Rd.of(h:H a=some u):Rd H a u:=.inl h
theorem Rd.ok{P:Program}{w:World}{H:Hp}{h:Heap}{a:Addr}{u:HO}(r:Rd H a u)(x:lL P w H h):bt P w H h a u:=by rcases r with r|⟨o,r⟩;exact x a u r;obtain⟨_,q⟩:=x a _ r;exact q
def SJ:Option HO->Prop|some (.lst _)=>True|some (.dK _)=>True|some (.dT _)=>True|some (.set _ _)=>True|some (.ins _ _ _)=>True|some (.ext _)=>True|_=>False
section
variable{P:Program}{w:World}{H:Hp}{h h':Heap}{x e:Addr}{o':HO}
theorem lL.write(ok:lL P w H h)(mu:SJ<|H x)(he:e=x\/H e=some (.own x))(k:∀b u,b≠e->h.get? b=some u->h'.get? b=some u)(RY:∃u,h'.get? e=some u) (new:bt P w (upd H x o') h' x o'):lL P w (upd H x o') h':=λb u q=>by
 have SK:∀c y,H c=some (.own y)->c≠x:=λc y r z=>by subst z;rw[r]at mu;exact mu
 have XR:∀c xs,H c=some (.tup xs)->c≠x:=λc xs r z=>by subst z;rw[r]at mu;exact mu
 by_cases hb:b=x;subst hb;rw[aE]at q;cases q;exact new;rw[aw hb]at q;by_cases Kj:b=e;have q':H b=some (.own x):=by rcases he with z|z;exact absurd (Kj.trans z) hb;rw[Kj];exact z
 rw[q]at q';cases q';obtain⟨v,hv⟩:=RY;exact{v,by rw[Kj];exact hv};refine(ok b u q).pS (λc v hc r=>k c v ?_ r) (λc r=>by rw[aw<|SK c b r];exact r) λc xs r=>by rw[aw<|XR c xs r];exact r
 rcases hc with rfl|hc;exact Kj;rintro rfl;rcases he with z|z;exact SK c b hc z;rw[hc]at z;cases z;exact hb rfl
end
structure Un(fs ex:List Addr)(H H':Hp)(h h':Heap):Prop where
 keep:∀b o,h.get? b=some o->H b=none->b∉fs->b∉ex->h'.get? b=some o
 slot:∀b o,h.get? b=some o->H b=none->b∈fs->b∉ex->∃sl,h'.get? b=some {o with slots:=sl}
 free:∀b o,h.get? b=some o->H b=none->b∉ex->H' b=none
 there:∀b o,h.get? b=some o->b∉ex->∃o',h'.get? b=some o'
 mj:∀b xs,H b=some (.tup xs)->H' b=some (.tup xs)
 lM:∀b o u,H b=some (.lK o u)->H' b=some (.lK o u)
 lN:∀b ps,H b=some (.qk ps)->∃more,H' b=some (.qk<|ps++more)
section
variable{fs ex:List Addr}{H H1:Hp}{h h1 h':Heap}{a x e:Addr}{o:HO}
theorem Un.any(u:Un fs ex H H1 h h1){b:Addr}{ob:Obj}(q:h.get? b=some ob)(n:H b=none)(hx:b∉ex):∃sl,h1.get? b=some {ob with slots:=sl}:=by by_cases hb:b∈fs;exact u.slot b ob q n hb hx;exact{ob.slots,u.keep b ob q n hb hx}
theorem Un.kept(k:∀b u,h.get? b=some u->h'.get? b=some u):Un fs ex H H h h':={λb ob q _ _ _=>k b ob q,λb ob q _ _ _=>{ob.slots,k b ob q},λ_ _ _ n _=>n,λb ob q _=>{ob,k b ob q},λ_ _ q=>q,λ_ _ _ q=>q,λ_ ps q=>{#[],by rw[q];simp}}
theorem Un.refl:Un fs ex H H h h:=Un.kept λ_ _ q=>q
theorem Un.laid(k:∀b u,h.get? b=some u->h'.get? b=some u)(hp:h.objs.size<=a)(hn:H a=none):Un fs ex H (upd H a o) h h' where
 keep:=λb u q _ _ _=>k b u q
 slot:=λb u q _ _ _=>{u.slots,k b u q}
 free:=λb u q n _=>by rw[aw<|zE<|zr (zw q) hp];exact n
 there:=λb u q _=>{u,k b u q}
 mj:=λb xs q=>by rw[aw<|aF q hn];exact q
 lM:=λb u xs q=>by rw[aw<|aF q hn];exact q
 lN:=λb ps q=>{#[],by rw[aw<|aF q hn,q];simp}
theorem Un.write(mu:SJ<|H x)(he:e=x\/H e=some (.own x))(k:∀b u,b≠e->h.get? b=some u->h'.get? b=some u)(RY:∃u,h'.get? e=some u):Un fs ex H (upd H x o) h h':=by
 have hx:∀b,H b=none->b≠x:=λb n z=>by subst z;rw[n]at mu;exact mu
 have hb:∀b,H b=none->b≠e:=λb n z=>by subst z;rcases he with r|r;exact hx b n r;rw[n]at r;cases r
 have hm:∀b u,H b=some u->¬SJ (some u)->b≠x:=λb u q nm z=>by subst z;rw[q]at mu;exact nm mu
 refine⟨λb u q n _ _=>k b u (hb b n) q,λb u q n _ _=>{u.slots,k b u (hb b n) q},λb u q n _=>by rw[aw<|hx b n];exact n,λb u q _=>?_,
  λb xs q=>by rw[aw<|hm b _ q λz=>z];exact q,λb u xs q=>by rw[aw<|hm b _ q λz=>z];exact q,λb ps q=>{#[],by rw[aw<|hm b _ q λz=>z,q];simp}⟩
 by_cases Kj:b=e;subst Kj;exact RY;exact{u,k b u Kj q}
end
noncomputable def WL(h:Heap)(H:Hp):List Addr:=(List.range h.objs.size).filter λa=>(H a).isSome
noncomputable def tG(h:Heap)(H:Hp):Heap:=hideAll h<|WL h H
theorem ES(h:Heap)(H:Hp):(tG h H).objs.size=h.objs.size:=PySem.W.hideAll_size _ _
theorem GW(e:h.get? b=some o)(n:H b=none):(tG h H).get? b=some o:=hideAll_get _ e λhm=>by have q:(H b).isSome=true:=(yD.mp hm).2;rw[n]at q;simp at q
theorem Kk(e:(tG h H).get? b=some o):h.get? b=some o/\H b=none:=by have e':h.get? b=some o:=of_hideAll (WL h H) e;refine{e',?_};cases q:H b with|none=>rfl|some x=>have hm:b∈WL h H:=yD.mpr {zV.mpr<|zw e',by simp[q]};have z:(tG h H).get? b=none:=PySem.W.hideAll_none (WL h H) hm;rw[z]at e;cases e
noncomputable def Kl(g h:Heap)(L:Addr):List (Addr×Obj):=(List.range h.objs.size).filterMap λa=>if a=L\/(g.get? a).isSome=true then none else (h.get? a).map λo=>(a,o)
noncomputable def rest(g h:Heap)(L d:Addr):List (Addr×Obj):=(Kl g h L).filter λp=>decide<|p.1≠d
structure Mod(K:Frag)(mg:Str->Option Value)(base:Heap):Prop where
 RZ:K.In base
 glob:base.Ns mainGlobals mg
 blt:∃mb,base.Ns builtinsNs mb/\∀x:Str,x≠"__name__"->mb x=bootBuiltins x
 nolimit:base.NoLimit
structure Cx where
 prog:Program
 w:World
 K:Frag
 mg:Str->Option Value
 base:Heap
 A:Around
 N:List Str
 dG:Shared
 vi:Hp
 env:Env
 outer:List Env
 stack:List Env
 ex:List Addr
 fn:Str->Bool
 calm:Bool
 pn:List (Addr×Obj)
 xe:Value->Shared->Prop
def nH(l:List Env):List Addr:=l.filterMap (·.frame)
noncomputable abbrev Cx.fs(X:Cx):List Addr:=nH X.outer
def OL(sc:Scope)(x:Str):Prop:=sc.names.lookup x=some .local\/sc.names.lookup x=some .cell\/sc.names.lookup x=some .free
def Loc(sc:Scope)(x:Str):Prop:=sc.names.lookup x=some .local\/sc.names.lookup x=some .cell
def Look(env:Env)(h:Heap)(m:Str->Option Value)(x:Str)(u:Value):Prop:=(env.kindOf x=some .local/\m x=some u)\/((env.kindOf x=some .cell\/env.kindOf x=some .free)/\∃c,env.cells.lookup x=some c/\h.IsCell c (some u))
structure Cx.Ok(X:Cx):Prop where
 mod:Mod X.K X.mg X.base
 kind:X.env.scope.kind=.function
 glob:X.env.globals=mainGlobals
 blt:X.env.builtins=builtinsNs
 above:X.dG.heap.objs.size<=X.env.locals
 inj:∀x y c,X.env.cells.lookup x=some c->X.env.cells.lookup y=some c->x=y
 has:∀x,(X.env.kindOf x=some .cell\/X.env.kindOf x=some .free)->∃c,X.env.cells.lookup x=some c
 XS:∀x c,X.fn x=true->X.env.cells.lookup x=some c->X.dG.heap.objs.size<=c
 hd:X.calm=true->X.A.handled=none
 frames:X.A.frames=some X.stack
 stk:X.stack=X.outer\/(X.stack=X.env::X.outer/\X.env.frame=some X.env.locals)
 exf:∀b∈X.ex,b≠X.env.locals/\∀x c,X.env.cells.lookup x=some c->c≠b
 bs:∀b o,X.base.get? b=some o->X.dG.heap.get? b=some o/\X.vi b=none
 Km:X.base.objs.size<=X.dG.heap.objs.size
 OM:∀b o,X.base.get? b=some o->b∉X.ex
 SM:∀b∈X.ex,b∉X.fs
 pT:X.dG.heap.FunFrames X.base X.outer
 ON:∀b∈X.fs,X.vi b=none
structure Inv(X:Cx)(pins:List (Addr×Obj))(σ:List (Option V))(H:Hp)(s:Shared):Prop where
 ok:X.Ok
 os:s.os=X.dG.os
 bare:AllBare s.gens
 base:Un X.fs X.ex X.vi H X.dG.heap s.heap
 loc:∃m,s.heap.Ns X.env.locals m/\∀(i:Nat)(x:Str)(v:V),X.N[i]?=some x->σ[i]?=some (some v)->OL X.env.scope x->∃u,RelV v u/\Look X.env s.heap m x u
 cell:∀x c,X.env.cells.lookup x=some c->∃v,s.heap.IsCell c v
 free:H X.env.locals=none
 gv:∀x c,X.env.cells.lookup x=some c->H c=none
 pin:∀p∈X.pn++pins,s.heap.get? p.1=some p.2/\H p.1=none/\p.1≠X.env.locals/\p.1∉X.fs/\∀v,p.2.data≠.cell v
 aM:lL X.prog X.w H s.heap
 len:σ.length=X.N.length
section
variable{X:Cx}{pins:List (Addr×Obj)}{σ:List (Option V)}{H H':Hp}{s:Shared}{h':Heap}
theorem Cx.Ok.ET(ok:X.Ok)(e:X.base.get? b=some o):b∉X.fs:=λhb=>by have:=(ok.pT.mem hb).1;rw[e]at this;cases this
theorem Inv.bs(I:Inv X pins σ H s):∀b o,X.base.get? b=some o->s.heap.get? b=some o/\H b=none:=λb o e=>{I.base.keep b o (I.ok.bs b o e).1 (I.ok.bs b o e).2 (I.ok.ET e)<|I.ok.OM b o e,I.base.free b o (I.ok.bs b o e).1 (I.ok.bs b o e).2<|I.ok.OM b o e}
theorem Inv.bk(I:Inv X pins σ H s):∀b o,X.base.get? b=some o->s.heap.get? b=some o:=λb o e=>(I.bs b o e).1
theorem Inv.mod(I:Inv X pins σ H s):Mod X.K X.mg X.base:=I.ok.mod
theorem Inv.oP(I:Inv X pins σ H s):X.K.In s.heap:=I.ok.mod.RZ.keeps I.bk
theorem Inv.nolimit(I:Inv X pins σ H s):s.heap.NoLimit:=I.ok.mod.nolimit.keeps I.bk
theorem Inv.fr(I:Inv X pins σ H s):∃m,Fr X.base X.env.locals s.heap m :=
 let ⟨m,hn,_⟩:=I.loc
 ⟨m,hn,I.bk,zO I.ok.Km I.ok.above⟩
theorem Inv.lt(I:Inv X pins σ H s):X.env.locals<s.heap.objs.size:=by obtain⟨_,hn,_⟩:=I.loc;exact hn.lt
theorem Inv.sz(I:Inv X pins σ H s):X.dG.heap.objs.size<=s.heap.objs.size:=zO I.ok.above<|yO I.lt
theorem Inv.SN(I:Inv X pins σ H s)(h:s.heap.objs.size<=a):a∉X.fs:=λhb=>by obtain⟨_,o,ho,_⟩:=I.ok.pT.mem hb;exact absurd (zr (zw ho)<|zO I.sz h)<|yA _
theorem Inv.OO(I:Inv X pins σ H s):∀x c,X.env.cells.lookup x=some c->c≠X.env.locals:=λx c e z=>by obtain⟨v,o,ho,hd⟩:=I.cell x c e;obtain⟨m,⟨o',es,ep,Bl,xu,_⟩,_⟩:=I.loc;rw[z,Bl]at ho;cases ho;rw[xu]at hd;cases hd
theorem Inv.pT(I:Inv X pins σ H s):s.heap.FunFrames X.base X.outer:=by
 have all:∀(l:List Env),(∀b∈nH l,b∈X.fs)->X.dG.heap.FunFrames X.base l->s.heap.FunFrames X.base l:=by intro l;induction l with|nil=>intro _ _;trivial|cons env r ih=>intro hs hl;obtain⟨hk,⟨L,o,hf,hn,ho,hd⟩,hr⟩:=hl;have hL:L∈X.fs:=hs L (by unfold nH;rw[List.filterMap_cons,hf];exact zm);obtain⟨sl,e⟩:=I.base.slot L o ho (I.ok.ON L hL) hL λz=>I.ok.SM L z hL;exact{hk,{L,_,hf,hn,e,hd},ih (λb hb=>hs b<|by unfold nH;rw[List.filterMap_cons,hf];exact zh _ hb) hr}
 exact all X.outer (λ_ hb=>hb) I.ok.pT
theorem Inv.stack(I:Inv X pins σ H s):s.heap.FunFrames X.base X.stack:=by rcases I.ok.stk with e|⟨e,hf⟩;rw[e];exact I.pT;rw[e];obtain⟨m,hn,_⟩:=I.loc;refine .cons (by rw[I.ok.kind];decide) hf hn ?_ I.pT;exact Heap.get?_none_of_le<|zO I.ok.Km I.ok.above
theorem Inv.nI(I:Inv X pins σ H s):∀b∈nH X.stack,b∈X.env.locals::X.fs:=λb hb=>by rcases I.ok.stk with e|⟨e,hf⟩;rw[e]at hb;exact zh _ hb;rw[e]at hb;unfold nH at hb;rw[List.filterMap_cons,hf]at hb;exact hb
theorem Inv.ql(I:Inv X pins σ H s):∀b∈nH X.stack,H b=none:=λb hb=>by rcases zi.mp (I.nI b hb) with e|hb;rw[e];exact I.free;obtain⟨_,o,ho,_⟩:=I.ok.pT.mem hb;exact I.base.free b o ho (I.ok.ON b hb) λz=>I.ok.SM b z hb
theorem Inv.step{g':Array GenState}{t':Nat}{d':Drawn}{ch:List Addr}(I:Inv X pins σ H s) (JZ:∀b∈ch,(b∈X.ex\/X.dG.heap.objs.size<=b)/\b≠X.env.locals/\(∀x c,X.env.cells.lookup x=some c->c≠b)/\∀p∈X.pn++pins,p.1≠b) (keep:∀b o,b≠X.env.locals->b∉X.fs->b∉ch->s.heap.get? b=some o->H b=none->h'.get? b=some o) (slot:∀b o,b≠X.env.locals->b∈X.fs->b∉ch->s.heap.get? b=some o->H b=none->∃sl,h'.get? b=some {o with slots:=sl}) (free:∀b o,b∉ch->s.heap.get? b=some o->H b=none->H' b=none) (there:∀b o,b∉ch->s.heap.get? b=some o->∃o',h'.get? b=some o') (mj:∀b xs,H b=some (.tup xs)->H' b=some (.tup xs)) (lM:∀b o u,H b=some (.lK o u)->H' b=some (.lK o u)) (lN:∀b ps,H b=some (.qk ps)->∃more,H' b=some (.qk<|ps++more)) (ns:∀m,s.heap.Ns X.env.locals m->h'.Ns X.env.locals m) (aM:lL X.prog X.w H' h') (hg:AllBare g'): Inv X pins σ H' {s with heap:=h',gens:=g',drawn:=d',toks:=t'}:=by
 have neL:∀b o,X.dG.heap.get? b=some o->b≠X.env.locals:=λb o e=>zE<|zr (zw e) I.ok.above;have WM:∀b o,X.dG.heap.get? b=some o->b∉X.ex->b∉ch:=λb o e hx hb=>by rcases (JZ b hb).1 with z|z;exact hx z;exact absurd (zr (zw e) z)<|yA _
 have cellK:∀x c,X.env.cells.lookup x=some c->∀v,s.heap.IsCell c v->h'.IsCell c v:=by rintro x c e v ⟨o,ho,hd⟩;have SO:c∉ch:=λz=>(JZ c z).2.2.1 x c e rfl;by_cases hc:c∈X.fs;obtain⟨sl,q⟩:=slot c o (I.OO x c e) hc SO ho<|I.gv x c e;exact{_,q,hd};exact{o,keep c o (I.OO x c e) hc SO ho<|I.gv x c e,hd}
 refine{I.ok,I.os,hg,{λb o e n hb hx=>?_,λb o e n hb hx=>?_,λb o e n hx=>?_,λb o e hx=>?_,λb xs e=>mj b xs<|I.base.mj b xs e,λb o xs e=>lM b o xs<|I.base.lM b o xs e,λb ps e=>?_},?_,λx c e=>?_,?_,λx c e=>?_,λp hp=>?_,aM,I.len};exact keep b o (neL b o e) hb (WM b o e hx) (I.base.keep b o e n hb hx)<|I.base.free b o e n hx;obtain⟨sl,e1⟩:=I.base.slot b o e n hb hx;obtain⟨sl',e2⟩:=slot b _ (neL b o e) hb (WM b o e hx) e1<|I.base.free b o e n hx;exact⟨sl',e2⟩;obtain⟨o',e1⟩:=I.base.there b o e hx;exact free b o' (WM b o e hx) e1<|I.base.free b o e n hx;obtain⟨o',e1⟩:=I.base.there b o e hx;exact there b o' (WM b o e hx) e1;obtain⟨m1,e1⟩:=I.base.lN b ps e;obtain⟨m2,e2⟩:=lN b _ e1;exact{m1++m2,by rw[e2,Array.append_assoc]};obtain⟨m,hn,hl⟩:=I.loc;refine{m,ns m hn,λi x v e1 e2 e3=>?_};obtain⟨u,r,l⟩:=hl i x v e1 e2 e3;refine{u,r,?_};rcases l with l|⟨k,c,e,z⟩;exact .inl l;exact .inr {k,c,e,cellK x c e _ z};obtain⟨v,z⟩:=I.cell x c e;exact{v,cellK x c e v z};obtain⟨m,⟨o,_,_,ho,_⟩,_⟩:=I.loc;exact free _ o (λz=>(JZ _ z).2.1 rfl) ho I.free;obtain⟨v,o,ho,hd⟩:=I.cell x c e;exact free c o (λz=>(JZ c z).2.2.1 x c e rfl) ho<|I.gv x c e;obtain⟨e,n,ne,nf,d⟩:=I.pin p hp;have SO:p.1∉ch:=λz=>(JZ p.1 z).2.2.2 p hp rfl;exact{keep p.1 p.2 ne nf SO e n,free p.1 p.2 SO e n,ne,nf,d}
theorem Inv.un{t':Nat}(I:Inv X pins σ H s)(u:Un X.fs [] H H' s.heap h')(aM:lL X.prog X.w H' h'):Inv X pins σ H' {s with heap:=h',toks:=t'}:=by obtain⟨m,⟨o,es,ep,ho,r⟩,_⟩:=id I.loc;obtain⟨sl,hL⟩:=u.any ho I.free (by simp);exact I.step (g':=s.gens) (d':=s.drawn) (ch:=[]) (λ_ z=>nomatch z) (λb o _ hb _ e n=>u.keep b o e n hb<|by simp) (λb o _ hb _ e n=>u.slot b o e n hb<|by simp) (λb o _ e n=>u.free b o e n<|by simp) (λb o _ e=>u.there b o e<|by simp) u.mj u.lM u.lN (λm' hm=>by obtain⟨o',WN,XT,Bl,r'⟩:=hm;rw[ho]at Bl;cases Bl;exact{_,WN,XT,hL,r'}) aM I.bare
theorem Inv.call{g':Array GenState}{t':Nat}{d':Drawn}{ch:List Addr}(I:Inv X pins σ H s)(u:Un (nH X.stack) ch H H' s.heap h')(aM:lL X.prog X.w H' h')(hg:AllBare g') (JZ:∀b∈ch,(b∈X.ex\/X.dG.heap.objs.size<=b)/\b≠X.env.locals/\(∀x c,X.env.cells.lookup x=some c->c≠b)/\∀p∈X.pn++pins,p.1≠b): Inv X pins σ H' {s with heap:=h',gens:=g',drawn:=d',toks:=t'}:=by obtain⟨m,⟨o,es,ep,ho,r⟩,_⟩:=id I.loc;obtain⟨sl,hL⟩:=u.any ho I.free λz=>(JZ _ z).2.1 rfl;exact I.step (ch:=ch) JZ (λb o hL hb hc e n=>u.keep b o e n (λz=>(zi.mp<|I.nI b z).elim hL hb) hc) (λb o _ _ hc e n=>u.any e n hc) (λb o hc e n=>u.free b o e n hc) (λb o hc e=>u.there b o e hc) u.mj u.lM u.lN (λm' hm=>by obtain⟨o',WN,XT,Bl,r'⟩:=hm;rw[ho]at Bl;cases Bl;exact{_,WN,XT,hL,r'}) aM hg
theorem Inv.turned{t':Nat}{it:Addr}(I:Inv X pins σ H s)(k:∀b o,b≠it->s.heap.get? b=some o->h'.get? b=some o)(hn:H it=none)(hL:it≠X.env.locals) (h1:it∈X.ex\/X.dG.heap.objs.size<=it) (h2:∀x c,X.env.cells.lookup x=some c->c≠it) (h3:∀p∈X.pn++pins,p.1≠it):Inv X pins σ H {s with heap:=h',toks:=t'}:=by
 have OP:∀b u,H b=some u->b≠it:=λb u e z=>by rw[z,hn]at e;cases e
 refine I.step (g':=s.gens) (d':=s.drawn) (ch:=[it]) (λb hb=>?_) (λb o _ _ hc e _=>k b o (λz=>hc<|by simp[z]) e) (λb o _ _ hc e _=>{o.slots,k b o (λz=>hc<|by simp[z]) e}) (λ_ _ _ _ n=>n) (λb o hc e=>{o,k b o (λz=>hc<|by simp[z]) e}) (λ_ _ e=>e) (λ_ _ _ e=>e) (λb ps e=>{#[],by rw[e];simp}) (λm hm=>?_) (λb u e=>?_) I.bare;have e:b=it:=by simpa using hb
 subst e;exact⟨h1,hL,h2,h3⟩;obtain⟨o,es,ep,ho,r⟩:=hm;exact{o,es,ep,k _ o (Ne.symm hL) ho,r};refine(I.aM b u e).pS (λc v hc q=>k c v ?_ q) (λ_ q=>q) λ_ _ q=>q;rcases hc with z|z;rw[z];exact OP b u e;exact OP c _ z
theorem Inv.tok(I:Inv X pins σ H s)(t:Nat):Inv X pins σ H {s with toks:=t}:=I.un (h':=s.heap) (t':=t) Un.refl I.aM
theorem Inv.kept(I:Inv X pins σ H s)(k:∀b u,s.heap.get? b=some u->h'.get? b=some u):Inv X pins σ H {s with heap:=h',toks:=t'}:=I.un (Un.kept k)<|I.aM.kept k
theorem Inv.laid{a:Addr}{o:HO}{t':Nat}(I:Inv X pins σ H s)(k:∀b u,s.heap.get? b=some u->h'.get? b=some u)(hp:s.heap.objs.size<=a)(new:bt X.prog X.w (upd H a o) h' a o): Inv X pins σ (upd H a o) {s with heap:=h',toks:=t'}:=I.un (Un.laid k hp<|I.aM.fresh hp)<|I.aM.laid k hp new
theorem Inv.write(I:Inv X pins σ H s)(mu:SJ<|H x)(he:e=x\/H e=some (.own x))(k:∀b u,b≠e->s.heap.get? b=some u->h'.get? b=some u)(RY:∃u,h'.get? e=some u) (new:bt X.prog X.w (upd H x o) h' x o):Inv X pins σ (upd H x o) {s with heap:=h',toks:=t'}:=I.un (Un.write mu he k RY)<|I.aM.write mu he k RY new
theorem Inv.weak(I:Inv X pins σ H s)(hl:aG.length=σ.length)(w:∀(i:Nat) v,aG[i]?=some (some v)->σ[i]?=some (some v)):Inv X pins aG H s:={I.ok,I.os,I.bare,I.base,by obtain⟨m,hn,hl'⟩:=I.loc;exact{m,hn,λi x v e1 e2 e3=>hl' i x v e1 (w i v e2) e3},I.cell,I.free,I.gv,I.pin,I.aM,hl.trans I.len}
theorem Inv.ml(I:Inv X pins σ H s)(h:∀p∈pins',s.heap.get? p.1=some p.2/\H p.1=none/\p.1≠X.env.locals/\p.1∉X.fs/\∀v,p.2.data≠.cell v):Inv X pins' σ H s:={I.ok,I.os,I.bare,I.base,I.loc,I.cell,I.free,I.gv,λp hp=>(zL.mp hp).elim (λz=>I.pin p<|ye _ z)<|h p,I.aM,I.len}
theorem xG{N:List Str}(hN:N.Nodup){i j:Nat}{x:Str}(a:N[i]?=some x)(b:N[j]?=some x):i=j:=by obtain⟨h1,e1⟩:=ze.mp a;obtain⟨h2,e2⟩:=ze.mp b;exact(List.getElem_inj hN).mp<|e1.trans e2.symm
theorem ui{M:Model}{A:Around}{E:Value->Shared->Prop}{i:Nat}{x:Str}{v:V}{u:Value}{Q:Unit->Shared->Prop}(I:Inv X pins σ H s)(hN:X.N.Nodup)(hi:X.N[i]?=some x)(hx:Loc X.env.scope x)(r:RelV v u) (h:∀s',Inv X pins (σ.set i<|some v) H s'->(∃a,Heap.SameBut a s.heap s'.heap/\(a=X.env.locals\/X.env.cells.lookup x=some a))->Q () s') (hf:autoParam (X.fn x=true\/X.env.scope.names.lookup x=some .local) qQ6):wpAny M A (storeName X.env x u) Q E s:=by
 obtain⟨m,hn,hl⟩:=id I.loc;have XU:(X.env.scope.kind==.class||(X.env.scope.kind==.module&&X.env.locals != X.env.globals))=false:=by rw[I.ok.kind];rfl
 have SQ:i<σ.length:=by rw[I.len];exact(ze.mp hi).1
 have OO:=I.OO;have tracked:∀{a:Addr}{h':Heap},(∃o,s.heap.get? a=some o/\H a=none)->Heap.SameBut a s.heap h'->lL X.prog X.w H h':=λ{a h'} ha hs b ob e=>by obtain⟨_,_,Nl⟩:=ha;refine(I.aM b ob e).pS (λc w' hc q=>(hs.2 c ?_).trans q) (λ_ q=>q) λ_ _ q=>q;rintro rfl;rcases hc with rfl|hc;rw[Nl]at e;cases e;rw[Nl]at hc;cases hc
 rcases hx with hk|hk;refine wpAny_storeName_local hk hn (λh' Nm hs=>?_) XU;obtain⟨oL,_,_,GH,_⟩:=id hn;refine h _ {I.ok,I.os,I.bare,{λb o e n hb hx=>?_,λb o e n hb hx=>?_,I.base.free,λb o e hx=>?_,I.base.mj,I.base.lM,I.base.lN},{_,Nm,λj y v' e1 e2 e3=>?_},λy c e=>?_,I.free,I.gv,λp hp=>?_,tracked ⟨oL,GH,I.free⟩ hs,by simpa using I.len} {_,hs,.inl rfl};exact(hs.2 b<|zE<|zr (zw e) I.ok.above).trans<|I.base.keep b o e n hb hx;obtain⟨sl,e1⟩:=I.base.slot b o e n hb hx;exact{sl,(hs.2 b<|zE<|zr (zw e) I.ok.above).trans e1};obtain⟨o',e1⟩:=I.base.there b o e hx;exact{o',(hs.2 b<|zE<|zr (zw e) I.ok.above).trans e1};by_cases hj:j=i;subst hj;rw[hi]at e1;cases e1;rw[yj SQ]at e2;cases e2;exact{u,r,.inl {hk,by simp}};rw[yk<|Ne.symm hj]at e2;obtain⟨u',r',q⟩:=hl j y v' e1 e2 e3;refine{u',r',?_};rcases q with⟨k,e⟩|⟨k,c,e,z⟩;refine .inl {k,?_};have:y≠x:=λe=>hj<|xG hN e1<|e ▸ hi;simp[this,e];exact .inr {k,c,e,z.sameBut hs<|OO y c e};obtain⟨w',z⟩:=I.cell y c e;exact{w',z.sameBut hs<|OO y c e};obtain⟨e,n,ne,nf,d⟩:=I.pin p hp;exact{(hs.2 p.1 ne).trans e,n,ne,nf,d};have XW:X.fn x=true:=by rcases hf with z|z;exact z;rw[z]at hk;cases hk
 obtain⟨c,hc⟩:=I.ok.has x<|.inl hk;obtain⟨w',z⟩:=I.cell x c hc;refine wpAny_storeName_cell I.ok.kind hk hc z λh' Ko hs=>?_;obtain⟨oc,WO,XX⟩:=id z;refine h {s with heap:=h'} {I.ok,I.os,I.bare,{λb o e n hb hx=>?_,λb o e n hb hx=>?_,I.base.free,λb o e hx=>?_,I.base.mj,I.base.lM,I.base.lN},{m,hn.sameBut hs<|Ne.symm<|OO x c hc,λj y v' e1 e2 e3=>?_},λy c' e=>?_,I.free,I.gv,λp hp=>?_,tracked {oc,WO,I.gv x c hc} hs,by simpa using I.len} {c,hs,.inr hc};exact(hs.2 b<|zE<|zr (zw e)<|I.ok.XS x c XW hc).trans<|I.base.keep b o e n hb hx;obtain⟨sl,e1⟩:=I.base.slot b o e n hb hx;exact{sl,(hs.2 b<|zE<|zr (zw e)<|I.ok.XS x c XW hc).trans e1};obtain⟨o',e1⟩:=I.base.there b o e hx;exact{o',(hs.2 b<|zE<|zr (zw e)<|I.ok.XS x c XW hc).trans e1};by_cases hj:j=i;subst hj;rw[hi]at e1;cases e1;rw[yj SQ]at e2;cases e2;exact{u,r,.inr {.inl hk,c,hc,Ko}};rw[yk<|Ne.symm hj]at e2;obtain⟨u',r',q⟩:=hl j y v' e1 e2 e3;refine{u',r',?_};rcases q with q|⟨k,c',e,z'⟩;exact .inl q;refine .inr {k,c',e,z'.sameBut hs ?_};rintro rfl;exact hj<|xG hN e1<|I.ok.inj _ _ _ e hc ▸ hi;by_cases SR:c'=c;subst SR;exact{_,Ko};obtain⟨w2,z2⟩:=I.cell y c' e;exact{w2,z2.sameBut hs SR};obtain⟨e,n,ne,nf,d⟩:=I.pin p hp;refine{(hs.2 p.1 ?_).trans e,n,ne,nf,d};intro q;rw[q,WO]at e;have q':oc=p.2:=zU e;exact d w'<|by rw[<-q'];exact XX
theorem qH(I:Inv X pins σ H s)(hN:X.N.Nodup)(hi:X.N[i]?=some x)(hx:Loc X.env.scope x)(r:RelV v u) (h:∀s',Inv X pins (σ.set i<|some v) H s'->Q () s') (hf:autoParam (X.fn x=true\/X.env.scope.names.lookup x=some .local) qQ6):wpAny M A (storeName X.env x u) Q E s:=ui I hN hi hx r (λs' I' _=>h s' I') hf
theorem Inv.SS(I:Inv X pins σ H s)(ho:s'.os=s.os)(u:Un (nH X.stack) ch H H' s.heap s'.heap)(aM:lL X.prog X.w H' s'.heap)(hg:AllBare s'.gens) (JZ:∀b∈ch,(b∈X.ex\/X.dG.heap.objs.size<=b)/\b≠X.env.locals/\(∀x c,X.env.cells.lookup x=some c->c≠b)/\∀p∈X.pn++pins,p.1≠b):Inv X pins σ H' s':=by obtain⟨h',g',d',t',o'⟩:=s';have e:o'=s.os:=ho;subst e;exact I.call (g':=g') (t':=t') (d':=d') u aM hg JZ
end
abbrev XK:=Value->Option Addr->Hp->Prop
abbrev St:=List<|Option V
abbrev VK:=V->Hp->Prop
abbrev TE:=St->Hp->VK->Prop
abbrev TT:=St->Hp->(Bool->Hp->Prop)->Prop
abbrev TA:=St->Hp->(List V->Hp->Prop)->Prop
structure Ends where
 nx:St->Hp->Prop
 rt:VK
 bk:St->Hp->Prop:=λ_ _=>False
 ct:St->Hp->Prop:=λ_ _=>False
abbrev TS:=Ends->St->Hp->Prop
def EP(X:Cx)(pins:List<|Addr×Obj)(σ:St)(Q:VK)(u:Value)(s':Shared):Prop:=∃v H',Inv X pins σ H' s'/\RelV v u/\Q v H'
def TP(X:Cx)(pins:List<|Addr×Obj)(σ:St)(Q:Bool->Hp->Prop)(b:Bool)(s':Shared):Prop:=∃H',Inv X pins σ H' s'/\Q b H'
def AP(X:Cx)(pins:List<|Addr×Obj)(σ:St)(Q:List V->Hp->Prop)(us:List Value)(s':Shared):Prop:=∃vs H',Inv X pins σ H' s'/\Vals vs us/\Q vs H'
def SP(X:Cx)(pins:List<|Addr×Obj)(D:Ends)(f:Flow)(s':Shared):Prop:=match f with|.next=>∃aG H',Inv X pins aG H' s'/\D.nx aG H'|.brk=>∃aG H',Inv X pins aG H' s'/\D.bk aG H'|.cont=>∃aG H',Inv X pins aG H' s'/\D.ct aG H'|.ret u=>∃v aG H',Inv X pins aG H' s'/\RelV v u/\D.rt v H'
def PE(X:Cx)(e:Expr)(t:TE):Prop:=∀(pins:List (Addr×Obj))(s:Shared)(σ:St)(H:Hp)(Q:VK),Inv X pins σ H s->t σ H Q->wpAny (model X.prog X.w) X.A (eval e X.env) (EP X pins σ Q) X.xe s
def PT(X:Cx)(e:Expr)(t:TT):Prop:=∀(pins:List (Addr×Obj))(s:Shared)(σ:St)(H:Hp)(Q:Bool->Hp->Prop),Inv X pins σ H s->t σ H Q->wpAny (model X.prog X.w) X.A (isTrue e X.env<|eval e X.env) (TP X pins σ Q) X.xe s
def PW(X:Cx)(e:Expr)(t:TT):Prop:=∀(whole:Sem Value)(pins:List (Addr×Obj))(s:Shared)(σ:St)(H:Hp)(Q:Bool->Hp->Prop),Inv X pins σ H s->t σ H Q->wpAny (model X.prog X.w) X.A (isTrue e X.env whole) (TP X pins σ Q) X.xe s
theorem PW.pt{t:TT}(h:PW X e t):PT X e t:=h _
def PA(X:Cx)(es:List Expr)(t:TA):Prop:=∀(pos:Pos)(pins:List (Addr×Obj))(s:Shared)(σ:St)(H:Hp)(Q:List V->Hp->Prop),Inv X pins σ H s->t σ H Q->wpAny (model X.prog X.w) X.A (spliced<|backTo pos<|starEach es X.env) (AP X pins σ Q) X.xe s
def PS(X:Cx)(st:Stmt)(t:TS):Prop:=∀(pins:List (Addr×Obj))(s:Shared)(σ:St)(H:Hp)(D:Ends),Inv X pins σ H s->t D σ H->wpAny (model X.prog X.w) X.A (exec st X.env) (SP X pins D) X.xe s
def Ds(X:Cx)(st:List Stmt)(t:TS):Prop:=∀(pins:List (Addr×Obj))(s:Shared)(σ:St)(H:Hp)(D:Ends),Inv X pins σ H s->t D σ H->wpAny (model X.prog X.w) X.A (execs st X.env) (SP X pins D) X.xe s
theorem br{t:Sem α}(h:wpAny M A t Q E s)(hQ:∀a s,Q a s->Q' a s):wpAny M A t Q' E s:=yH h hQ λ_ _ x=>x
section
variable{X:Cx}
def XY(i:Nat):TE:=λσ H Q=>∃v,σ[i]?=some (some v)/\Q v H
def tC(v:V):TE:=λ_ H Q=>Q v H
theorem OQ(hN:X.N[i]?=some x)(hv:OL X.env.scope x)(hd:autoParam ((x==("__debug__": Str))=false) qQZ)(sZ:autoParam ((x==("__classdict__": Str))=false) qQZ):PE X (.Name x pos) (XY i):=by intro pins s σ H Q I h;obtain⟨v,e,h⟩:=h;obtain⟨m,hn,hl⟩:=I.loc;obtain⟨u,r,l⟩:=hl i x v hN e hv;have fin:EP X pins σ Q u s:=⟨v,H,I,r,h⟩;rcases l with⟨hk,hm⟩|⟨hk,c,hc,Du⟩;exact wpAny_Name (wpAny_loadName_local I.ok.kind hk hn hm fin) hd;rcases hk with hk|hk;exact wpAny_Name (wpAny_loadName_cell I.ok.kind hk hc Du fin) hd;exact wpAny_Name (wpAny_loadName_free I.ok.kind hk hc Du fin sZ) hd
theorem OR:PE X (.Constant (.int i) j pos) (tC<|.int i):=λ_ _ _ H _ I h=>wpAny_Constant_int {.int i,H,I.tok _,{_,rfl},h}
theorem Nn:PE X (.Constant (.bool b) j pos) (tC<|.bl b):=λ_ _ _ H _ I h=>Constant_bool {.bl b,H,I,rfl,h}
theorem OS:PE X (.Constant .none j pos) (tC .av):=λ_ _ _ H _ I h=>Constant_none {.av,H,I,rfl,h}
theorem OT:PE X (.Constant (.str x) j pos) (tC<|.str x):=λ_ _ _ H _ I h=>Calls.Constant_str {.str x,H,I.tok _,{_,rfl},h}
def Gl(X:Cx)(x:Str):Prop:=X.env.kindOf x=some .globalImplicit
theorem qm(I:Inv X pins σ H s)(hg:Gl X x)(hm:X.mg x=some u)(h:Q u s) (hd:autoParam ((x==("__debug__": Str))=false) qQZ):wpAny (model X.prog X.w) X.A (eval (.Name x pos) X.env) Q E s:=Calls.Name_function_global I.ok.kind hg (Calls.loadGlobal_global (by rw[I.ok.glob];exact I.mod.glob.keeps I.bk) hm h) hd
theorem gG(I:Inv X pins σ H s)(hg:Gl X x)(hm:X.mg x=none)(hv:bootBuiltins x=some u)(h:Q u s) (hn:autoParam (x≠"__name__") qQZ) (hd:autoParam ((x==("__debug__": Str))=false) qQZ):wpAny (model X.prog X.w) X.A (eval (.Name x pos) X.env) Q E s:=by obtain⟨mb,h1,h2⟩:=I.mod.blt;exact Calls.Name_function_global I.ok.kind hg (Calls.loadGlobal_builtin (by rw[I.ok.glob];exact I.mod.glob.keeps I.bk) hm (by rw[I.ok.blt];exact h1.keeps I.bk) ((h2 x hn).trans hv) h) hd
theorem Dw(hg:Gl X x)(hm:X.mg x=some u)(r:RelV v u)(hd:autoParam ((x==("__debug__": Str))=false) qQZ):PE X (.Name x pos) (tC v):=λ_ _ _ H _ I h=>qm I hg hm ⟨v,H,I,r,h⟩ hd
theorem Kq(hg:Gl X x)(hm:X.mg x=none)(hv:bootBuiltins x=some u)(r:RelV v u)(hn:autoParam (x≠"__name__") qQZ)(hd:autoParam ((x==("__debug__": Str))=false) qQZ):PE X (.Name x pos) (tC v):=λ_ _ _ H _ I h=>gG I hg hm hv ⟨v,H,I,r,h⟩ hn hd
variable{a b:Expr}{ta tb:TE}{pos:Pos}
def tB(t:TE):TT:=λσ H Q=>t σ H λx H1=>∃c,x=.bl c/\Q c H1
theorem OU{t:TE}(h:PE X e t)(he:autoParam (∀whole,isTrue e X.env whole=(do let v <-whole;standAt e.pos;holding [v] (truthy v))) qQ0):PT X e (tB t):=by intro pins s σ H Q I hw;refine isTrue_plain (br (h pins s σ H _ I hw) λv s1 ⟨x,H1,I1,r1,q1⟩=>?_)<|he _;obtain⟨d,rfl,q⟩:=q1;cases r1;exact yu ⟨H1,I1,q⟩
variable{tA WQ:TT}{rest:List Expr}
def XZ(t u:TT):TT:=λσ H Q=>t σ H λc H1=>if c=true then u σ H1 Q else Q false H1
def tOr(t u:TT):TT:=λσ H Q=>t σ H λc H1=>if c=true then Q true H1 else u σ H1 Q
def X0(t:TT):TT:=λσ H Q=>t σ H λc H1=>Q (!c) H1
theorem pw_and1(ha:PT X a tA):PW X (.BoolOp .And [a] pos) tA:=by intro wh pins s σ H Q I h;refine isTrue_and<|br (ha pins s σ H Q I h) λc s1 e=>?_;cases c with|true=>exact isTrue_and_nil e|false=>exact e
theorem pw_or1(ha:PT X a tA):PW X (.BoolOp .Or [a] pos) tA:=by intro wh pins s σ H Q I h;refine isTrue_or<|br (ha pins s σ H Q I h) λc s1 e=>?_;cases c with|false=>exact isTrue_or_nil e|true=>exact e
theorem pw_and(ha:PT X a tA)(hb:PW X (.BoolOp .And (b::rest) pos) WQ):PW X (.BoolOp .And (a::b::rest) pos) (XZ tA WQ):=by intro wh pins s σ H Q I h;refine isTrue_and<|br (ha pins s σ H _ I h) λc s1 ⟨H1,I1,q1⟩=>?_;cases c with|true=>exact hb wh pins s1 σ H1 Q I1 q1|false=>exact⟨H1,I1,q1⟩
theorem pw_or(ha:PT X a tA)(hb:PW X (.BoolOp .Or (b::rest) pos) WQ):PW X (.BoolOp .Or (a::b::rest) pos) (tOr tA WQ):=by intro wh pins s σ H Q I h;refine isTrue_or<|br (ha pins s σ H _ I h) λc s1 ⟨H1,I1,q1⟩=>?_;cases c with|true=>exact⟨H1,I1,q1⟩|false=>exact hb wh pins s1 σ H1 Q I1 q1
theorem OV(ha:PT X a tA):PT X (.UnaryOp .Not a pos) (X0 tA):=by intro pins s σ H Q I h;exact isTrue_not<|ha pins s σ H (λc H1=>Q (!c) H1) I h
def SU(ta tb:TE):TE:=λσ H Q=>ta σ H λx H1=>∃c,x=.bl c/\if c=true then tb σ H1 Q else Q (.bl false) H1
def X1(ta tb:TE):TE:=λσ H Q=>ta σ H λx H1=>∃c,x=.bl c/\if c=true then Q (.bl true) H1 else tb σ H1 Q
def SV(ta:TE):TE:=λσ H Q=>ta σ H λx H1=>∃c,x=.bl c/\Q (.bl<|!c) H1
theorem OW{t:TE}(h:PE X a t):PE X (.BoolOp op [a] pos) t:=λpins s σ H Q I hw=>BoolOp_one<|h pins s σ H Q I hw
theorem OX(ha:PE X a ta)(hb:PE X (.BoolOp .And (b::rest) pos) tb):PE X (.BoolOp .And (a::b::rest) pos) (SU ta tb):=by intro pins s σ H Q I h;refine BoolOp_and<|br (ha pins s σ H _ I h) λv s1 ⟨x,H1,I1,r1,q1⟩=>?_;obtain⟨c,rfl,q1⟩:=q1;cases r1;refine yu ?_;cases c with|true=>exact hb pins s1 σ H1 Q I1 q1|false=>exact{.bl false,H1,I1,rfl,q1}
theorem SW(ha:PE X a ta)(hb:PE X (.BoolOp .Or (b::rest) pos) tb):PE X (.BoolOp .Or (a::b::rest) pos) (X1 ta tb):=by intro pins s σ H Q I h;refine BoolOp_or<|br (ha pins s σ H _ I h) λv s1 ⟨x,H1,I1,r1,q1⟩=>?_;obtain⟨c,rfl,q1⟩:=q1;cases r1;refine yu ?_;cases c with|false=>exact hb pins s1 σ H1 Q I1 q1|true=>exact{.bl true,H1,I1,rfl,q1}
theorem OY(ha:PE X a ta):PE X (.UnaryOp .Not a pos) (SV ta):=by intro pins s σ H Q I h;refine UnaryOp_<|br (ha pins s σ H _ I h) λv s1 ⟨x,H1,I1,r1,q1⟩=>?_;obtain⟨c,rfl,q1⟩:=q1;cases r1;exact not_of<|yu {.bl<|!c,H1,I1,rfl,q1}
def tIf(t:TT)(ta tb:TE):TE:=λσ H Q=>t σ H λc H1=>if c=true then ta σ H1 Q else tb σ H1 Q
theorem GX(hc:PT X c tA)(ha:PE X a ta)(hb:PE X b tb):PE X (.IfExp c a b pos) (tIf tA ta tb):=by intro pins s σ H Q I h;refine wpAny_IfExp<|br (hc pins s σ H _ I h) λd s1 ⟨H1,I1,q1⟩=>?_;cases d with|true=>exact ha pins s1 σ H1 Q I1 q1|false=>exact hb pins s1 σ H1 Q I1 q1
end
def kh(K:Frag)(H:Hp)(a:Addr)(xs:List V):Prop:=Rd H a (.lst xs)\/∃(o:Obj)(ay:Array Value)(n:Nat),K.lookup a=some o/\o.cls=.type "list"/\o.dict=none/\o.data=.seq ay n/\ay.size<=sizeLine/\Vals xs ay.toList
def g_(K:Frag)(H:Hp)(a:Addr)(xs:List V):Prop:=Rd H a (.tup xs)\/∃(o:Obj)(ay:Array Value)(n:Nat),K.lookup a=some o/\o.cls=.type "tuple"/\o.data=.seq ay n/\ay.size<=sizeLine/\Vals xs ay.toList
noncomputable def X2:Value->Option V|.none=>some .av|.bool b=>some (.bl b)|.int i _=>some (.int i)|.str x _=>some (.str x)|.bytes b _=>some (.Dq b)|.float b _=>some (.OJ b)|.ref a=>some (.ref a)|.type n=>some (.ty n)|_=>none
theorem RelV.abs(r:RelV x u):X2 u=some x:=by cases x with|av=>(cases r;rfl)|bl _=>(cases r;rfl)|int _=>(obtain⟨t,rfl⟩:=r;rfl)|str _=>(obtain⟨t,rfl⟩:=r;rfl)|Dq _=>(obtain⟨t,rfl⟩:=r;rfl)|OJ _=>(obtain⟨t,rfl⟩:=r;rfl)|ref _=>(cases r;rfl)|ty _=>cases r;rfl
theorem RelV.inj(r:RelV x u)(q:RelV y u):x=y:=zU<|r.abs.symm.trans q.abs
theorem Vals.inj:∀{xs ys:List V}{us:List Value},Vals xs us->Vals ys us->xs=ys|_,_,_,.nil,.nil=>rfl|_,_,_,.cons r t,.cons r' t'=>by rw[r.inj r',Vals.inj t t']
section
variable{X:Cx}{pins:List (Addr×Obj)}{σ:St}{H:Hp}{s:Shared}{a:Addr}{xs ys:List V}
theorem kh.of{K:Frag}(h:H a=some (.lst xs)):kh K H a xs:=.inl<|.inl h
theorem g_.of{K:Frag}(h:H a=some (.tup xs)):g_ K H a xs:=.inl<|.inl h
theorem Inv.list(I:Inv X pins σ H s)(h:kh X.K H a xs):∃ay:List Value,Vals xs ay/\PlainL s.heap a ay.toArray/\xs.length<=sizeLine:=by rcases h with h|⟨o,ay,n,hk,hc,hd,hs,hz,r⟩;obtain⟨z,ay,n,r,e⟩:=h.ok I.aM;exact{ay,r,{_,n,e,rfl,rfl,rfl},z};refine{ay.toList,r,{o,n,I.oP a o hk,hc,hd,by simpa using hs},?_};have e:=r.length;simp only[yt]at e;lia
theorem Inv.tuple(I:Inv X pins σ H s)(h:g_ X.K H a xs):∃ay:List Value,Vals xs ay/\IsTup s.heap a ay.toArray/\xs.length<=sizeLine:=by rcases h with h|⟨o,ay,n,hk,hc,hs,hz,r⟩;obtain⟨z,ay,r,p⟩:=h.ok I.aM;exact⟨ay,r,p.tup,z⟩;refine{ay.toList,r,{o,I.oP a o hk,hc,n,by simpa using hs},?_};have e:=r.length;simp only[yt]at e;lia
theorem Inv.xH(I:Inv X pins σ H s)(h:kh X.K H a xs)(h':kh X.K H a ys):xs=ys:=by
 obtain⟨ay,r,⟨o,n,e,_,_,d⟩,_⟩:=I.list h;obtain⟨its',r',⟨o',n',e',_,_,d'⟩,_⟩:=I.list h';rw[e]at e';cases e';rw[d]at d';injection d' with d1 _;have:ay=its':=by simpa using congrArg Array.toList d1
 subst this;exact r.inj r'
theorem Inv.nJ(I:Inv X pins σ H s)(h:g_ X.K H a xs)(h':g_ X.K H a ys):xs=ys:=by
 obtain⟨ay,r,⟨o,e,_,n,d⟩,_⟩:=I.tuple h;obtain⟨its',r',⟨o',e',_,n',d'⟩,_⟩:=I.tuple h';rw[e]at e';cases e';rw[d]at d';injection d' with d1 _;have:ay=its':=by simpa using congrArg Array.toList d1
 subst this;exact r.inj r'
end
noncomputable abbrev Cx.acm(X:Cx)(E:Value->Shared->Prop):Cx:={X with xe:=E}
section
variable{X:Cx}{st:Stmt}{rest:List Stmt}{t u:TS}{e:Expr}{te:TE}{pos:Pos}
def SX:TS:=λD σ H=>D.nx σ H
def X3(t u:TS):TS:=λD σ H=>t {D with nx:=u D} σ H
theorem Kr:Ds X [] SX:=λ_ _ σ H _ I h=>wpAny_execs_nil ⟨σ,H,I,h⟩
theorem GY(h1:PS X st t)(h2:Ds X rest u):Ds X (st::rest) (X3 t u):=by intro pins s σ H D I h;refine wpAny_execs_cons<|br (h1 pins s σ H {D with nx:=u D} I h) λf s1 q=>?_;cases f with|next=>(obtain⟨aG,H',I',q⟩:=q;exact h2 pins s1 aG H' D I' q)|ret v=>exact q|brk=>exact q|cont=>exact q
theorem Ks(h1:PS X st t):Ds X [st] t:=by intro pins s σ H D I h;refine wpAny_execs_cons<|br (h1 pins s σ H D I h) λf s1 q=>?_;cases f with|next=>exact wpAny_execs_nil q|ret v=>exact q|brk=>exact q|cont=>exact q
theorem Inv.quiet(I:Inv X pins σ H s):interactive X.env=false:=by simp[interactive,I.ok.kind]
def SY(te:TE):TS:=λD σ H=>te σ H λ_ H1=>D.nx σ H1
theorem Kt(he:PE X e te)(hs:autoParam (swapsWith e none pos.line X.env=pure false) qQJ):PS X (.Expr e pos) (SY te):=by intro pins s σ H D I h;exact wpAny_Expr_any (br (he pins s σ H _ I h) <| by rintro v s1 ⟨x,H1,I1,r1,q1⟩;exact⟨σ,H1,I1,q1⟩) I.quiet hs
def X4(te:TE):TS:=λD σ H=>te σ H D.rt
theorem OZ(he:PE X e te):PS X (.Return (some e) pos) (X4 te):=by intro pins s σ H D I h;exact wpAny_Return_some<|br (he pins s σ H _ I h) <| by rintro v s1 ⟨x,H1,I1,r1,q1⟩;exact⟨x,σ,H1,I1,r1,q1⟩
def X5(c:TT)(t u:TS):TS:=λD σ H=>c σ H λb H1=>if b=true then t D σ H1 else u D σ H1
theorem S9(hc:PT X c tc)(ha:Ds X a t)(hb:Ds X b u):PS X (.If c a b pos) (X5 tc t u):=by intro pins s σ H D I h;refine wpAny_If<|br (hc pins s σ H _ I h) λd s1 ⟨H1,I1,q1⟩=>?_;cases d with|true=>exact ha pins s1 σ H1 D I1 q1|false=>exact hb pins s1 σ H1 D I1 q1
end
abbrev TG:=V->St->Hp->(St->Hp->Prop)->Prop
abbrev Np:=List V->St->Hp->(St->Hp->Prop)->Prop
def PG(X:Cx)(target:Expr)(t:TG):Prop:=∀(pins:List (Addr×Obj))(s:Shared)(σ:St)(H:Hp)(v:V)(u:Value)(Q:St->Hp->Prop),Inv X pins σ H s->RelV v u->t v σ H Q->wpAny (model X.prog X.w) X.A (assign target X.env u) (λ_ s'=>∃aG H',Inv X pins aG H' s'/\Q aG H') X.xe s
def Nq(X:Cx)(ts:List Expr)(t:Np):Prop:=∀(pins:List (Addr×Obj))(s:Shared)(σ:St)(H:Hp)(vs:List V)(us:List Value)(Q:St->Hp->Prop),Inv X pins σ H s->Vals vs us->t vs σ H Q->wpAny (model X.prog X.w) X.A (assignInOrder ((assignEach ts X.env).map (·.2)) us) (λ_ s'=>∃aG H',Inv X pins aG H' s'/\Q aG H') X.xe s
abbrev O0:=V->V->V->Hp->(Hp->Prop)->Prop
def S_(X:Cx)(t:O0):Prop:=∀(pins:List (Addr×Obj))(s:Shared)(σ:St)(H:Hp)(o i v:V)(ov iv u:Value)(Q:Hp->Prop),Inv X pins σ H s->RelV o ov->RelV i iv->RelV v u->t o i v H Q->wpAny (model X.prog X.w) X.A (setItem ov iv u) (λ_ s'=>∃H',Inv X pins σ H' s'/\Q H') X.xe s
abbrev X6:=V->V->Hp->VK->Prop
def PIp(X:Cx)(op:Operator)(t:X6):Prop:=∀(pins:List (Addr×Obj))(s:Shared)(σ:St)(H:Hp)(x y:V)(v u:Value)(Q:VK),Inv X pins σ H s->RelV x v->RelV y u->t x y H Q->wpAny (model X.prog X.w) X.A (inplaceOp op v u) (EP X pins σ Q) X.xe s
section
variable{X:Cx}{pos:Pos}
def iX(i:Nat):TG:=λv σ H Q=>Q (σ.set i<|some v) H
theorem qo(hN:X.N.Nodup)(hi:X.N[i]?=some x)(hx:Loc X.env.scope x)(hf:autoParam (X.fn x=true\/X.env.scope.names.lookup x=some .local) qQ6):PG X (.Name x pos) (iX i):=by intro pins s σ H v u Q I r h;exact wpAny_assign_Name<|qH I hN hi hx r (λs' I'=>{_,H,I',h}) hf
def Ku:Np:=λvs σ H Q=>vs=[]/\Q σ H
def qI(t:TG)(u:Np):Np:=λvs σ H Q=>∃v r,vs=v::r/\t v σ H λaG H'=>u r aG H' Q
theorem Dx:Nq X [] Ku:=by intro pins s σ H vs us Q I r h;obtain⟨e,h⟩:=h;subst e;cases r;exact assignInOrder_nil ⟨σ,H,I,h⟩
theorem qJ{t:TG}(h1:PG X e t)(h2:Nq X es u) (hs:autoParam ((assignEach (e::es) X.env).map (·.2)=assign e X.env::(assignEach es X.env).map (·.2)) qQJ):Nq X (e::es) (qI t u):=by intro pins s σ H vs us Q I r h;obtain⟨v,vr,e1,h⟩:=h;subst e1;cases r with|cons r rr=>rw[hs];refine assignInOrder_cons<|br (h1 pins s σ H _ _ _ I r h) λ_ s1 ⟨xw,H1,I1,q1⟩=>?_;exact h2 pins s1 xw H1 _ _ Q I1 rr q1
def Kv(K:Frag)(n:Nat)(t:Np):TG:=λv σ H Q=>∃a xs,v=.ref a/\g_ K H a xs/\xs.length=n/\t xs σ H Q
theorem GZ{t:Np}(hc:X.calm=true)(h:Nq X es t) (hn:autoParam ((assignEach es X.env).length=n) qQJ) (xI:autoParam ((assignEach es X.env).findIdx? (·.1)=none) qQJ):PG X (.Tuple es k pos) (Kv X.K n t):=by intro pins s σ H v u Q I r hw;obtain⟨a,xs,e1,hq,hl,hw⟩:=hw;subst e1;cases r;obtain⟨ay,rv,ht,hz⟩:=I.tuple hq;refine assign_Tuple_tuple (I.ok.hd hc) ht (by simp[hn,<-hl,rv.length]) xI λh' hx=>?_;have I1:Inv X pins σ H {s with heap:=h'}:=I.kept (t':=s.toks) λb o e=>hx b o (zE<|zw e) e;exact h pins _ σ H xs _ Q I1 (by simpa using rv) hw
def X7(to ti:TE)(t:O0):TG:=λv σ H Q=>to σ H λo H1=>ti σ H1 λi H2=>t o i v H2 λH3=>Q σ H3
theorem O3{t:O0}(ho:PE X o to)(hi:PE X i ti)(hs:S_ X t)
  (ha:autoParam (∀v,assign (.Subscript o i pos) X.env v=(do
   let ov <-holding [v] (eval o X.env)
   let iv <-holding [v,ov] (eval i X.env)
   standAt pos
   holding [v,ov,iv] (setItem ov iv v)
   release [v,ov,iv] [])) qQ0):PG X (.Subscript o i pos) (X7 to ti t):=by
 intro pins s σ H v u Q I r h
 rw[ha]
 refine zc<|yL<|br (ho pins s σ H _ I h) λov s1 ⟨x,H1,I1,r1,q1⟩=>?_
 refine zc<|yL<|br (hi pins s1 σ H1 _ I1 q1) λiv s2 ⟨y,H2,I2,r2,q2⟩=>?_
 refine zc<|wpAny_standAt<|zc<|yL<|br (hs pins s2 σ H2 x y v ov iv u _ I2 r1 r2 r q2) λ_ s3 ⟨H3,I3,q3⟩=>?_
 exact wpAny_release ⟨σ,H3,I3,q3⟩
def O4(te:TE)(g:TG):TS:=λD σ H=>te σ H λx H1=>g x σ H1 D.nx
theorem G0(he:PE X e te)(hg:PG X tg g)(hs:autoParam (swapsWithSole [tg] e pos.line X.env=pure false) qQJ)(hw:autoParam (swappedStores [tg] e X.env=pure none) qQJ) (h1:autoParam ((assignEach [tg] X.env).map (·.2)=[assign tg X.env]) qQJ):PS X (.Assign [tg] e pos) (O4 te g):=by intro pins s σ H D I h;refine wpAny_Assign_stores (br (he pins s σ H _ I h) λv s1 ⟨x,H1,I1,r1,q1⟩=>?_) hs hw;rw[h1];exact br (hg pins s1 σ H1 x v _ I1 r1 q1) λ_ s2 q=>q
theorem O5(hN:X.N.Nodup)(hi:X.N[i]?=some x)(hx:Loc X.env.scope x)(he:PE X e te)(hs:autoParam (swapsWith e (some<|.Name x pos') pos.line X.env=pure false) qQJ)(hf:autoParam (X.fn x=true\/X.env.scope.names.lookup x=some .local) qQ6): PS X (.Assign [.Name x pos'] e pos) (O4 te<|iX i):=by intro pins s σ H D I h;refine wpAny_Assign_Name (br (he pins s σ H _ I h) λv s1 ⟨y,H1,I1,r1,q1⟩=>?_) hs;exact qH I1 hN hi hx r1 (λs2 I2=>{_,H1,I2,q1}) hf
def X8(i:Nat)(te:TE)(ti:X6):TS:=λD σ H=>∃x,σ[i]?=some (some x)/\te σ H λy H1=>ti x y H1 λz H2=>D.nx (σ.set i<|some z) H2
theorem O6(hN:X.N.Nodup)(hi:X.N[i]?=some x)(hx:Loc X.env.scope x)(he:PE X e te)(ho:PIp X op ti)(hf:autoParam (X.fn x=true\/X.env.scope.names.lookup x=some .local) qQ6): PS X (.AugAssign (.Name x pos') op e pos) (X8 i te ti):=by
 intro pins s σ H D I h;obtain⟨v,e1,h⟩:=h;obtain⟨m,hn,hl⟩:=I.loc;have vis:OL X.env.scope x:=by rcases hx with k|k;exact .inl k;exact .inr<|.inl k
 obtain⟨u,r,l⟩:=hl i x v hi e1 vis;refine wpAny_AugAssign_Name ?_;have go:wpAny (model X.prog X.w) X.A (eval e X.env) (λw bU=>wpAny (model X.prog X.w) X.A (inplaceOp op u w) (λr Bn=>wpAny (model X.prog X.w) X.A (storeName X.env x r) (λ_=>SP X pins D .next) X.xe Bn) X.xe bU) X.xe s:=by refine br (he pins s σ H _ I h) λw s1 ⟨y,H1,I1,r1,q1⟩=>?_;refine br (ho pins s1 σ H1 v y u w _ I1 r r1 q1) λz s2 ⟨zv,H2,I2,r2,q2⟩=>?_;exact qH I2 hN hi hx r2 (λs3 I3=>{_,H2,I3,q2}) hf
 rcases l with⟨hk,hm⟩|⟨hk,c,hc,Du⟩;exact wpAny_loadName_local I.ok.kind hk hn hm go;rcases hk with hk|hk;exact wpAny_loadName_cell I.ok.kind hk hc Du go;rcases hx with k|k;have:X.env.scope.names.lookup x=some .free:=hk;rw[k]at this;cases this;have:X.env.scope.names.lookup x=some .free:=hk;rw[k]at this;cases this
def ipI(f:Int->Int->Int):X6:=λx y H Q=>∃i j,x=.int i/\y=.int j/\Q (.int<|f i j) H
theorem O7:PIp X .Add (ipI λi j=>i+j):=by intro pins s σ H x y v u Q I r1 r2 h;obtain⟨i,j,e1,e2,q⟩:=h;subst e1;subst e2;obtain⟨t,rfl⟩:=r1;obtain⟨t',rfl⟩:=r2;exact iadd_int {.int _,H,I.tok _,{_,rfl},q}
def O8(c:TT)(tb:TS):TS:=λD σ H=>∃W:Nat->St->Hp->Prop,(∃m,W m σ H)/\∀m σ H,W m σ H->c σ H λb H1=>if b=true then ∃N:St->Hp->Prop,(∀aG H',N aG H'->∃m',m'<m/\W m' aG H')/\tb {D with nx:=N,ct:=N,bk:=D.nx} σ H1 else D.nx σ H1
theorem G1(hp:PassesOwn (model X.prog X.w) X.A X.env X.xe)(hc:PT X c tc)(hb:Ds X body tb):PS X (.While c body [] pos) (O8 tc tb):=by intro pins s σ H D I h;obtain⟨W,⟨m0,w0⟩,turn⟩:=h;refine wpAny_While<|codeAny_whileLoop (λn s'=>∃aG H',Inv X pins aG H' s'/\W n aG H') ?_ m0 ⟨σ,H,I,w0⟩;rintro n s1 ⟨xw,H1,I1,w1⟩;refine wpAny_passesOwn hp<|br (hc pins s1 xw H1 _ I1<|turn n xw H1 w1) λb s2 ⟨H2,I2,q2⟩=>?_;cases b with|true=>(obtain⟨N,hN,q2⟩:=q2;rw[if_pos rfl];refine wpAny_passesOwn hp<|br (hb pins s2 xw H2 _ I2 q2) λf s3 q3=>?_;cases f with|next=>(obtain⟨gq,H3,I3,n3⟩:=q3;obtain⟨m',hm,w3⟩:=hN gq H3 n3;exact⟨m',hm,gq,H3,I3,w3⟩)|cont=>(obtain⟨gq,H3,I3,n3⟩:=q3;obtain⟨m',hm,w3⟩:=hN gq H3 n3;exact⟨m',hm,gq,H3,I3,w3⟩)|brk=>exact q3|ret v=>exact q3)|false=>rw[if_neg zd];exact wpAny_execs_nil ⟨xw,H2,I2,q2⟩
end
structure It where
 go:Nat->Hp->Prop
 Tc:Nat->Hp->V->Hp->Prop
 stop:Nat->Hp->Prop
def tH(X:Cx)(pins:List<|Addr×Obj)(H:Hp)(b:Addr):Prop:=H b=none/\b≠X.env.locals/\b∉X.fs/\(b∈X.ex\/X.dG.heap.objs.size<=b)/\(∀x c,X.env.cells.lookup x=some c->c≠b)/\∀p∈X.pn++pins,p.1≠b
theorem Inv.pU(I:Inv X pins σ H s)(hb:s.heap.objs.size<=b)(hn:H' b=none):tH X pins H' b:=by refine{hn,yo<|zr I.lt hb,I.SN hb,.inr<|zO I.sz hb,λx c e z=>?_,λp hp z=>?_};obtain⟨v,q⟩:=I.cell x c e;exact absurd (zr q.lt<|by rw[z];exact hb)<|yA _;exact absurd (zr (zw (I.pin p hp).1)<|by rw[z];exact hb)<|yA _
structure Turn(P:Program)(w:World)(K:Frag)(tg:Expr)(J:It)(fp:List Addr)(it:Addr)(tn:Nat->Heap->Prop):Prop where
 mem:it∈fp
 obj:∀i h,tn i h->∀b∈fp,∃o,h.get? b=some o/\∀v,o.data≠.cell v
 keep:∀i h h',tn i h->(∀b∈fp,∀o,h.get? b=some o->h'.get? b=some o)->tn i h'
 item:∀(X:Cx),X.prog=P->X.w=w->X.K=K->X.calm=true->∀(i:Nat)(pins:List (Addr×Obj))(s:Shared)(σ:St)(H:Hp)(E:Value->Shared->Prop),Inv X pins σ H s->(∀b∈fp,tH X pins H b)->tn i s.heap->J.go i H ->
  wpAny (model P w) X.A (pyNext<|.ref it) (λr s1=>∃u,r=some u /\
   wpAny (model P w) X.A (letOwnedTupleGo tg (.ref it) u) (λ_ s2=>∃x H',Inv X pins σ H' s2/\RelV x u/\J.Tc i H x H'/\tn (i+1) s2.heap/\∀b∈fp,H' b=none) E s1) E s
 done:∀(X:Cx),X.prog=P->X.w=w->X.K=K->X.calm=true->∀(i:Nat)(pins:List (Addr×Obj))(s:Shared)(σ:St)(H:Hp)(E:Value->Shared->Prop),Inv X pins σ H s->(∀b∈fp,tH X pins H b)->tn i s.heap->J.stop i H ->
  wpAny (model P w) X.A (pyNext<|.ref it) (λr s1=>r=none/\Inv X pins σ H s1) E s
 self:∀(A:Around)(i:Nat)(s:Shared)(Q:Value->Shared->Prop)(E:Value->Shared->Prop),tn i s.heap->Q (.ref it) s->wpAny (model P w) A (pyIter<|.ref it) Q E s
abbrev TI:=St->Hp->(It->Hp->Prop)->Prop
def X9(X:Cx)(pins:List<|Addr×Obj)(σ:St)(tg:Expr)(R:It->Hp->Prop)(WR:Value)(s2:Shared):Prop:=∃(it:Addr)(fp:List Addr)(tn:Nat->Heap->Prop)(J:It)(H':Hp),WR=.ref it/\Inv X pins σ H' s2/\Turn X.prog X.w X.K tg J fp it tn/\tn 0 s2.heap/\(∀b∈fp,tH X pins H' b)/\R J H'
def PI(X:Cx)(tg iter:Expr)(wi:TI):Prop:=∀(pins:List (Addr×Obj))(s:Shared)(σ:St)(H:Hp)(R:It->Hp->Prop),Inv X pins σ H s->wi σ H R->wpAny (model X.prog X.w) X.A (eval iter X.env) (λv s1=>wpAny (model X.prog X.w) X.A (pyIter v) (X9 X pins σ tg R) X.xe s1) X.xe s
theorem uj(ho:s.heap.get? it=some o)(hc:o.cls=.type n)(hd:o.data=.fields vs) (hn:["enumerate","zip","dict_itemiterator","dict_reverseitemiterator","odict_iterator","itertools.zip_longest","itertools.pairwise"].contains n=false) (hQ:Q () s):wpAny M A (letOwnedTupleGo tg (.ref it) u) Q E s:=by
 unfold letOwnedTupleGo
 cases tg<;>first
  |exact zD hQ
  | (cases u<;>first
    |exact zD hQ
    | (refine zc (wpAny_load ho ?_)
       rw[hc,hd]
       show wpAny M A (if (["enumerate","zip","dict_itemiterator","dict_reverseitemiterator","odict_iterator","itertools.zip_longest","itertools.pairwise"].contains n&&vs[0]?==some (rawInt _))=true then _ else _) Q E s
       rw[if_neg<|by intro h;rw[hn,zX]at h;cases h]
       exact zD hQ))
def Itl(K:Frag)(a:Addr):It:={λi H=>∃xs x,kh K H a xs/\xs[i]?=some x,λi H x H'=>H'=H/\∀xs,kh K H a xs->xs[i]?=some x,λi H=>∃xs,kh K H a xs/\xs.length<=i}
def Itt(K:Frag)(a:Addr):It:={λi H=>∃xs x,g_ K H a xs/\xs[i]?=some x,λi H x H'=>H'=H/\∀xs,g_ K H a xs->xs[i]?=some x,λi H=>∃xs,g_ K H a xs/\xs.length<=i}
noncomputable def WS(lo:Int)(n:Nat):It:={λi _=>i<n,λi H x H'=>H'=H/\x=.int (lo+i),λi _=>n<=i}
theorem EU{P:Program}{w:World}{K:Frag}{tg:Expr}(a it:Addr):Turn P w K tg (Itl K a) [it] it (λi h=>h.IsListIter it a i) where
 mem:=by simp
 obj:=λi h st b hb=>by
  have e:b=it:=by simpa using hb
  subst e
  obtain⟨o,e,c,d⟩:=st
  exact{o,e,λv z=>by rw[d]at z;cases z}
 keep:=λi h h' st k=>st.at λo e=>k it (by simp) o e
 item:=by
  intro X hP hw hK hc i pins s σ H E I hf st hg
  subst hP hw hK
  obtain⟨xs,x,hq,hx⟩:=hg
  obtain⟨ay,rv,p,hz⟩:=I.list hq
  obtain⟨u,hu,ru⟩:=rv.get hx
  obtain⟨f0,f1,f2,f3,f4,f5⟩:=hf it<|by simp
  refine wpAny_pyNext_list_item st p.isList (x:=u) (by simpa using hu) λh' eZ sb=>?_
  have I1:Inv X pins σ H {s with heap:=h'}:=I.turned (t':=s.toks) (λb o hb e=>(sb.2 b hb).trans e) f0 f1 f3 f4 f5
  obtain⟨o,e,c,d⟩:=id eZ
  exact{u,rfl,uj (s:={s with heap:=h'}) e c d (by decide) {x,H,I1,ru,{rfl,λys hy=>by rw[I.xH hy hq];exact hx},eZ,λb hb=>(hf b hb).1}}
 done:=by
  intro X hP hw hK hc i pins s σ H E I hf st hg
  subst hP hw hK
  obtain⟨xs,hq,hx⟩:=hg
  obtain⟨ay,rv,p,hz⟩:=I.list hq
  obtain⟨f0,f1,f2,f3,f4,f5⟩:=hf it<|by simp
  have hl:=rv.length
  exact wpAny_pyNext_list_end (I.ok.hd hc) st p.isList (by simp;lia) λh' eb=>{rfl,I.turned (t':=s.toks) (λb o hb e=>eb b o hb e) f0 f1 f3 f4 f5}
 self:=λ_ _ _ _ _ st h=>wpAny_pyIter_listiter st h
theorem Bo{P:Program}{w:World}{K:Frag}{tg:Expr}(a it:Addr):Turn P w K tg (Itt K a) [it] it (λi h=>h.IsTupleIter it a i) where
 mem:=by simp
 obj:=λi h st b hb=>by
  have e:b=it:=by simpa using hb
  subst e
  obtain⟨o,e,c,d⟩:=st
  exact{o,e,λv z=>by rw[d]at z;cases z}
 keep:=λi h h' st k=>st.at λo e=>k it (by simp) o e
 item:=by
  intro X hP hw hK hc i pins s σ H E I hf st hg
  subst hP hw hK
  obtain⟨xs,x,hq,hx⟩:=hg
  obtain⟨ay,rv,p,hz⟩:=I.tuple hq
  obtain⟨u,hu,ru⟩:=rv.get hx
  obtain⟨f0,f1,f2,f3,f4,f5⟩:=hf it<|by simp
  refine wpAny_pyNext_tuple_item st (show s.heap.IsTuple a ay.toArray from p) (x:=u) (by simpa using hu) λh' eZ sb=>?_
  have I1:Inv X pins σ H {s with heap:=h'}:=I.turned (t':=s.toks) (λb o hb e=>(sb.2 b hb).trans e) f0 f1 f3 f4 f5
  obtain⟨o,e,c,d⟩:=id eZ
  exact{u,rfl,uj (s:={s with heap:=h'}) e c d (by decide) {x,H,I1,ru,{rfl,λys hy=>by rw[I.nJ hy hq];exact hx},eZ,λb hb=>(hf b hb).1}}
 done:=by
  intro X hP hw hK hc i pins s σ H E I hf st hg
  subst hP hw hK
  obtain⟨xs,hq,hx⟩:=hg
  obtain⟨ay,rv,p,hz⟩:=I.tuple hq
  obtain⟨f0,f1,f2,f3,f4,f5⟩:=hf it<|by simp
  have hl:=rv.length
  exact wpAny_pyNext_tuple_end (I.ok.hd hc) st (show s.heap.IsTuple a ay.toArray from p) (by simp;lia) λh' eb=>{rfl,I.turned (t':=s.toks) (λb o hb e=>eb b o hb e) f0 f1 f3 f4 f5}
 self:=λ_ _ _ _ _ st h=>wpAny_pyIter_tupleiter st h
theorem Bp{P:Program}{w:World}{K:Frag}{tg:Expr}(it:Addr)(lo:Int)(n:Nat):Turn P w K tg (WS lo n) [it] it (λi h=>IsRangeIter h it (lo+(i:Nat)*1) ((n:Int)-(i:Nat)) 1) where
 mem:=by simp
 obj:=λi h st b hb=>by
  have e:b=it:=by simpa using hb
  subst e
  exact⟨_,st,λv z=>by
   have z':Data.fields _=Data.cell v:=z
   cases z'⟩
 keep:=λi h h' st k=>k it (by simp) _ st
 item:=by
  intro X hP hw hK hc i pins s σ H E I hf st hg
  subst hP hw hK
  obtain⟨f0,f1,f2,f3,f4,f5⟩:=hf it<|by simp
  have W:=Walks.range (prog:=X.prog) (w:=X.w) (I.ok.hd hc) it lo 1 n
  refine W.item i s _ _ hg st λv h' tk hv eZ kk=>?_
  obtain⟨t,rfl⟩:=hv
  have I1:Inv X pins σ H {s with heap:=h',toks:=tk}:=I.turned (λb o hb e=>kk b o (by simpa using hb) e) f0 f1 f3 f4 f5
  refine{_,rfl,uj (s:={s with heap:=h',toks:=tk}) (n:="range_iterator") eZ rfl rfl (by decide) {.int<|lo+i,H,I1,{t,?_},⟨rfl,rfl⟩,eZ,λb hb=>(hf b hb).1}}
  rw[Int.mul_one]
 done:=by
  intro X hP hw hK hc i pins s σ H E I hf st hg
  subst hP hw hK
  obtain⟨f0,f1,f2,f3,f4,f5⟩:=hf it<|by simp
  exact wpAny_pyNext_range_end (I.ok.hd hc) st (by have:n<=i:=hg;lia) λh' eb=>{rfl,I.turned (t':=s.toks) (λb o hb e=>eb b o hb e) f0 f1 f3 f4 f5}
 self:=λ_ _ _ _ _ st h=>wpAny_pyIter_rangeiter st h
section
variable{X:Cx}{tg:Expr}
def Td(K:Frag)(tl:TE):TI:=λσ H R=>tl σ H λx H1=>∃a,x=.ref a/\(∃xs,kh K H1 a xs)/\R (Itl K a) H1
def X_(K:Frag)(tl:TE):TI:=λσ H R=>tl σ H λx H1=>∃a,x=.ref a/\(∃xs,g_ K H1 a xs)/\R (Itt K a) H1
theorem Kw{l:Expr}{tl:TE}(hl:PE X l tl):PI X tg l (Td X.K tl):=by
 intro pins s σ H R I h;refine br (hl pins s σ H _ I h) λv s1 ⟨x,H1,I1,r1,q1⟩=>?_;obtain⟨a,e,⟨xs,hq⟩,q⟩:=q1;subst e;cases r1;obtain⟨ay,rv,p,hz⟩:=I1.list hq;refine wpAny_pyIter_list p.isList ?_;refine{s1.heap.objs.size,[s1.heap.objs.size],_,_,H1,rfl,I1.kept (t':=s1.toks) λb o e=>za _ e,EU a _,{_,zk _ rfl,rfl,rfl},λb hb=>?_,q};have e:b=s1.heap.objs.size:=by simpa using hb
 subst e;exact I1.pU (zp _)<|I1.aM.fresh<|zp _
theorem O9{l:Expr}{tl:TE}(hl:PE X l tl):PI X tg l (X_ X.K tl):=by
 intro pins s σ H R I h;refine br (hl pins s σ H _ I h) λv s1 ⟨x,H1,I1,r1,q1⟩=>?_;obtain⟨a,e,⟨xs,hq⟩,q⟩:=q1;subst e;cases r1;obtain⟨ay,rv,p,hz⟩:=I1.tuple hq;refine wpAny_pyIter_tuple (show s1.heap.IsTuple a ay.toArray from p) ?_;refine{s1.heap.objs.size,[s1.heap.objs.size],_,_,H1,rfl,I1.kept (t':=s1.toks) λb o e=>za _ e,Bo a _,{_,zk _ rfl,rfl,rfl},λb hb=>?_,q};have e:b=s1.heap.objs.size:=by simpa using hb
 subst e;exact I1.pU (zp _)<|I1.aM.fresh<|zp _
theorem G4{pins:List<|Addr×Obj}{σ:St}{H:Hp}{s:Shared}{R:It->Hp->Prop}{E:Value->Shared->Prop}{lo hi:Int}{t u v:Tok}{tk:Nat}(I:Inv X pins σ H s)(h1:-(2^62)<=lo)(h2:lo<2^62)(h3:-(2^62)<=hi)(h4:hi<2^62) (q:R (WS lo (hi-lo).toNat) H):wpAny (model X.prog X.w) X.A (pyIter<|.ref s.heap.objs.size) (X9 X pins σ tg R) E {s with heap:=s.heap.push {cls:=.type "range",data:=.fields #[.int lo t,.int hi u,.int 1 v]},toks:=tk}:=by
 refine wpAny_pyIter_range (IsRange.new ..) (small_one h1 h2 h3 h4) ?_;have I1:Inv X pins σ H {s with heap:=s.heap.push {cls:=.type "range",data:=.fields #[.int lo t,.int hi u,.int 1 v]},toks:=tk}:=I.kept λb o e=>za _ e;refine{(s.heap.push {cls:=.type "range",data:=.fields #[.int lo t,.int hi u,.int 1 v]}).objs.size,[(s.heap.push {cls:=.type "range",data:=.fields #[.int lo t,.int hi u,.int 1 v]}).objs.size],_,_,H,rfl,I1.kept (t':=tk) λb o e=>za _ e,Bp _ lo (hi-lo).toNat,?_,λb hb=>?_,q};have e1:lo+((0:Nat):Int)*1=lo:=by simp
 have e2:(((hi-lo).toNat:Nat):Int)-((0:Nat):Int)=Builtin.Range.rangeSize lo hi 1:=by rw[rangeSize_one];split<;>lia
 show IsRangeIter _ _ (lo+((0:Nat):Int)*1) ((((hi-lo).toNat:Nat):Int)-((0:Nat):Int)) 1;rw[e1,e2];exact zk _ rfl;have e:b=(s.heap.push {cls:=.type "range",data:=.fields #[.int lo t,.int hi u,.int 1 v]}).objs.size:=by simpa using hb
 subst e;exact I1.pU (zp _)<|I1.aM.fresh<|zp _
def Te(ta:TA):TI:=λσ H R=>ta σ H λvs H1=>∃j:Int,vs=[.int j]/\-(2^62)<=j/\j<2^62/\R (WS 0 j.toNat) H1
theorem EV{a:Expr}{ta:TA}{p pos:Pos}(hg:Gl X "range")(hm:X.mg "range"= none)(ha:PA X [a] ta)(hs:autoParam (starEach [a] X.env=[(false,eval a X.env)]) qQJ):PI X tg (.Call (.Name "range" p) [a] [] pos) (Te ta):=by intro pins s σ H R I h;refine Call_<|gG I hg hm boot_range<|PyProof.Rows.callWith_type1 (br (ha pos pins s σ H _ I h) λus s1 ⟨vs,H1,I1,r1,q1⟩=>?_) hs rfl;obtain⟨j,e,q1,q2,q⟩:=q1;subst e;cases r1 with|cons r rr=>cases rr;obtain⟨t,rfl⟩:=r;exact call_range_1<|G4 I1 (by lia) (by lia) q1 q2<|by simpa using q
def Ya(wi:TI)(g:TG)(tb:TS):TS:=λD σ H=>wi σ H λJ H1=>∃W:Nat->Nat->St->Hp->Prop,(∃m,W 0 m σ H1)/\∀i m σ H,W i m σ H->(J.stop i H/\D.nx σ H)\/(J.go i H/\∃N:St->Hp->Prop,(∀aG H',N aG H'->∃m',m'<m/\W (i+1) m' aG H')/\∀x H',J.Tc i H x H'->g x σ H' λqp H2=>tb {D with nx:=N,ct:=N,bk:=D.nx} qp H2)
noncomputable def qL(fp:List Addr)(h:Heap):List (Addr×Obj):=fp.filterMap λb=>(h.get? b).map λo=>(b,o)
theorem iD(hb:b∈fp)(e:h.get? b=some o):(b,o)∈qL fp h:=List.mem_filterMap.mpr {b,hb,by rw[e];rfl}
theorem EW(hp:p∈qL fp h):p.1∈fp/\h.get? p.1=some p.2:=by obtain⟨b,hb,e⟩:=List.mem_filterMap.mp hp;cases q:h.get? b with|none=>(rw[q]at e;cases e)|some o=>rw[q]at e;have e':(b,o)=p:=zU e;subst e';exact⟨hb,q⟩
theorem Inv.pinned(I:Inv X pins σ H s)(hf:∀b∈fp,tH X pins H b)(ho:∀b∈fp,∃o,s.heap.get? b=some o/\∀v,o.data≠.cell v):Inv X (pins++qL fp s.heap) σ H s:=I.ml λp hp=>(zL.mp hp).elim (λz=>I.pin p<|zI _ z) λz=>by obtain⟨hb,e⟩:=EW z;obtain⟨f0,f1,f2,_⟩:=hf p.1 hb;obtain⟨o,e',d⟩:=ho p.1 hb;rw[e]at e';cases e';exact⟨e,f0,f1,f2,d⟩
theorem Inv.qM(I:Inv X (pins++pl) σ H s):Inv X pins σ H s:=I.ml λp hp=>I.pin p<|zI _<|ye _ hp
theorem O_(hp:PassesOwn (model X.prog X.w) X.A X.env X.xe)(hc:X.calm=true)(hi:PI X tg iter wi)(hg:PG X tg g)(hb:Ds X body tb) (hs:autoParam (∀x,foldedSetIterable iter X.env x=pure x) qQ0):PS X (.For tg iter body [] pos) (Ya wi g tb):=by intro pins s σ H D I h;refine wpAny_For (br (hi pins s σ H _ I h) λv s1 h1=>br h1 λWR s2 h2=>?_) hs;obtain⟨it,fp,tn,J,H2,e,I2,T,Nr,f2,W,⟨m0,w0⟩,turn⟩:=h2;subst e;have Pa:∀{H':Hp},(∀b∈fp,H' b=none)->∀b∈fp,tH X pins H' b:=λhn b hb=>{hn b hb,(f2 b hb).2};refine codeAny_forLoop_any (λn s'=>∃i aG H',Inv X pins aG H' s'/\tn i s'.heap/\(∀b∈fp,H' b=none)/\W i n aG H') ?_ m0 {0,σ,H2,I2,Nr,λb hb=>(f2 b hb).1,w0};rintro n s3 ⟨i,gq,H3,I3,Nt,Tf,w3⟩;rcases turn i n gq H3 w3 with⟨stop,qn⟩|⟨go,N,hN,step⟩;refine wpAny_passesOwn hp<|br (T.done X rfl rfl rfl hc i pins s3 gq H3 X.xe I3 (Pa Tf) Nt stop) λr s4 ⟨hr,I4⟩=>?_;subst hr;exact wpAny_execs_nil ⟨gq,H3,I4,qn⟩;{refine wpAny_passesOwn hp<|br (T.item X rfl rfl rfl hc i pins s3 gq H3 X.xe I3 (Pa Tf) Nt go) λr s4 ⟨u,hr,h4⟩=>?_;subst hr;refine wpAny_passesOwn hp<|br h4 λ_ s5 ⟨x,H5,I5,r5,y5,J1,fr5⟩=>?_;have Yb:=I5.pinned (Pa fr5)<|T.obj _ _ J1;refine wpAny_passesOwn hp<|br (hg _ s5 gq H5 x u _ Yb r5<|step x H5 y5) λ_ s6 ⟨Th,H6,I6,q6⟩=>?_;refine wpAny_passesOwn hp<|br (hb _ s6 Th H6 _ I6 q6) λf s7 q7=>?_;have again:∀{G5:St}{H7:Hp},Inv X (pins++qL fp s5.heap) G5 H7 s7->N G5 H7->∃m,m<n/\∃i aG H',Inv X pins aG H' s7/\tn i s7.heap/\(∀b∈fp,H' b=none)/\W i m aG H':=λ{G5 H7} I7 n7=>(by obtain⟨m',hm,w7⟩:=hN G5 H7 n7;refine{m',hm,i+1,G5,H7,I7.qM,T.keep _ _ _ J1 λb hb o e=>(I7.pin (b,o)<|zI _<|zI _<|iD hb e).1,λb hb=>?_,w7};obtain⟨o,e,d⟩:=T.obj _ _ J1 b hb;exact(I7.pin (b,o)<|zI _<|zI _<|iD hb e).2.1);cases f with|next=>(obtain⟨G5,H7,I7,n7⟩:=q7;exact again I7 n7)|cont=>(obtain⟨G5,H7,I7,n7⟩:=q7;exact again I7 n7)|brk=>(obtain⟨G5,H7,I7,q7⟩:=q7;exact⟨G5,H7,I7.qM,q7⟩)|ret v=>obtain⟨x7,G5,H7,I7,r7,q7⟩:=q7;exact⟨x7,G5,H7,I7.qM,r7,q7⟩}
end
abbrev R2:=V->V->Hp->VK->Prop
def hG(X:Cx)(f:Value->Value->Sem Value)(r:R2):Prop:=∀(pins:List (Addr×Obj))(s:Shared)(σ:St)(H:Hp)(x y:V)(v u:Value)(Q:VK),Inv X pins σ H s->RelV x v->RelV y u->r x y H Q->wpAny (model X.prog X.w) X.A (f v u) (EP X pins σ Q) X.xe s
def Yc(X:Cx)(f:Value->Sem Value)(r:V->Hp->VK->Prop):Prop:=∀(pins:List (Addr×Obj))(s:Shared)(σ:St)(H:Hp)(x:V)(v:Value)(Q:VK),Inv X pins σ H s->RelV x v->r x H Q->wpAny (model X.prog X.w) X.A (f v) (EP X pins σ Q) X.xe s
def fg(X:Cx)(f:Value)(r:List V->Hp->VK->Prop):Prop:=∀(pins:List (Addr×Obj))(s:Shared)(σ:St)(H:Hp)(xs:List V)(us:List Value)(Q:VK),Inv X pins σ H s->Vals xs us->r xs H Q->wpAny (model X.prog X.w) X.A (call f us) (EP X pins σ Q) X.xe s
def R1(r:R2)(ta tb:TE):TE:=λσ H Q=>ta σ H λx H1=>tb σ H1 λy H2=>r x y H2 Q
def tUn(r:V->Hp->VK->Prop)(ta:TE):TE:=λσ H Q=>ta σ H λx H1=>r x H1 Q
def rI(C:Int->Int->Prop)(g:Int->Int->V):R2:=λx y H Q=>∃i j,x=.int i/\y=.int j/\C i j/\Q (g i j) H
def Kx(g:Int->Int->V):R2:=λx y H Q=>∃i j,x=.int i/\y=.int j/\Q (g i j) H
def rU(g:Int->V):V->Hp->VK->Prop:=λx H Q=>∃i,x=.int i/\Q (g i) H
section
variable{X:Cx}{a b:Expr}{ta tb:TE}{pos:Pos}
theorem Pb(ha:PE X a ta)(hb:PE X b tb){pins:List<|Addr×Obj}{s:Shared}{σ:St}{H:Hp}{R:V->V->Hp->Prop}(I:Inv X pins σ H s) (h:ta σ H λx H1=>tb σ H1 λy H2=>R x y H2) {Q:Value->Shared->Prop}{f:Value->Value->Sem Value} (hf:∀v u s2 x y H2,Inv X pins σ H2 s2->RelV x v->RelV y u->R x y H2->wpAny (model X.prog X.w) X.A (f v u) Q X.xe s2): wpAny (model X.prog X.w) X.A (eval a X.env) (λv bc=>wpAny (model X.prog X.w) X.A (eval b X.env) (λu bU=>wpAny (model X.prog X.w) X.A (f v u) Q X.xe bU) X.xe bc) X.xe s:=by refine br (ha pins s σ H _ I h) λv s1 ⟨x,H1,I1,r1,q1⟩=>?_;refine br (hb pins s1 σ H1 _ I1 q1) λu s2 ⟨y,H2,I2,r2,q2⟩=>?_;exact hf v u s2 x y H2 I2 r1 r2 q2
theorem Tj{op:Operator}{r:R2}(ho:hG X (binaryOp op) r)(ha:PE X a ta)(hb:PE X b tb):PE X (.BinOp a op b pos) (R1 r ta tb):=by intro pins s σ H Q I h;exact wpAny_BinOp<|Pb ha hb I h λv u s2 x y H2 I2 rx ry q=>ho pins s2 σ H2 x y v u Q I2 rx ry q
theorem Tp(ho:Yc X (unaryOp op) r)(ha:PE X a ta):PE X (.UnaryOp op a pos) (tUn r ta):=by intro pins s σ H Q I h;exact UnaryOp_<|br (ha pins s σ H _ I h) <| by rintro v s1 ⟨x,H1,I1,r1,q1⟩;exact ho pins s1 σ H1 x v Q I1 r1 q1
theorem WT{f:Value->Value->Sem Value}{C:Int->Int->Prop}{g:Int->Int->Int} (rule:∀(i j:Int)(t u:Tok)(s:Shared)(Q:Value->Shared->Prop)(E:Value->Shared->Prop),C i j->Q (.int (g i j) s.toks) {s with toks:=s.toks+1}->wpAny (model X.prog X.w) X.A (f (.int i t)<|.int j u) Q E s): hG X f (rI C λi j=>.int<|g i j):=by intro pins s σ H x y v u Q I rx ry h;obtain⟨i,j,rfl,rfl,hc,q⟩:=h;obtain⟨t,rfl⟩:=rx;obtain⟨t',rfl⟩:=ry;exact rule i j t t' s _ _ hc {.int<|g i j,H,I.tok _,{_,rfl},q}
theorem Tq{f:Value->Value->Sem Value}{g:Int->Int->Int} (rule:∀(i j:Int)(t u:Tok)(s:Shared)(Q:Value->Shared->Prop)(E:Value->Shared->Prop),Q (.int (g i j) s.toks) {s with toks:=s.toks+1}->wpAny (model X.prog X.w) X.A (f (.int i t)<|.int j u) Q E s): hG X f (Kx λi j=>.int<|g i j):=by intro pins s σ H x y v u Q I rx ry h;obtain⟨i,j,rfl,rfl,q⟩:=h;obtain⟨t,rfl⟩:=rx;obtain⟨t',rfl⟩:=ry;exact rule i j t t' s _ _ {.int<|g i j,H,I.tok _,{_,rfl},q}
theorem Ky{f:Value->Value->Sem Value}{g:Int->Int->Bool} (rule:∀(i j:Int)(t u:Tok)(s:Shared)(Q:Value->Shared->Prop)(E:Value->Shared->Prop),Q (.bool<|g i j) s->wpAny (model X.prog X.w) X.A (f (.int i t)<|.int j u) Q E s): hG X f (Kx λi j=>.bl<|g i j):=by intro pins s σ H x y v u Q I rx ry h;obtain⟨i,j,rfl,rfl,q⟩:=h;obtain⟨t,rfl⟩:=rx;obtain⟨t',rfl⟩:=ry;exact rule i j t t' s _ _ {.bl<|g i j,H,I,rfl,q}
def Tr(i j:Int):Prop:=0<=j/\j<=1000000/\i.natAbs<2^64
def Kz(i j:Int):Prop:=(-(2^64)<i/\i<2^64)\/(-(2^64)<j/\j<2^64)
theorem Kz.ok{i j:Int}(h:Kz i j):IntMulOk i j:=by rcases h with⟨h1,h2⟩|⟨h1,h2⟩;exact .of_left<|intBits_le_64 h1 h2;exact .of_right<|intBits_le_64 h1 h2
theorem G6:hG X (binaryOp .Add) (Kx λi j=>.int<|i+j):=Tq λ_ _ _ _ _ _ _ q=>add_int q
theorem Pc:hG X (binaryOp .Sub) (Kx λi j=>.int<|i-j):=Tq λ_ _ _ _ _ _ _ q=>sub_int q
theorem Pd:hG X (binaryOp .Mult) (rI Kz λi j=>.int<|i*j):=WT λ_ _ _ _ _ _ _ hc q=>mul_int q hc.ok
theorem Pe:hG X (binaryOp .Mod) (rI (λ_ j=>0<j) λi j=>.int<|i%j):=WT λi j _ _ _ _ _ hc q=>by have h1:(0:Int)<j:=hc;exact mod_int' (by lia)<|by rw[Int.fmod_eq_emod_of_nonneg i<|by lia];exact q
theorem Pf:hG X (binaryOp .Pow) (rI Tr λi j=>.int<|i^j.toNat):=WT λ_ _ _ _ _ _ _ hc q=>pow_int_small hc.1 hc.2.1 hc.2.2 q
theorem unI{f:Value->Sem Value}{g:Int->Int} (rule:∀(i:Int)(t:Tok)(s:Shared)(Q:Value->Shared->Prop)(E:Value->Shared->Prop),Q (.int (g i) s.toks) {s with toks:=s.toks+1}->wpAny (model X.prog X.w) X.A (f<|.int i t) Q E s): Yc X f (rU λi=>.int<|g i):=by intro pins s σ H x v Q I rx h;obtain⟨i,rfl,q⟩:=h;obtain⟨t,rfl⟩:=rx;exact rule i t s _ _ {.int<|g i,H,I.tok _,{_,rfl},q}
theorem Pg:Yc X (unaryOp .USub) (rU λi=>.int (-i)):=unI λ_ _ _ _ _ q=>neg_int q
end
noncomputable def Ts:V->V->Bool|.av,.av=>true|.av,.int _=>true|.int _,.av=>true|.av,.bl _=>true|.bl _,.av=>true|.av,.str _=>true|.str _,.av=>true|.int _,.int _=>true|.bl _,.bl _=>true|.str _,.str _=>true|.Dq _,.Dq _=>true|.int _,.str _=>true|.str _,.int _=>true|.bl _,.str _=>true|.str _,.bl _=>true|_,_=>false
def rEq:R2:=λx y H Q=>Ts x y=true/\Q (.bl<|decide<|x=y) H
def rNe:R2:=λx y H Q=>Ts x y=true/\Q (.bl<|!decide (x=y)) H
theorem Dy:decide (V.int i=V.int j)=(i==j):=by rw[yE];simp
theorem G7:decide (V.bl i=V.bl j)=(i==j):=by rw[yE];simp
theorem Dz:decide (V.str i=V.str j)=(i==j):=by rw[yE];simp
theorem DB:decide (V.Dq i=V.Dq j)=(i.toList==j.toList):=by rw[yE];cases i;cases j;simp
section
variable{X:Cx}{a b c:Expr}{ta tb tc:TE}{pos:Pos}
theorem aJ(I:Inv X pins σ H s)(q:Q (.bl k) H)(e:k=k'):EP X pins σ Q (.bool k') s:=by subst e;exact{.bl k,H,I,rfl,q}
theorem Nu:hG X (compareOp .Eq) rEq:=by intro pins s σ H x y v u Q I rx ry h;obtain⟨hs,q⟩:=h;cases x with|av=>(cases rx;cases y with|av=>(cases ry;exact PySem.EqNone.eq_none_none<|aJ I q<|by simp)|bl j=>(cases ry;exact PySem.EqNone.eq_none_bool<|aJ I q<|by simp)|int j=>(obtain⟨t',rfl⟩:=ry;exact PySem.EqNone.eq_none_int<|aJ I q<|by simp)|str j=>(obtain⟨t',rfl⟩:=ry;exact PySem.EqNone.eq_none_str<|aJ I q<|by simp)|_=>exact absurd (show false=true from hs) zd)|bl i=>(cases rx;cases y with|av=>(cases ry;exact PySem.EqNone.eq_bool_none<|aJ I q<|by simp)|bl j=>(cases ry;exact eq_bool<|aJ I q G7)|str j=>(obtain⟨t',rfl⟩:=ry;exact PySem.EqMixed.eq_bool_str<|aJ I q<|by simp)|_=>exact absurd (show false=true from hs) zd)|int i=>(obtain⟨t,rfl⟩:=rx;cases y with|av=>(cases ry;exact PySem.EqNone.eq_int_none<|aJ I q<|by simp)|int j=>(obtain⟨t',rfl⟩:=ry;exact eq_int<|aJ I q Dy)|str j=>(obtain⟨t',rfl⟩:=ry;exact PySem.EqMixed.eq_int_str<|aJ I q<|by simp)|_=>exact absurd (show false=true from hs) zd)|str i=>(obtain⟨t,rfl⟩:=rx;cases y with|av=>(cases ry;exact PySem.EqNone.eq_str_none<|aJ I q<|by simp)|bl j=>(cases ry;exact PySem.EqMixed.eq_str_bool<|aJ I q<|by simp)|int j=>(obtain⟨t',rfl⟩:=ry;exact PySem.EqMixed.eq_str_int<|aJ I q<|by simp)|str j=>(obtain⟨t',rfl⟩:=ry;exact eq_str<|aJ I q Dz)|_=>exact absurd (show false=true from hs) zd)|Dq i=>(obtain⟨t,rfl⟩:=rx;cases y with|Dq j=>(obtain⟨t',rfl⟩:=ry;exact PySem.W.eq_bytes<|aJ I q DB)|_=>exact absurd (show false=true from hs) zd)|_=>cases y<;>exact absurd (show false=true from hs) zd
theorem Nv:hG X (compareOp .NotEq) rNe:=by intro pins s σ H x y v u Q I rx ry h;obtain⟨hs,q⟩:=h;cases x with|av=>(cases rx;cases y with|av=>(cases ry;exact PySem.EqNone.ne_none_none<|aJ I q<|by simp)|bl j=>(cases ry;exact PySem.EqNone.ne_none_bool<|aJ I q<|by simp)|int j=>(obtain⟨t',rfl⟩:=ry;exact PySem.EqNone.ne_none_int<|aJ I q<|by simp)|str j=>(obtain⟨t',rfl⟩:=ry;exact PySem.EqNone.ne_none_str<|aJ I q<|by simp)|_=>exact absurd (show false=true from hs) zd)|bl i=>(cases rx;cases y with|av=>(cases ry;exact PySem.EqNone.ne_bool_none<|aJ I q<|by simp)|bl j=>(cases ry;exact ne_bool<|aJ I q<|congrArg not G7)|str j=>(obtain⟨t',rfl⟩:=ry;exact PySem.EqMixed.ne_bool_str<|aJ I q<|by simp)|_=>exact absurd (show false=true from hs) zd)|int i=>(obtain⟨t,rfl⟩:=rx;cases y with|av=>(cases ry;exact PySem.EqNone.ne_int_none<|aJ I q<|by simp)|int j=>(obtain⟨t',rfl⟩:=ry;exact ne_int<|aJ I q<|congrArg not Dy)|str j=>(obtain⟨t',rfl⟩:=ry;exact PySem.EqMixed.ne_int_str<|aJ I q<|by simp)|_=>exact absurd (show false=true from hs) zd)|str i=>(obtain⟨t,rfl⟩:=rx;cases y with|av=>(cases ry;exact PySem.EqNone.ne_str_none<|aJ I q<|by simp)|bl j=>(cases ry;exact PySem.EqMixed.ne_str_bool<|aJ I q<|by simp)|int j=>(obtain⟨t',rfl⟩:=ry;exact PySem.EqMixed.ne_str_int<|aJ I q<|by simp)|str j=>(obtain⟨t',rfl⟩:=ry;exact ne_str<|aJ I q<|congrArg not Dz)|_=>exact absurd (show false=true from hs) zd)|Dq i=>(obtain⟨t,rfl⟩:=rx;cases y with|Dq j=>(obtain⟨t',rfl⟩:=ry;exact PySem.W.ne_bytes<|aJ I q<|congrArg not DB)|_=>exact absurd (show false=true from hs) zd)|_=>cases y<;>exact absurd (show false=true from hs) zd
theorem Tu:hG X (compareOp .Lt) (Kx λi j=>.bl<|decide<|i<j):=Ky λ_ _ _ _ _ _ _ q=>lt_int q
theorem Tv:hG X (compareOp .LtE) (Kx λi j=>.bl<|decide<|i<=j):=Ky λ_ _ _ _ _ _ _ q=>le_int q
theorem Tw:hG X (compareOp .Gt) (Kx λi j=>.bl<|decide<|j<i):=Ky λ_ _ _ _ _ _ _ q=>gt_int q
theorem Tx:hG X (compareOp .GtE) (Kx λi j=>.bl<|decide<|j<=i):=Ky λ_ _ _ _ _ _ _ q=>ge_int q
theorem EX:hG X (compareOp .Lt) (λx y H Q=>∃i j,x=.str i/\y=.str j/\Q (.bl<|decide<|i.cps.toList<j.cps.toList) H):=by intro pins s σ H x y v u Q I rx ry h;obtain⟨i,j,rfl,rfl,q⟩:=h;obtain⟨t,rfl⟩:=rx;obtain⟨t',rfl⟩:=ry;exact lt_str<|aJ I q rfl
theorem EY:hG X (compareOp .In) (λx y H Q=>∃i j,x=.str i/\y=.str j/\Q (.bl<|!(Builtin.Str.occurrences j i 0 j.length 1).isEmpty) H):=by intro pins s σ H x y v u Q I rx ry h;obtain⟨i,j,rfl,rfl,q⟩:=h;obtain⟨t,rfl⟩:=rx;obtain⟨t',rfl⟩:=ry;exact in_str<|aJ I q rfl
theorem Ph:hG X (compareOp .Is) (λx y H Q=>y=.av/\Q (.bl<|decide<|x=.av) H):=by intro pins s σ H x y v u Q I rx ry h;obtain⟨rfl,q⟩:=h;cases ry;refine is_none_gen<|aJ I q ?_;cases x<;>first| (cases rx;rfl)| (obtain⟨t,rfl⟩:=rx;rfl)
theorem KA:hG X (compareOp .IsNot) (λx y H Q=>y=.av/\Q (.bl<|!decide (x=.av)) H):=by intro pins s σ H x y v u Q I rx ry h;obtain⟨rfl,q⟩:=h;cases ry;refine isnot_none_gen<|aJ I q ?_;cases x<;>first| (cases rx;rfl)| (obtain⟨t,rfl⟩:=rx;rfl)
theorem Yd(b:Expr)(h:autoParam (op≠.In) qQZ)(h2:autoParam (op≠.NotIn) qQZ):behindInMarks op b=false:=by
 have e1:(op==CmpOp.In)=false:=by cases op<;>first|rfl|exact absurd rfl h
 have e2:(op==CmpOp.NotIn)=false:=by cases op<;>first|rfl|exact absurd rfl h2
 cases b<;>simp[behindInMarks,e1,e2]
theorem DC{op:CmpOp}{r:R2}(ho:hG X (compareOp op) r)(ha:PE X a ta)(hb:PE X b tb)(hm:behindInMarks op b=false):PE X (.Compare a [op] [b] pos) (R1 r ta tb):=by intro pins s σ H Q I h;exact wpAny_Compare1 (Pb ha hb I h λv u s2 x y H2 I2 rx ry q=>ho pins s2 σ H2 x y v u Q I2 rx ry q) hm
def G8(t:TE):TT:=λσ H Q=>t σ H λx H'=>∃k,x=.bl k/\Q k H'
theorem KC{op:CmpOp}{r:R2}(ho:hG X (compareOp op) r)(ha:PE X a ta)(hb:PE X b tb)(hm:behindInMarks op b=false):PT X (.Compare a [op] [b] pos) (G8<|R1 r ta tb):=by intro pins s σ H Q I h;refine wpAny_isTrue_Compare1 (br (ha pins s σ H _ I h) λv s1 ⟨x,H1,I1,r1,q1⟩=>br (hb pins s1 σ H1 _ I1 q1) λu s2 ⟨y,H2,I2,r2,q2⟩=>br (ho pins s2 σ H2 x y v u _ I2 r1 r2 q2) λc s3 ⟨z,H3,I3,r3,k,e,q3⟩=>?_) hm;subst e;cases r3;exact yu ⟨H3,I3,q3⟩
def Bq(r r':R2)(ta tb tc:TE):TE:=λσ H Q=>ta σ H λx H1=>tb σ H1 λy H2=>r x y H2 λz H3=>∃k,z=.bl k/\(if k=true then tc σ H3 λw' H4=>r' y w' H4 Q else Q (.bl false) H3)
theorem G9{op EZ:CmpOp}{r r':R2}(ho:hG X (compareOp op) r)(Bl:hG X (compareOp EZ) r')(ha:PE X a ta)(hb:PE X b tb)(hc:PE X c tc) (hm:autoParam (lastMarks [op,EZ] [b,c]=false) qQ2):PE X (.Compare a [op,EZ] [b,c] pos) (Bq r r' ta tb tc):=by intro pins s σ H Q I h;refine Compare_chain (br (ha pins s σ H _ I h) λv s1 ⟨x,H1,I1,r1,q1⟩=>chain_link<|br (hb pins s1 σ H1 _ I1 q1) λu s2 ⟨y,H2,I2,r2,q2⟩=>br (ho pins s2 σ H2 x y v u _ I2 r1 r2 q2) λd s3 ⟨z,H3,I3,r3,k,e,q3⟩=>?_) hm;subst e;cases r3;refine yu ?_;cases k with|false=>exact ite_ff {.bl false,H3,I3,rfl,q3}|true=>exact ite_tt<|chain_last<|br (hc pins s3 σ H3 _ I3 q3) λw' s4 ⟨z',H4,I4,r4,q4⟩=>Bl pins s4 σ H4 y z' u w' Q I4 r2 r4 q4
theorem G_{op EZ:CmpOp}{r r':R2}(ho:hG X (compareOp op) r)(Bl:hG X (compareOp EZ) r')(ha:PE X a ta)(hb:PE X b tb)(hc:PE X c tc) (hm:autoParam (lastMarks [op,EZ] [b,c]=false) qQ2):PT X (.Compare a [op,EZ] [b,c] pos) (G8<|Bq r r' ta tb tc):=by intro pins s σ H Q I h;refine isTrue_chain (br (ha pins s σ H _ I h) λv s1 ⟨x,H1,I1,r1,q1⟩=>test_link<|br (hb pins s1 σ H1 _ I1 q1) λu s2 ⟨y,H2,I2,r2,q2⟩=>br (ho pins s2 σ H2 x y v u _ I2 r1 r2 q2) λd s3 ⟨z,H3,I3,r3,k,e,q3⟩=>?_) hm;subst e;cases r3;refine yu ?_;cases k with|false=>(obtain⟨k',e',q'⟩:=q3;cases e';exact ite_ff ⟨H3,I3,q'⟩)|true=>refine ite_tt<|test_last<|br (hc pins s3 σ H3 _ I3 q3) λw' s4 ⟨z',H4,I4,r4,q4⟩=>br (Bl pins s4 σ H4 y z' u w' _ I4 r2 r4 q4) λd' s5 ⟨z2,H5,I5,r5,k2,e2,q5⟩=>?_;subst e2;cases r5;exact yu ⟨H5,I5,q5⟩
theorem qN:(sizeLine:Nat)<2^63:=by rw[yd];decide
theorem qO:hG X (binaryOp .Add) (λx y H Q=>∃i j,x=.str i/\y=.str j/\i.length+j.length<=sizeLine/\Q (.str<|i++j) H):=by intro pins s σ H x y v u Q I rx ry h;obtain⟨i,j,rfl,rfl,hz,q⟩:=h;obtain⟨t,rfl⟩:=rx;obtain⟨t',rfl⟩:=ry;exact add_str (λt' tk=>{.str<|i++j,H,I.tok _,{_,rfl},q}) hz
theorem vals1(r:Vals [x] us):∃u,us=[u]/\RelV x u:=by cases r with|cons r1 r2=>cases r2;exact{_,rfl,r1}
theorem vals2(r:Vals [x,y] us):∃u w',us=[u,w']/\RelV x u/\RelV y w':=by cases r with|cons r1 r2=>cases r2 with|cons r3 r4=>cases r4;exact{_,_,rfl,r1,r3}
theorem E1(hc:X.calm=true):fg X (.builtin "max") (λxs H Q=>∃i j,xs=[.int i,.int j]/\Q (.int<|if j>i then j else i) H):=by intro pins s σ H xs us Q I r h;obtain⟨i,j,rfl,q⟩:=h;obtain⟨u,w',rfl,⟨t,rfl⟩,⟨t',rfl⟩⟩:=vals2 r;refine max_two_ints (I.ok.hd hc) λh' tk k=>{_,H,I.kept k,?_,q};by_cases hj:j>i;rw[if_pos hj,if_pos hj];exact{_,rfl};rw[if_neg hj,if_neg hj];exact{_,rfl}
theorem E3(hc:X.calm=true):fg X (.builtin "min") (λxs H Q=>∃i j,xs=[.int i,.int j]/\Q (.int<|if j<i then j else i) H):=by intro pins s σ H xs us Q I r h;obtain⟨i,j,rfl,q⟩:=h;obtain⟨u,w',rfl,⟨t,rfl⟩,⟨t',rfl⟩⟩:=vals2 r;refine min_two_ints (I.ok.hd hc) λh' tk k=>{_,H,I.kept k,?_,q};by_cases hj:j<i;rw[if_pos hj,if_pos hj];exact{_,rfl};rw[if_neg hj,if_neg hj];exact{_,rfl}
theorem uk:fg X (.type "int") (λxs H Q=>(∃i,xs=[.int i]/\Q (.int i) H)\/∃k,xs=[.bl k]/\Q (.int<|if k then 1 else 0) H):=by intro pins s σ H xs us Q I r h;rcases h with⟨i,rfl,q⟩|⟨k,rfl,q⟩;obtain⟨u,rfl,t,rfl⟩:=vals1 r;exact call_int_int {.int i,H,I,{_,rfl},q};obtain⟨u,rfl,r1⟩:=vals1 r;cases r1;exact call_int_bool {.int<|if k then 1 else 0,H,I.tok _,{_,rfl},q}
def Ye(K:Frag)(x:V)(H:Hp)(n:Nat):Prop:=match x with|.str y=>y.length<=sizeLine/\n=y.length|.Dq y=>y.size<=sizeLine/\n=y.size|.ref p=>(∃xs,kh K H p xs/\n=xs.length)\/∃xs,g_ K H p xs/\n=xs.length|_=>False
theorem jq:fg X (.builtin "len") (λxs H Q=>∃x n,xs=[x]/\Ye X.K x H n/\Q (.int n) H):=by intro pins s σ H xs us Q I r h;obtain⟨x,n,rfl,e,q⟩:=h;obtain⟨u,rfl,rx⟩:=vals1 r;have hl:=qN;have hs:sizeLine=16777216:=yd;cases x with|str y=>(obtain⟨t,rfl⟩:=rx;obtain⟨hy,e'⟩:y.length<=sizeLine/\n=y.length:=e;subst e';exact len_str (by lia) {.int _,H,I.tok _,{_,rfl},q})|Dq y=>(obtain⟨t,rfl⟩:=rx;obtain⟨hy,e'⟩:y.size<=sizeLine/\n=y.size:=e;subst e';exact PySem.W.len_bytes (by lia) {.int _,H,I.tok _,{_,rfl},q})|ref p=>(cases rx;have e':(∃xs,kh X.K H p xs/\n=xs.length)\/∃xs,g_ X.K H p xs/\n=xs.length:=e;rcases e' with⟨xs,hx,e'⟩|⟨xs,hx,e'⟩;subst e';obtain⟨ay,r',pl,hz⟩:=I.list hx;have hlen:=r'.length;exact Calls.call_len_list pl.isList (by simp only[zq];lia) {.int xs.length,H,I.tok _,{_,by simp only[zq];rw[hlen]},q};subst e';obtain⟨ay,r',pl,hz⟩:=I.tuple hx;have hlen:=r'.length;exact len_tuple pl (by simp only[zq];lia) {.int xs.length,H,I.tok _,{_,by simp only[zq];rw[hlen]},q})|_=>exact(show False from e).elim
end
structure Br(h:Heap)(x dx C:Addr)(mA:Str->Option Value):Prop where
 obj:h.get? x=some (instObj C dx)
 ns:h.Ns1 dx mA
 ne:dx≠x
theorem E6{h:Heap}{dx:Addr}{mA:Str->Option Value}(n:h.Ns1 dx mA):∃od,h.get? dx=some od/\∀name,lookIn name od=some (mA name):=by
 obtain⟨o,es,ep,ho,hd,hk,_,hm⟩:=n;refine{o,ho,λname=>?_};have e:=hm name;unfold nsFind findBy at e;rw[<-Array.find?_toList]at e;unfold lookIn;rw[hd];dsimp only;split;rename_i y q;rw[q]at e;exact congrArg some e;rename_i q;rw[q]at e;have a:es.toList.any (·.refKey)=false:=by rw[List.any_eq_false];intro y hy;obtain⟨z,t,Pj⟩:=hk y<|Array.mem_toList_iff.mp hy;simp[DictEntry.refKey,Pj]
 have a':¬es.toList.any (·.refKey)=true:=by rw[a];exact zd
 rw[if_neg a'];exact congrArg some e
theorem Br.look(I:Br h x dx C mA):∃od,PySem.W.InstAt h x (instObj C dx) C (some od)/\∀name,lookIn name od=some (mA name):=
 let ⟨od,ho,hl⟩:=E6 I.ns
 ⟨od,⟨I.obj,rfl,rfl,ho⟩,hl⟩
section
variable{prog:Program}{w:World}{A:Around}{E:Value->Shared->Prop}{s:Shared}{K:Frag}{x dx C f:Addr}{mA:Str->Option Value}{name:Str}{v:Value}
theorem get_map(X:K.In s.heap)(I:Br s.heap x dx C mA)(hg:plainGet K C name=true)(hh:hasDictIn K C=true) (ha:findIn K (.ref C) name=some none) (hv:mA name=some v) (WU:handedIn v=true) (h:Q v {s with toks:=s.toks+1}): wpAny (model prog w) A (getAttr (.ref x) name expr) Q E s:=by obtain⟨od,J,hl⟩:=I.look;exact PySem.W.get_value X J (plainGet_of hg).1 (PySem.W.findObj_own hh ha rfl<|by rw[hl,hv]) WU h
theorem Ha(X:K.In s.heap)(I:Br s.heap x dx C mA)(hg:plainGet K C name=true) (hf:findIn K (.ref C) name=some (some<|.ref f)) (ht:isFn K (.ref f)=true) (hv:mA name=none) (h:Q (.ref f,[.ref x]) s): wpAny (model prog w) A (getMethod (.ref x) name pl) Q E s:=by obtain⟨od,J,hl⟩:=I.look;exact PySem.W.method_fn X J (plainGet_of hg).1 (plainGet_of hg).2 hf (beq_iff_eq.mp ht) (by show(lookIn name od).map (·.isSome)=some false;rw[hl,hv];rfl) h
theorem KG(X:K.In s.heap)(I:Br s.heap x dx C mA) (hs:findIn K (.ref C) "__setattr__"= some (some<|.builtin "object.__setattr__")) (hp:plainOver K C=true) (ht:takerIn K C name=some none) (hh:hasDictIn K C=true) (hw:PySem.Within mA ns) (hsz:ns.length<=sizeLine) (h:∀h',Br h' x dx C (λy=>if y=name then some v else mA y)->Heap.SameBut dx s.heap h'->Q () {s with heap:=h',toks:=s.toks+2}): wpAny (model prog w) A (setAttr (.ref x) name v) Q E s:=by obtain⟨od,J,hl⟩:=I.look;refine PySem.W.set_plain X J hs<|PySem.W.osa_open (s:={s with toks:=s.toks+1}) (r:=none) X J hp ht λb=>?_;obtain⟨cd,hc,xu⟩:=PySem.W.any_some hh;have hx:s.heap.get? x=some {.ref C,some dx,.plain,#[]}:=I.obj;refine zc<|zD<|zc<|zc<|wpAny_loadPart hx<|zc<|PySem.W.Looks.here (s:={s with toks:=s.toks+1}) (PySem.W.looks_clsIn X hc) ?_;rw[xu];refine zD (a:=some dx)<|zc<|zD<|zc ?_;refine wpAny_nsSet1 (s:={s with toks:=s.toks+1}) I.ns λh' Nw xJ=>?_;obtain⟨oD,esD,epD,hoD,hdD,hcD⟩:=Nw.count<|PySem.Within.cons name v hw;refine zc<|wpAny_lookBehind hoD (by rw[hdD];exact pastItsLine_dict<|zO hcD<|by rw[zS];lia) ?_;exact zD<|h _ {(xJ.2 _<|Ne.symm I.ne).trans I.obj,Nw,I.ne} xJ
theorem Hb(X:K.In s.heap)(hm:makesIn K C=true) (hi:findIn K (.ref C) "__init__"= some (some<|.ref f)) (hf:PySem.W.typeIn K (.ref f)=some (.type "function")) (h:codeAny (model prog w) (A.under<|.builtin "type.__call__" {.ref C::vs,kw}) (.call (.ref f) {.ref (s.heap.objs.size+1)::vs,kw}) (PySem.W.InitBack (s.heap.objs.size+1) R) {s with heap:=(s.heap.push emptyDict).push<|instObj C s.heap.objs.size}): codeAny (model prog w) A (.call (.ref C) ⟨vs,kw⟩) R s:=by obtain⟨hh,g,d,t,os⟩:=s;exact PySem.W.make_core (PySem.W.makes_of X hm) (PySem.W.looks_findIn X hi) (λself=>PySem.W.bind_fn X self hf) (.inl rfl) h
end
noncomputable def putF(f:Str)(v:V):List (Str×V)->List (Str×V)|[]=>[(f,v)]| (g,x)::r=>if g=f then (g,v)::r else (g,x)::putF f v r
theorem oQ(f g:Str)(v:V):∀fs:List (Str×V),(putF f v fs).lookup g=if g=f then some v else fs.lookup g|[]=>by show List.lookup g [(f,v)]=_;by_cases h:g=f;have hb:(g==f)=true:=beq_iff_eq.mpr h;simp only[List.lookup,hb,if_pos h];have hb:(g==f)=false:=beq_eq_false_iff_ne.mpr h;simp only[List.lookup,hb,if_neg h]| (k,x)::r=>by have ih:=oQ f g v r;rw[show putF f v ((k,x)::r)=(if k=f then (k,v)::r else (k,x)::putF f v r) from rfl];by_cases hk:k=f;rw[if_pos hk];by_cases h:g=k;have hb:(g==k)=true:=beq_iff_eq.mpr h;simp only[List.lookup,hb,if_pos<|h.trans hk];have hb:(g==k)=false:=beq_eq_false_iff_ne.mpr h;simp only[List.lookup,hb,if_neg (λe:g=f=>h<|e.trans hk.symm)];rw[if_neg hk];by_cases h:g=k;have hb:(g==k)=true:=beq_iff_eq.mpr h;simp only[List.lookup,hb,if_neg (λe:g=f=>hk<|h.symm.trans e)];have hb:(g==k)=false:=beq_eq_false_iff_ne.mpr h;simp only[List.lookup,hb];exact ih
theorem nK(f:Str)(v:V):∀fs:List (Str×V),f∈(putF f v fs).map (·.1)/\∀g,g∈fs.map (·.1)->g∈(putF f v fs).map (·.1)|[]=>{by simp[putF],λg h=>by simp at h}| (k,x)::r=>by obtain⟨i1,i2⟩:=nK f v r;rw[show putF f v ((k,x)::r)=(if k=f then (k,v)::r else (k,x)::putF f v r) from rfl];by_cases hk:k=f;rw[if_pos hk];subst hk;exact{by simp,λg h=>by simpa using h};rw[if_neg hk];refine{?_,λg h=>?_};rw[zu];exact zh _ i1;rw[zu]at h⊢;rcases zi.mp h with e|e;exact zi.mpr<|.inl e;exact zh _<|i2 g e
theorem oR(f:Str)(v:V):∀fs:List (Str×V),(putF f v fs).length<=fs.length+1|[]=>by simp[putF]| (k,x)::r=>by have ih:=oR f v r;rw[show putF f v ((k,x)::r)=(if k=f then (k,v)::r else (k,x)::putF f v r) from rfl];by_cases hk:k=f;rw[if_pos hk,zS,zS];lia;rw[if_neg hk,zS,zS];lia
theorem gp.some_of(r:gp (some v) o):∃u,o=some u/\RelV v u:=by cases o with|none=>exact(show False from r).elim|some u=>exact⟨u,rfl,r⟩
theorem gp.none_of(r:gp none o):o=none:=by cases o with|none=>rfl|some u=>exact(show False from r).elim
theorem E7(r:RelV v u):handedIn u=true:=by cases v with|av=>(cases (show u=Value.none from r);rfl)|bl b=>(cases (show u=Value.bool b from r);rfl)|int i=>(obtain⟨t,e⟩:=(show ∃t,u=Value.int i t from r);cases e;rfl)|str x=>(obtain⟨t,e⟩:=(show ∃t,u=Value.str x t from r);cases e;rfl)|Dq b=>(obtain⟨t,e⟩:=(show ∃t,u=Value.bytes b t from r);cases e;rfl)|OJ b=>(obtain⟨t,e⟩:=(show ∃t,u=Value.float b t from r);cases e;rfl)|ref a=>(cases (show u=Value.ref a from r);rfl)|ty n=>cases (show u=Value.type n from r);rfl
section
variable{P:Program}{w:World}{H:Hp}{h:Heap}{a C dx:Addr}{fs:List (Str×V)}
theorem qq(aM:lL P w H h)(e:H a=some (.ins C dx fs)):∃mA,Br h a dx C mA/\(∀f,gp (fs.lookup f)<|mA f)/\PySem.Within mA (fs.map (·.1))/\fs.length<=1000/\H dx=some (.own a):=by obtain⟨d,z,ne,ob,mA,n,r,q⟩:=(show bt P w H h a (.ins C dx fs) from aM a _ e);exact{mA,⟨ob,n,ne⟩,r,q,z,d}
end
structure qr(K:Frag)(C:Addr):Prop where
 pg:plainGet K C Str.empty=true
 hd:hasDictIn K C=true
 po:plainOver K C=true
 sa:findIn K (.ref C) "__setattr__"= some (some<|.builtin "object.__setattr__")
theorem qr.get{K:Frag}{C:Addr}(c:qr K C)(f:Str):plainGet K C f=true:=c.pg
def jr(K:Frag)(C:Addr)(f:Str):Prop:=findIn K (.ref C) f=some none
theorem jr.Tz{K:Frag}{C:Addr}{f:Str}(n:jr K C f):takerIn K C f=some none:=by unfold takerIn;rw[show findIn K (.ref C) f=some none from n];rfl
structure Con(K:Frag)(C:Addr)(f:Str)(v:V)(u:Value):Prop where
 at_:findIn K (.ref C) f=some (some u)
 rel:RelV v u
 get:specialIn K u "__get__"= some none
 cp:PySem.W.copiedNames.contains f=false
structure Meth(K:Frag)(C:Addr)(m:Str)(f:Addr):Prop where
 at_:findIn K (.ref C) m=some (some<|.ref f)
 fn:isFn K (.ref f)=true
 kp:keepIn K (.ref f)=true
section
variable{X:Cx}{pins:List (Addr×Obj)}{σ:St}{H:Hp}{s:Shared}{a C dx:Addr}{fs:List (Str×V)}{f:Str}{v:V}{A:Around}{E:Value->Shared->Prop}
theorem Bs(I:Inv X pins σ H s)(e:H a=some (.ins C dx fs))(c:qr X.K C)(n:jr X.K C f)(l:fs.lookup f=some v) (h:∀u s',Inv X pins σ H s'->RelV v u->Q u s'):wpAny (model X.prog X.w) A (getAttr (.ref a) f b) Q E s:=by obtain⟨mA,O,r,_,_,_⟩:=qq I.aM e;obtain⟨u,hu,ru⟩:=gp.some_of (v:=v) (o:=mA f) (by rw[<-l];exact r f);exact get_map I.oP O (c.get f) c.hd n hu (E7 ru)<|h u _ (I.tok _) ru
theorem qP(I:Inv X pins σ H s)(e:H a=some (.ins C dx fs))(c:qr X.K C)(k:Meth X.K C m g)(l:fs.lookup m=none) (h:Q (.ref g,[.ref a]) s):wpAny (model X.prog X.w) A (getMethod (.ref a) m pl) Q E s:=by obtain⟨mA,O,r,_,_,_⟩:=qq I.aM e;have hn:mA m=none:=gp.none_of (by rw[<-l];exact r m);exact Ha I.oP O (c.get m) k.at_ k.fn hn h
theorem Bu(I:Inv X pins σ H s)(e:H a=some (.ins C dx fs))(c:qr X.K C)(n:jr X.K C f)(hl:fs.length<1000)(ry:RelV y u) (h:∀s',Inv X pins σ (upd H a<|.ins C dx<|putF f y fs) s'->Q () s'):wpAny (model X.prog X.w) A (setAttr (.ref a) f u) Q E s:=by
 obtain⟨mA,O,r,wi,_,ho⟩:=qq I.aM e;have hz:(fs.map (·.1)).length<=sizeLine:=by rw[zb,yd];lia
 refine KG I.oP O c.sa c.po n.Tz c.hd wi hz λh' O' sb=>h _ ?_;have hd:∃o,h'.get? dx=some o:=by obtain⟨o,_,_,e',_⟩:=O'.ns;exact⟨o,e'⟩
 refine I.write (x:=a) (e:=dx) (by rw[e];exact True.intro) (.inr ho) (λb q hb z=>(sb.2 b hb).trans z) hd ?_;refine{by rw[aw O.ne];exact ho,?_,O.ne,O'.obj,_,O'.ns,λg=>?_,λg hg=>?_};have:=oR f y fs;lia;show gp ((putF f y fs).lookup g) (if g=f then some u else mA g);rw[oQ];by_cases q:g=f;rw[if_pos q,if_pos q];exact ry;rw[if_neg q,if_neg q];exact r g;by_cases q:g=f;rw[q];exact(nK f y fs).1;refine(nK f y fs).2 g<|wi g λz=>hg ?_;show(if g=f then some u else mA g)=none;rw[if_neg q];exact z
theorem Inv.made(I:Inv X pins σ H s):Inv X pins σ (upd (upd H s.heap.objs.size<|.own<|s.heap.objs.size+1) (s.heap.objs.size+1)<|.ins C s.heap.objs.size []) {s with heap:=(s.heap.push emptyDict).push<|instObj C s.heap.objs.size}:=by
 have e1:(s.heap.push emptyDict).get? s.heap.objs.size=some emptyDict:=zk s.heap rfl;have e2:((s.heap.push emptyDict).push<|instObj C s.heap.objs.size).get? (s.heap.objs.size+1)=some (instObj C s.heap.objs.size):=by have:=zk (s.heap.push emptyDict) (o:=instObj C s.heap.objs.size) rfl;rwa [yb]at this
 have e3:(s.heap.push emptyDict).Ns s.heap.objs.size (λ_=>none):={emptyDict,#[],_,e1,rfl,(λe he=>absurd he<|by simp),λ_=>rfl};have I1:=I.laid (a:=s.heap.objs.size) (o:=.own<|s.heap.objs.size+1) (h':=s.heap.push emptyDict) (t':=s.toks) (λb u q=>za _ q) (zp _) {_,e1};refine I1.laid (a:=s.heap.objs.size+1) (o:=.ins C s.heap.objs.size []) (t':=s.toks) (λb u q=>za _ q) (Nat.le_of_eq<|yb _ _) ?_;have ne:s.heap.objs.size≠s.heap.objs.size+1:=zE<|Nat.lt_succ_self _;refine{by rw[aw ne,aE],zT _,ne,e2,λ_=>none,(Heap.Ns1.of_empty e3).at λo q=>za _ q,λ_=>True.intro,λy hy=>absurd rfl hy}
theorem KH(hb:attributeBase e f env (eval e env)=eval e env) (h:wpAny (model prog w) A (eval e env) (λo bc=>wpAny (model prog w) A (getAttr o f true) Q E bc) E s):wpAny (model prog w) A (eval (.Attribute e f pos) env) Q E s:=Attribute_any_ h<|by rw[arm_eval_Attribute,hb]
end
def Yf(K:Frag)(ta:TE)(f:Str):TE:=λσ H Q=>ta σ H λx H1=>∃a C dx fs v,x=.ref a/\H1 a=some (.ins C dx fs)/\qr K C/\jr K C f/\fs.lookup f=some v/\Q v H1
def Yg(K:Frag)(ta tv:TE)(f:Str):TS:=λD σ H=>tv σ H λy H1=>ta σ H1 λx H2=>∃a C dx fs,x=.ref a/\H2 a=some (.ins C dx fs)/\qr K C/\jr K C f/\fs.length<1000/\D.nx σ (upd H2 a<|.ins C dx<|putF f y fs)
section
variable{X:Cx}{o e value:Expr}{f:Str}{pos pos':Pos}{ta tv:TE}
theorem Pk(he:PE X e ta)(hb:attributeBase e f X.env (eval e X.env)=eval e X.env):PE X (.Attribute e f pos) (Yf X.K ta f):=by intro pins s σ H Q I h;refine KH hb<|br (he pins s σ H _ I h) λu s1 ⟨x,H1,I1,rx,a,C,dx,fs,v,ex,ea,c,n,l,q⟩=>?_;subst ex;obtain rfl:u=Value.ref a:=rx;exact Bs I1 ea c n l λu' s2 I2 ru=>⟨v,H1,I2,ru,q⟩
theorem Pl(ha:PE X o ta)(hv:PE X value tv)(hs:swapsWith value (some<|.Attribute o f pos') pos.line X.env=pure false):PS X (.Assign [.Attribute o f pos'] value pos) (Yg X.K ta tv f):=by intro pins s σ H D I h;refine plainObj_wpAny_Assign_Attribute (br (hv pins s σ H _ I h) λu s1 ⟨y,H1,I1,ry,q⟩=>br (ha pins s1 σ H1 _ I1 q) λov s2 ⟨x,H2,I2,rx,a,C,dx,fs,ex,ea,c,n,l,q2⟩=>?_) hs;subst ex;obtain rfl:ov=Value.ref a:=rx;exact Bu I2 ea c n l ry λs3 I3=>{σ,_,I3,q2}
end
section
variable{X:Cx}{pins:List (Addr×Obj)}{σ:St}{H:Hp}{s:Shared}{A:Around}{E Q:Value->Shared->Prop}{c:Value}{b:Bool}
inductive nL (K:Frag) (H:Hp):V->Value->Prop where
 |av:nL K H .av (.type "NoneType")
 |bl (x:Bool):nL K H (.bl x) (.type "bool")
 |int (i:Int):nL K H (.int i) (.type "int")
 |str (x:Str):nL K H (.str x) (.type "str")
 |OJ (x:UInt64):nL K H (.OJ x) (.type "float")
 |lst {a:Addr}{xs:List V} (e:H a=some (.lst xs)):nL K H (.ref a) (.type "list")
 |lK {a:Addr}{o:Obj}{xs:List V} (e:H a=some (.lK o<|.lst xs)):nL K H (.ref a) (.type "list")
 |tup {a:Addr}{xs:List V} (e:H a=some (.tup xs)):nL K H (.ref a) (.type "tuple")
 |dK {a:Addr}{kvs:List<|Key×V} (e:H a=some (.dK kvs)):nL K H (.ref a) (.type "dict")
 |dT {a:Addr}{kvs:List<|List Key×V} (e:H a=some (.dT kvs)):nL K H (.ref a) (.type "dict")
 |ins {a C dx:Addr}{fs:List<|Str×V} (e:H a=some (.ins C dx fs)) (cl:qr K C) (ha:findIn K (.ref C) "__class__"= some (some<|.builtin "object.__class__"))
   (hn:specialIn K (.builtin "object.__class__") "__get__"= some (some<|.builtin "getset_descriptor.__get__")) (htk:PySem.W.takesIn K (.builtin "object.__class__")=some true)
   (hm:mroIn K C (.type "object")=some true):nL K H (.ref a) (.ref C)
theorem E8{u t:Value}(I:Inv X pins σ H s)(rx:RelV x u)(ty:nL X.K H x t)(e:kitOne X.K t c=some b)(h:∀tk,Q (.bool b) {s with toks:=tk}): wpAny (model X.prog X.w) A (call (.builtin "isinstance") [u,c]) Q E s:=by cases ty with|av=>(cases (show u=Value.none from rx);exact kia_one PySem.W.kitx_none I.oP True.intro e (λz=>nomatch z) h)|bl y=>(cases (show u=Value.bool y from rx);exact kia_one PySem.W.kitx_bool I.oP True.intro e (λz=>nomatch z) h)|int i=>(obtain⟨t,q⟩:=(show ∃t,u=Value.int i t from rx);cases q;exact kia_one PySem.W.kitx_int I.oP True.intro e (λz=>nomatch z) h)|str y=>(obtain⟨t,q⟩:=(show ∃t,u=Value.str y t from rx);cases q;exact kia_one PySem.W.kitx_str I.oP True.intro e (λz=>nomatch z) h)|OJ y=>(obtain⟨t,q⟩:=(show ∃t,u=Value.float y t from rx);cases q;exact kia_one PySem.W.kitx_float I.oP True.intro e (λz=>nomatch z) h)|@lst a xs ea=>(cases (show u=Value.ref a from rx);obtain⟨_,_,n,_,h1⟩:=(show bt X.prog X.w H s.heap a (.lst xs) from I.aM a _ ea);exact kia_one kitx_list I.oP {_,h1,rfl} e (λz=>nomatch z) h)|@lK a ob xs ea=>(cases (show u=Value.ref a from rx);obtain⟨_,_,_,n,_,h1⟩:=(show bt X.prog X.w H s.heap a (.lK ob<|.lst xs) from I.aM a _ ea);exact kia_one kitx_list I.oP {_,h1,rfl} e (λz=>nomatch z) h)|@tup a xs ea=>(cases (show u=Value.ref a from rx);obtain⟨_,_,_,p⟩:=(show bt X.prog X.w H s.heap a (.tup xs) from I.aM a _ ea);obtain⟨o,h1,h2,_⟩:=p;exact kia_one PySem.W.kitx_tuple I.oP ⟨o,h1,h2⟩ e (λz=>nomatch z) h)|@dK a kvs ea=>(cases (show u=Value.ref a from rx);obtain⟨_,_,vs,_,p⟩:=(show bt X.prog X.w H s.heap a (.dK kvs) from I.aM a _ ea);obtain⟨o,es,ep,h1,h2,_⟩:=p;exact kia_one PySem.W.kitx_dict I.oP ⟨o,h1,h2.1⟩ e (λz=>nomatch z) h)|@dT a kvs ea=>exact False.elim (show bt X.prog X.w H s.heap a (.dT kvs) from I.aM a _ ea)|@ins a C dx fs ea cl ha hn htk hm=>cases (show u=Value.ref a from rx);obtain⟨mA,O,_⟩:=qq I.aM ea;obtain⟨od,J,_⟩:=O.look;exact kia_one (PySem.W.kitx_own (cl.get _) cl.hd ha hn htk hm) I.oP J e (λz=>nomatch z) h
end
structure bV(k:Nat)(A:Around):Prop where
 hd:A.handled=none
 dp:A.depth+3*k+5<recursionLimit
 un:A.units+16*k+200<cLine
theorem bV.mono(r:bV k A)(h:j<=k):bV j A:={r.hd,by have:=r.dp;lia,by have:=r.un;lia}
theorem bV.deeper(r:bV (k+1) A)(env:Env):bV k (A.deeper env):={r.hd,by have:=r.dp;show A.depth+1+3*k+5<_;lia,by have:=r.un;show A.units+3+16*k+200<_;lia}
theorem bV.in1(r:bV (k+1) A):bV k A.in1:={r.hd,by have:=r.dp;show A.depth+3*k+5<_;lia,by have:=r.un;show A.units+1+16*k+200<_;lia}
theorem Bv{A:Around}{C:Addr}{us:List Value}{kw:List<|Str×Value} : (A.under<|.builtin "type.__call__" {.ref C::us,kw}).depth=A.depth+1:=by first|rfl|simp[Around.under,Code.weight,Code.isCreation,Code.isGuard,Code.isCaller,Code.frames,Code.isFrame,guardIds]
theorem Bw{A:Around}{C:Addr}{us:List Value}{kw:List<|Str×Value} : (A.under<|.builtin "type.__call__" {.ref C::us,kw}).units=A.units+1:=by first|rfl|simp[Around.under,Code.cUnits,Code.frames,Code.isFrame]
theorem bV.make(r:bV (k+1) A)(C:Addr)(us:List Value)(kw:List<|Str×Value):bV k (A.under<|.builtin "type.__call__" {.ref C::us,kw}):={r.hd,by have:=r.dp;rw[Bv];lia,by have:=r.un;rw[Bw];lia}
theorem bV.depth(r:bV k A):A.depth<recursionLimit:=by have:=r.dp;lia
theorem bV.units(r:bV k A):A.units+64<cLine:=by have:=r.un;lia
def Yi:TA:=λ_ H Q=>Q [] H
def Nx(ta:TE)(tr:TA):TA:=λσ H Q=>ta σ H λx H1=>tr σ H1 λxs H2=>Q (x::xs) H2
section
variable{X:Cx}{e:Expr}{es:List Expr}{te:TE}{t:TA}{pos:Pos}
theorem Bx:PA X [] Yi:=λ_ _ _ _ H Q I h=>Calls.spliced_nil {[],H,I,.nil,h}
theorem KJ(ha:PE X e te)(hr:PA X es t)(hs:autoParam (starEach (e::es) X.env=(false,eval e X.env)::starEach es X.env) qQJ):PA X (e::es) (Nx te t):=by intro pos pins s σ H Q I h;rw[hs];show wpAny _ _ (spliced<|(false,eval e X.env)::backTo pos (starEach es X.env)) _ _ s;refine yF<|br (ha pins s σ H _ I h) λu s1 ⟨x,H1,I1,r1,q1⟩=>?_;exact br (hr pos pins s1 σ H1 _ I1 q1) <| by rintro us s2 ⟨xs,H2,I2,r2,q2⟩;exact{x::xs,H2,I2,.cons r1 r2,q2}
def Yj(t:TA):TE:=λσ H Q=>t σ H λxs H1=>xs.length<=sizeLine/\∀p,H1 p=none->Q (.ref p) (upd H1 p<|.tup xs)
def Yk(t:TA):TE:=λσ H Q=>t σ H λxs H1=>xs.length<=sizeLine/\∀p,H1 p=none->Q (.ref p) (upd H1 p<|.lst xs)
theorem Pm{x1}(h:PA X es t):PE X (.Tuple es x1 pos) (Yj t):=by intro pins s σ H Q I hq;refine wpAny_Tuple_spliced<|br (h pos pins s σ H _ I hq) λus s1 ⟨xs,H1,I1,r,z,q⟩=>{by rw[<-r.length];exact z,?_};have hf:H1 s1.heap.objs.size=none:=I1.aM.fresh<|zp _;refine{.ref s1.heap.objs.size,upd H1 s1.heap.objs.size<|.tup xs,I1.laid (t':=s1.toks) (λb u e=>za _ e) (zp _) ?_,rfl,q _ hf};exact{z,us,r,{_,zk _ rfl,rfl,rfl,_,rfl}}
theorem Pn(h:PA X es t):PE X (.List es pos) (Yk t):=by intro pins s σ H Q I hq;refine wpAny_List_spliced<|br (h pos pins s σ H _ I hq) λus s1 ⟨xs,H1,I1,r,z,q⟩=>{by rw[<-r.length];exact z,?_};have hf:H1 s1.heap.objs.size=none:=I1.aM.fresh<|zp _;refine{.ref s1.heap.objs.size,upd H1 s1.heap.objs.size<|.lst xs,I1.laid (t':=s1.toks) (λb u e=>za _ e) (zp _) ?_,rfl,q _ hf};exact{z,us,0,r,zk _ rfl}
end
abbrev Sp:=List V->Hp->VK->XK->Prop
abbrev By:=List Env->Hp->Shared->XK->Value->Shared->Prop
structure xK(P:Program)(w:World)(K:Frag)(mg:Str->Option Value)(base:Heap)(A:Around)(outer:List Env)(s:Shared)(H:Hp):Prop where
 frames:A.frames=some outer
 mod:Mod K mg base
 bs:∀b o,base.get? b=some o->s.heap.get? b=some o/\H b=none
 Km:base.objs.size<=s.heap.objs.size
 pT:s.heap.FunFrames base outer
 ON:∀b∈nH outer,H b=none
 aM:lL P w H s.heap
 bare:AllBare s.gens
def CE(outer:List Env)(P:Program)(w:World)(H:Hp)(s:Shared)(Q:VK)(u:Value)(s':Shared):Prop:=∃v H',s'.os=s.os/\AllBare s'.gens/\Un (nH outer) [] H H' s.heap s'.heap/\lL P w H' s'.heap/\RelV v u/\Q v H'
def CR(CX:By)(outer:List Env)(P:Program)(w:World)(H:Hp)(s:Shared)(Q:VK)(E:XK)(r:Result)(s':Shared):Prop:=match r with|.ok (.ret u)=>CE outer P w H s Q u s'|.ok _=>False|.error e=>CX outer H s E e s'
structure bK(P:Program)(w:World)(K:Frag)(mg:Str->Option Value)(base:Heap)(CX:By)(k:Nat)(f:Addr)(fd:FuncData)(ps:List Str)(sp:Sp):Prop where
 len:∀vs H Q E,sp vs H Q E->vs.length=ps.length
 run:∀(A:Around)(outer:List Env)(s:Shared)(H:Hp)(args:Args)(us:List Value)(vs:List V)(Q:VK)(E:XK),bV k A->xK P w K mg base A outer s H->BindsTo s fd args (ps.zip us)->Vals vs us->sp vs H Q E ->
  codeAny (model P w) A (.call (.ref f) args) (CR CX outer P w H s Q E) s
theorem bK.mono{P:Program}{w:World}{K:Frag}{mg:Str->Option Value}{base:Heap}{CX:By}{j k:Nat}{f:Addr}{fd:FuncData}{ps:List Str}{sp:Sp}(F:bK P w K mg base CX j f fd ps sp)(h:j<=k): bK P w K mg base CX k f fd ps sp:={F.len,λA outer s H args us vs Q E hr=>F.run A outer s H args us vs Q E<|hr.mono h}
theorem bK.imp{P:Program}{w:World}{K:Frag}{mg:Str->Option Value}{base:Heap}{CX:By}{k:Nat}{f:Addr}{fd:FuncData}{ps:List Str}{sp WV:Sp}(F:bK P w K mg base CX k f fd ps sp) (h:∀vs H Q E,WV vs H Q E->sp vs H Q E):bK P w K mg base CX k f fd ps WV:={λvs H Q E q=>F.len vs H Q E<|h _ _ _ _ q,λA outer s H args us vs Q E hr he hb hv hs=>F.run A outer s H args us vs Q E hr he hb hv<|h _ _ _ _ hs}
theorem xK.make{P:Program}{w:World}{K:Frag}{mg:Str->Option Value}{base:Heap}{A:Around}{outer:List Env}{s:Shared}{H:Hp}(e:xK P w K mg base A outer s H)(C:Addr)(us:List Value)(kw:List<|Str×Value): xK P w K mg base (A.under<|.builtin "type.__call__" {.ref C::us,kw}) outer s H:={by first|exact e.frames|(simpa [Around.under,Code.envs,Code.isFrame,pushEnvs]using e.frames),e.mod,e.bs,e.Km,e.pT,e.ON,e.aM,e.bare}
section
variable{X:Cx}{pins:List (Addr×Obj)}{σ:St}{H:Hp}{s s':Shared}
theorem Inv.TB(I:Inv X pins σ H s):xK X.prog X.w X.K X.mg X.base X.A X.stack s H:={I.ok.frames,I.ok.mod,I.bs,zO I.ok.Km I.sz,I.stack,I.ql,I.aM,I.bare}
theorem Inv.after(I:Inv X pins σ H s)(h:CE X.stack X.prog X.w H s Q u s'):EP X pins σ Q u s':=by obtain⟨v,H',os,bare,un,aM,r,q⟩:=h;obtain⟨hh,g,d,t,TC⟩:=s';obtain rfl:TC=s.os:=os;exact{v,H',I.call (h':=hh) (g':=g) (d':=d) (t':=t) (ch:=[]) un aM bare λb z=>absurd z<|by simp,r,q}
end
def Binds(K:Frag)(fd:FuncData)(ps:List Str)(ds:List Value):Prop:=∀(s:Shared)(us:List Value),K.In s.heap->(us++ds).length=ps.length->BindsTo s fd {us,[]} (ps.zip<|us++ds)
theorem Binds.all{K:Frag}{fd:FuncData}{ps:List Str}(h:∀us:List Value,us.length=ps.length->bindArgs fd {us,[]}=pure (ps.zip us)):Binds K fd ps []:=λs us _ hl=>by rw[List.append_nil]at hl⊢;exact .of_eq<|h us hl
def Passes(CX:By)(X:Cx)(E:XK):Prop:=∀(pins:List (Addr×Obj))(σ:St)(H:Hp)(s:Shared)(e:Value)(s':Shared),Inv X pins σ H s->CX X.stack H s E e s'->X.xe e s'
section
variable{f C:Addr}
structure Mk(K:Frag)(C f:Addr):Prop where
 makes:makesIn K C=true
 init:findIn K (.ref C) "__init__"= some (some<|.ref f)
 fn:isFn K (.ref f)=true
 kp:keepIn K (.ref C)=true
end
section
variable{fd:FuncData}{ps ks:List Str}
structure Yl(K:Frag)(fd:FuncData)(ps ks:List Str)(g:List Value->List Value->List Value)(gV:List V->List V->List V):Prop where
 to:∀(s:Shared)(us ws:List Value),K.In s.heap->(g us ws).length=ps.length->BindsTo s fd {us,ks.zip ws} (ps.zip<|g us ws)
 rel:∀{vs:List V}{us:List Value}{zs:List V}{ws:List Value},Vals vs us->Vals zs ws->Vals (gV vs zs) (g us ws)
variable{g:List Value->List Value->List Value}{gV:List V->List V->List V}
end
structure gw(N P:List Str)(sc:Scope):Prop where
 kind:sc.kind=.function
 co:sc.isCoroutine=false
 gen:sc.isGenerator=false
 nd:N.Nodup
 pre:N.take P.length=P
 par:∀x∈P,sc.names.lookup x=some .local\/sc.names.lookup x=some .cell
 Po:∀y∈sc.names,y.2≠.free
theorem um{kindOf:Str->Option NameKind}{x:Str} : ∀{binds:List (Str×Value)}{m:Str->Option Value},(∀v,(x,v)∉binds)->bindL kindOf binds m x=m x
 |[],_,_=>rfl
 | (n,v)::r,m,h=>by
  unfold bindL;rw[um λw hw=>h w<|zh _ hw];split;have:x≠n:=by rintro rfl;exact h v zm
  simp[this];rfl
theorem uo{kindOf:Str->Option NameKind}{x:Str} : ∀{binds:List (Str×Value)}{m:Str->Option Value},(∀v,(x,v)∉binds)->bindC kindOf binds m x=m x
 |[],_,_=>rfl
 | (n,v)::r,m,h=>by
  unfold bindC;rw[uo λw hw=>h w<|zh _ hw];split;rfl;have:x≠n:=by rintro rfl;exact h v zm
  simp[this]
theorem uq{kindOf:Str->Option NameKind}{x:Str}{v:Value} : ∀{P:List Str}{vs:List Value}{i:Nat}{m:Str->Option Value},P.Nodup->P[i]?=some x->vs[i]?=some v->kindOf x=some .local->bindL kindOf (P.zip vs) m x=some v|[],_,_,_,_,h,_,_=>by simp at h|_::_,[],_,_,_,_,h,_=>by simp at h|p::P,w::vs,0,m,nd,h1,h2,hk=>by simp at h1 h2;subst h1;subst h2;show bindL kindOf ((p,w)::P.zip vs) m p=_;unfold bindL;rw[um λv hv=>(yp.mp nd).1 (List.of_mem_zip hv).1,if_pos hk];simp|p::P,w::vs,i+1,m,nd,h1,h2,hk=>by show bindL kindOf ((p,w)::P.zip vs) m x=_;unfold bindL;exact uq (i:=i) (yp.mp nd).2 (by simpa using h1) (by simpa using h2) hk
theorem ur{kindOf:Str->Option NameKind}{x:Str}{v:Value} : ∀{P:List Str}{vs:List Value}{i:Nat}{m:Str->Option Value},P.Nodup->P[i]?=some x->vs[i]?=some v->kindOf x≠some .local->bindC kindOf (P.zip vs) m x=some v|[],_,_,_,_,h,_,_=>by simp at h|_::_,[],_,_,_,_,h,_=>by simp at h|p::P,w::vs,0,m,nd,h1,h2,hk=>by simp at h1 h2;subst h1;subst h2;show bindC kindOf ((p,w)::P.zip vs) m p=_;unfold bindC;rw[uo λv hv=>(yp.mp nd).1 (List.of_mem_zip hv).1,if_neg hk];simp|p::P,w::vs,i+1,m,nd,h1,h2,hk=>by show bindC kindOf ((p,w)::P.zip vs) m x=_;unfold bindC;exact ur (i:=i) (yp.mp nd).2 (by simpa using h1) (by simpa using h2) hk
def start(N:List Str)(vs:List V):St:=vs.map some++List.replicate (N.length-vs.length) none
def kG(CX:By)(P:Program)(w:World)(K:Frag)(mg:Str->Option Value)(base:Heap)(N:List Str)(qual:Str)(scope:Scope)(f:Addr)(cd:Value)(A:Around)(outer:List Env)(s:Shared)(H:Hp)(E:XK):Cx where
 prog:=P
 w:=w
 K:=K
 mg:=mg
 base:=base
 A:=A.deeper<|envOfC qual scope s.heap.objs.size f cd
 N:=N
 dG:=s
 vi:=H
 env:=envOfC qual scope s.heap.objs.size f cd
 outer:=outer
 stack:=envOfC qual scope s.heap.objs.size f cd::outer
 ex:=[]
 calm:=true
 fn:=λ_=>true
 pn:=[]
 xe:=λe s'=>wpAny (model P w) (A.deeper<|envOfC qual scope s.heap.objs.size f cd) (leaving (envOfC qual scope s.heap.objs.size f cd) e) (λ_ Bz=>CX outer H s E e Bz) (λe' Bz=>CX outer H s E e' Bz) s'
theorem xM{sc:Scope}{n:Nat}{x:Str}(h:sc.names.lookup x=some .cell):∃c,(cellsFrom n sc.names []).lookup x=some c:=by have q:=PySem.W.cellsFrom_some sc.names n []<|.inl h;exact Option.isSome_iff_exists.mp q
theorem E9{CX:By}{P:Program}{w:World}{K:Frag}{mg:Str->Option Value}{base:Heap}{N ps:List Str}{qual:Str}{scope:Scope}{f:Addr}{cd:Value}{A:Around}{outer:List Env}{s s1:Shared}{H:Hp}{E:XK}{us:List Value}{vs:List V} (S:gw N ps scope) (hd:A.handled=none) (e0:xK P w K mg base A outer s H) (hl:vs.length=ps.length) (r:Vals vs us) (x:InCallC s s.heap.objs.size (bindL (envOfC qual scope s.heap.objs.size f cd).kindOf (ps.zip us) λ_=>none) (cellsFrom (s.heap.objs.size+1) scope.names []) (bindC (envOfC qual scope s.heap.objs.size f cd).kindOf (ps.zip us) λ_=>none) s1): Inv (kG CX P w K mg base N qual scope f cd A outer s H E) [] (start N vs) H s1:=by
 have dO:ps.length<=N.length:=by have:=congrArg List.length S.pre;rw[yz]at this;lia
 obtain⟨h1,tk,rfl,hk⟩:=x.done;have KL:∀b:Addr,b∉(kG CX P w K mg base N qual scope f cd A outer s H E).ex:=λb z=>absurd (show b∈([]:List Addr) from z) (by simp);refine{{e0.mod,S.kind,rfl,rfl,zp _,λy z c h1 h2=>?_,λy hy=>?_,λy c _ h=>?_,λ_=>hd,Around.frames_deeper e0.frames,.inr ⟨rfl,rfl⟩,λb z=>absurd z<|KL b,e0.bs,e0.Km,λb _ _=>KL b,λb z=>absurd z<|KL b,e0.pT,e0.ON},rfl,e0.bare,Un.kept hk,{_,x.toInCall.ns,λi y v h1 h2 h3=>?_},λy c h=>{_,x.cell y c h},e0.aM.fresh<|zp _,λy c h=>?_,λp hp=>absurd (show p∈([]:List (Addr×Obj)) from hp)<|by simp,e0.aM.kept hk,?_};exact name_of_addr x.apart (ym h1)<|ym h2;have hy:scope.names.lookup y=some .cell\/scope.names.lookup y=some .free:=hy;rcases hy with hy|hy;exact xM hy;exact absurd rfl<|S.Po _<|ym hy;exact yO<|x.above y c<|ym h;have hi:i<vs.length:=by unfold start at h2;by_cases hi:i<vs.length;exact hi;rw[List.getElem?_append_right<|by simpa using hi]at h2;rw[List.getElem?_replicate]at h2;split at h2<;>cases h2
 have ha:vs[i]?=some v:=by unfold start at h2;rw[List.getElem?_append_left<|by simpa using hi,zf]at h2;cases e:vs[i]? with|none=>(rw[e]at h2;cases h2)|some a=>rw[e]at h2;cases h2;rfl
 obtain⟨u,hu,rv⟩:=r.get ha;have hp:ps[i]?=some y:=by rw[<-S.pre,List.getElem?_take_of_lt<|by lia];exact h1
 have ndP:ps.Nodup:=by rw[<-S.pre];exact S.nd.sublist<|List.take_sublist _ _
 refine{u,rv,?_};rcases S.par y (zo hp) with k|k;exact .inl {k,uq ndP hp hu k};obtain⟨c,e⟩:=xM (n:=s.heap.objs.size+1) k;refine .inr {.inl k,c,e,?_};have q:=x.cell y c e;rw[ur ndP hp hu<|by show scope.names.lookup y≠_;rw[k];decide]at q;exact q;exact e0.aM.fresh<|yO<|x.above y c<|ym h;unfold start;show _=N.length;rw[zx,zb,List.length_replicate];lia
theorem Ny{CX:By}{P:Program}{w:World}{K:Frag}{mg:Str->Option Value}{base:Heap}{k:Nat}{f:Addr}{name qual:Str}{params:Arguments}{body:List Stmt}{scope:Scope}{dV kV doc pm gY ct oc:Value}{an od:Option Addr} {Pp:Array<|Option Value}{N ps:List Str}{sp:Sp} (lk:K.lookup f=some {oc,od,.func<|fnOf name qual params body scope dV kV doc pm an gY ct,Pp}) (sZ:codeIn K gY qual=true) (S:gw N ps scope) (len:∀vs H Q E,sp vs H Q E->vs.length=ps.length) (mm:∀(A:Around)(outer:List Env)(s:Shared)(H:Hp)(vs:List V)(Q:VK)(E:XK),bV k (A.deeper<|envOfC qual scope s.heap.objs.size f gY)->sp vs H Q E->∃t,Ds (kG CX P w K mg base N qual scope f gY A outer s H E) body t/\t {nx:=λ_ H'=>Q .av H',rt:=Q} (start N vs) H): bK P w K mg base CX (k+1) f (fnOf name qual params body scope dV kV doc pm an gY ct) ps sp:=by
 refine{len,λA outer s H args us vs Q E hr e0 hb r R3=>?_};have hl:=len _ _ _ _ R3;have KX:K.In s.heap:=e0.mod.RZ.keeps λb o e=>(e0.bs b o e).1;have lim:s.heap.NoLimit:=e0.mod.nolimit.keeps λb o e=>(e0.bs b o e).1;have TF:∀y∈ps.zip us,scope.names.lookup y.1=some .local\/(scope.names.lookup y.1=some .cell/\((cellsFrom (s.heap.objs.size+1) scope.names []).lookup y.1).isSome=true):=by rintro⟨n,v⟩ hy;rcases S.par n (List.of_mem_zip hy).1 with q|q;exact .inl q;exact .inr {q,PySem.W.cellsFrom_some _ _ _<|.inl q}
 refine codeAny_call_function hr.depth (KX _ _ lk) rfl S.co S.gen rfl (PySem.W.codeRec_of KX sZ)<|hb _ _ _ _ ?_;refine wpAny_newFunctionEnv_cells S.kind TF λenv he s1 x=>?_;subst he;refine{lim.keeps x.toInCall.keep,codeAny_func ?_};obtain⟨t,ht,hq⟩:=mm A outer s H vs Q E (hr.deeper _) R3;have I:Inv (kG CX P w K mg base N qual scope f gY A outer s H E) [] (start N vs) H s1:=E9 S hr.hd e0 hl r x;refine yH (ht [] s1 (start N vs) H _ I hq) (λfl s' hs=>?_) λe s' hs=>hs;have fin:∀{aG:St}{H':Hp}{v:V}{u:Value},Inv (kG CX P w K mg base N qual scope f gY A outer s H E) [] aG H' s'->RelV v u->Q v H'->CE outer P w H s Q u s':=λ{aG H' v u} J rv q=>⟨v,H',J.os,J.bare,J.base,J.aM,rv,q⟩;cases fl with|ret u=>(obtain⟨v,aG,H',J,rv,q⟩:=hs;exact fin J rv q)|next=>(obtain⟨aG,H',J,q⟩:=hs;exact fin (v:=V.av) (u:=Value.none) J rfl q)|brk=>(obtain⟨_,_,_,q⟩:=hs;exact False.elim q)|cont=>obtain⟨_,_,_,q⟩:=hs;exact False.elim q
section
variable{X:Cx}{x:Str}{p pos:Pos}{e:Expr}{es:List Expr}{t:TA}{id T:String}{r:List V->Hp->VK->Prop}
def Ym(r:List V->Hp->VK->Prop)(t:TA):TE:=λσ H Q=>t σ H λvs H1=>r vs H1 Q
theorem xN(hc:fg X (.builtin id) r)(hg:Gl X x)(hm:X.mg x=none)(hv:bootBuiltins x=some (.builtin id))(ha:PA X (e::es) t)(hn:autoParam (x≠"__name__") qQZ)(pW:autoParam ((x==("__debug__": Str))=false) qQZ) (he:autoParam (starEach (e::es) X.env=(false,eval e X.env)::starEach es X.env) qQJ) (dO:autoParam ((backTo pos<|starEach es X.env).any (·.1)=false) qQJ):PE X (.Call (.Name x p) (e::es) [] pos) (Ym r t):=by intro pins s σ H Q I h;refine wpAny_Call_Name_kw<|gG I hg hm hv ?_ hn pW;exact PyProof.Rows.callWith_builtin1 (br (ha pos pins s σ H _ I h) <| by rintro us s1 ⟨vs,H1,I1,r1,q1⟩;exact hc pins s1 σ H1 vs us Q I1 r1 q1) he dO
theorem uu(hc:fg X (.type T) r)(hg:Gl X x)(hm:X.mg x=none)(hv:bootBuiltins x=some (.type T))(ha:PA X (e::es) t)(hn:autoParam (x≠"__name__") qQZ)(pW:autoParam ((x==("__debug__": Str))=false) qQZ) (he:autoParam (starEach (e::es) X.env=(false,eval e X.env)::starEach es X.env) qQJ) (dO:autoParam ((backTo pos<|starEach es X.env).any (·.1)=false) qQJ):PE X (.Call (.Name x p) (e::es) [] pos) (Ym r t):=by intro pins s σ H Q I h;refine wpAny_Call_Name_kw<|gG I hg hm hv ?_ hn pW;exact PyProof.Rows.callWith_type1 (br (ha pos pins s σ H _ I h) <| by rintro us s1 ⟨vs,H1,I1,r1,q1⟩;exact hc pins s1 σ H1 vs us Q I1 r1 q1) he dO
end
end L2
namespace HT
open PySem PyProof.Rows
section
variable{prog:Program}{w:World}{A:Around}{E:Value->Shared->Prop}{s:Shared}
theorem cat_tup{t b:Addr}(ht:IsTup s.heap t vs.toArray)(hb:IsTup s.heap b ws.toArray)(hv:vs≠[]) (h1:ws=[]->Q (.ref t) s) (h2:ws≠[]->Q (.ref s.heap.objs.size) {s with heap:=s.heap.push {cls:=.type "tuple",data:=.seq (vs++ws).toArray}}) (hsz:vs.length+ws.length<=sizeLine):wpAny (model prog w) A (binaryOp .Add (.ref t)<|.ref b) Q E s:=by
 obtain⟨⟨cls,dd,data,sl⟩,ho,hc,n,hd⟩:=id ht;obtain⟨⟨Yn,WW,data2,J2⟩,Pq,KN,n2,hd2⟩:=id hb;simp only at hc hd KN hd2;subst hc hd KN hd2;have e:vs.toArray++ws.toArray=(vs++ws).toArray:=by simp
 by_cases hw:ws=[];exact concat_meets {_,ho,rfl} {_,Pq,rfl} noFill_tuple_add seq_tuple_add PySem.F.slot_tuple_add PySem.F.entry_tuple_add (PySem.F.args_tuple_add_2 _ _) (tuple_addW1 t b vs.toArray ws.toArray n n2 dd WW sl J2 (by simpa using hv)<|by simp[hw]) {ho,Pq,h1 hw};refine concat_meets {_,ho,rfl} {_,Pq,rfl} noFill_tuple_add seq_tuple_add PySem.F.slot_tuple_add PySem.F.entry_tuple_add (PySem.F.args_tuple_add_2 _ _) (tuple_addW2 t b vs.toArray ws.toArray n n2 dd WW sl J2 (by simpa using hv) (by simpa using hw)<|by rw[zq,zq];exact hsz) {ho,Pq,?_};rw[e];exact h2 hw
noncomputable def sIx(n d:Nat):Option Int->Nat|none=>d|some v=>if v<0 then (v+(n:Int)).toNat else min v.toNat n
theorem sIx_none(n d:Nat):sIx n d none=d:=rfl
theorem sIx_nat(n d k:Nat):sIx n d (some (k:Int))=min k n:=by show(if (k:Int)<0 then ((k:Int)+(n:Int)).toNat else min (k:Int).toNat n)=min k n;rw[if_neg<|by lia,Int.toNat_natCast]
end
end HT
namespace L2
open PySem PySem.Spec PyProof.Rows
abbrev TO:=St->Hp->(Option Int->Hp->Prop)->Prop
def PO(X:Cx)(e:Option Expr)(t:TO):Prop:=∀(pins:List (Addr×Obj))(s:Shared)(σ:St)(H:Hp)(Q:Option Int->Hp->Prop),Inv X pins σ H s->t σ H Q->wpAny (model X.prog X.w) X.A (evalPart e X.env) (λu s'=>∃o H',Inv X pins σ H' s'/\IsPart u o/\Q o H') X.xe s
def KO:TO:=λ_ H Q=>Q none H
def TH(t:TE):TO:=λσ H Q=>t σ H λx H1=>∃i,x=.int i/\Q (some i) H1
section
variable{X:Cx}{e:Expr}{te:TE}{lo hi:Option Expr}{tl th:TO}{pos p2:Pos}
theorem KP:PO X none KO:=by intro pins s σ H Q I h;rw[evalPart_none];exact zD {none,H,I,.none,h}
theorem KQ(h:PE X e te):PO X (some e) (TH te):=by intro pins s σ H Q I hw;rw[evalPart_some];refine br (h pins s σ H _ I hw) λu s1 ⟨x,H1,I1,r1,q1⟩=>?_;obtain⟨i,rfl,q⟩:=q1;obtain⟨t,rfl⟩:=r1;exact{some i,H1,I1,.int i t,q}
def Yo(X:Cx)(r:V->Option Int->Option Int->Hp->VK->Prop):Prop:=∀(pins:List (Addr×Obj))(s:Shared)(σ:St)(H:Hp)(x:V)(v vl vu:Value)(lo hi:Option Int)(sl:Addr)(Q:VK),Inv X pins σ H s->RelV x v->s.heap.IsSliceOf sl vl vu .none->IsPart vl lo->IsPart vu hi->r x lo hi H Q->∃T id,typeLookup (.type T) "__getitem__"= pure (some<|.builtin id)/\s.TypeIs v T/\wpAny (model X.prog X.w) X.A (getItem v<|.ref sl) (EP X pins σ Q) X.xe s
def tSl(r:V->Option Int->Option Int->Hp->VK->Prop)(te:TE)(tl th:TO):TE:=λσ H Q=>te σ H λx H1=>tl σ H1 λl H2=>th σ H2 λu H3=>r x l u H3 Q
theorem Hc{r:V->Option Int->Option Int->Hp->VK->Prop}(hr:Yo X r)(he:PE X e te)(hl:PO X lo tl)(hu:PO X hi th):PE X (.Subscript e (.Slice lo hi none p2) pos) (tSl r te tl th):=by intro pins s σ H Q I h;refine Subscript_<|br (he pins s σ H _ I h) λv s1 ⟨x,H1,I1,r1,q1⟩=>?_;refine wpAny_Slice<|br (hl pins s1 σ H1 _ I1 q1) λvl s2 ⟨l,H2,I2,pl,q2⟩=>br (hu pins s2 σ H2 _ I2 q2) λvu s3 ⟨u,H3,I3,pu,q3⟩=>?_;rw[evalPart_none];refine zD ?_;have I4:Inv X pins σ H3 {s3 with heap:=s3.heap.push {cls:=.type "slice",data:=.fields #[vl,vu,.none]}}:=I3.kept (t':=s3.toks) λb ob q=>za _ q;obtain⟨T,id,hT,ht,hg⟩:=hr pins {s3 with heap:=s3.heap.push {cls:=.type "slice",data:=.fields #[vl,vu,.none]}} σ H3 x v vl vu l u s3.heap.objs.size Q I4 r1 (Heap.IsSliceOf.new ..) pl pu q3;show wpAny (model X.prog X.w) X.A (subscriptTail e (.Slice lo hi none p2) v<|.ref s3.heap.objs.size) (EP X pins σ Q) X.xe {s3 with heap:=s3.heap.push {cls:=.type "slice",data:=.fields #[vl,vu,.none]}};exact tail_any (ops:=[.ref s3.heap.objs.size,v]) ht hT hg<|by with_unfolding_all rfl
noncomputable def E_(xs:List V)(lo hi:Option Int):List V:=(xs.drop<|HT.sIx xs.length 0 lo).take<|HT.sIx xs.length xs.length hi-HT.sIx xs.length 0 lo
theorem xO(xs:List V)(lo hi:Option Int):(E_ xs lo hi).length<=xs.length:=by unfold E_;rw[yz,List.length_drop];lia
def TJ(K:Frag):R2:=λx y H Q=>∃a b xs ys,x=.ref a/\y=.ref b/\g_ K H a xs/\g_ K H b ys/\xs≠[]/\xs.length+ys.length<=sizeLine/\(ys=[]->Q (.ref a) H)/\(ys≠[]->∀p,H p=none->Q (.ref p) (upd H p<|.tup<|xs++ys))
theorem Vals.qt(r:Vals xs us):us=[]↔xs=[]:=by cases r with|nil=>simp|cons _ _=>simp
theorem KR:hG X (binaryOp .Add) (TJ X.K):=by intro pins s σ H x y v u Q I rx ry h;obtain⟨a,b,xs,ys,rfl,rfl,ha,hb,hx,hz,q1,q2⟩:=h;cases rx;cases ry;obtain⟨ay,r1,p1,_⟩:=I.tuple ha;obtain⟨pX,r2,p2,_⟩:=I.tuple hb;refine HT.cat_tup p1 p2 (λz=>hx<|r1.qt.mp z) (λz=>{.ref a,H,I,rfl,q1<|r2.qt.mp z}) (λz=>?_) (by rw[<-r1.length,<-r2.length];exact hz);refine{.ref s.heap.objs.size,_,I.laid (t':=s.toks) (o:=.tup<|xs++ys) (λb ob q=>za _ q) (zp _) ?_,rfl,q2 (λw=>z<|r2.qt.mpr w) _<|I.aM.fresh<|zp _};exact{by rw[zx];exact hz,_,r1.append r2,iC.new _ _}
end
noncomputable def GI(n:Nat)(i:Int):Option Nat:=if 0<=i then (if i<n then some i.toNat else none) else if -(n:Int)<=i then some (i+n).toNat else none
noncomputable def jm{α:Type}(xs:List α)(i:Int):Option α:=(GI xs.length i).bind λj=>xs[j]?
theorem DD(h:GI n i=some j):seqIndex? i n=some j/\j<n/\-(n:Int)<=i/\i<n:=by unfold GI at h;by_cases h0:0<=i;rw[if_pos h0]at h;by_cases h1:i<n;rw[if_pos h1]at h;have e:i.toNat=j:=zU h;exact{by rw[seqIndex_of h0 h1,e],by lia,by lia,h1};rw[if_neg h1]at h;cases h;rw[if_neg h0]at h;by_cases h1:-(n:Int)<=i;rw[if_pos h1]at h;have e:(i+n).toNat=j:=zU h;exact{by rw[seqIndex_neg (by lia) h1,e],by lia,h1,by lia};rw[if_neg h1]at h;cases h
theorem vj(h:jm xs i=some v):∃j,seqIndex? i xs.length=some j/\xs[j]?=some v/\j<xs.length/\-(xs.length:Int)<=i/\i<xs.length:=by unfold jm at h;cases e:GI xs.length i with|none=>(rw[e]at h;cases h)|some j=>rw[e]at h;obtain⟨h1,h2,h3,h4⟩:=DD e;exact⟨j,h1,h,h2,h3,h4⟩
theorem bW{α:Type}{xs:List α}{j:Nat}{v:α}(h:xs[j]?=some v):jm xs (j:Int)=some v:=by
 have hj:j<xs.length:=(ze.mp h).1;have e:GI xs.length (j:Int)=some j:=by unfold GI;rw[if_pos<|by lia,if_pos<|by lia];simp
 unfold jm;rw[e];exact h
def DF(b:Expr):Prop:=∀o i,subscripted b false o i=operate [o,i] (getItem o i)
def TK(X:Cx)(r:R2):Prop:=∀(value slice:Expr)(pins:List (Addr×Obj))(s:Shared)(σ:St)(H:Hp)(x y:V)(v u:Value)(Q:VK),Inv X pins σ H s->RelV x v->RelV y u->r x y H Q->subscripted slice false v u=operate [v,u] (getItem v u)->wpAny (model X.prog X.w) X.A (subscriptTail value slice v u) (EP X pins σ Q) X.xe s
def R4(X:Cx)(id:String)(r:V->List V->Hp->VK->Prop):Prop:=∀(pins:List (Addr×Obj))(s:Shared)(σ:St)(H:Hp)(x:V)(xs:List V)(v:Value)(us:List Value)(Q:VK),Inv X pins σ H s->RelV x v->Vals xs us->r x xs H Q->wpAny (model X.prog X.w) X.A (call (.builtin id)<|v::us) (EP X pins σ Q) X.xe s
section
variable{X:Cx}{a b:Expr}{ta tb:TE}{pos:Pos}
theorem TL(hr:TK X r)(ha:PE X a ta)(hb:PE X b tb)(hs:DF b):PE X (.Subscript a b pos) (R1 r ta tb):=by intro pins s σ H Q I h;exact Subscript_<|Pb ha hb I h λv u s2 x y H2 I2 rx ry q=>hr a b pins s2 σ H2 x y v u Q I2 rx ry q<|hs _ _
def Yp(K:Frag):R2:=λx y H Q=>∃p xs i v,x=.ref p/\y=.int i/\kh K H p xs/\jm xs i=some v/\Q v H
def Yq(K:Frag):R2:=λx y H Q=>∃p xs i v,x=.ref p/\y=.int i/\g_ K H p xs/\jm xs i=some v/\Q v H
def Yr:R2:=λx y H Q=>∃z i c,x=.str z/\y=.int i/\z.length<=sizeLine/\jm z.cps.toList i=some c/\Q (.str ⟨#[c]⟩) H
theorem DH:TK X (Yp X.K):=by
 intro value slice pins s σ H x y v u Q I rx ry h hs;obtain⟨p,xs,i,z,rfl,rfl,hq,he,q⟩:=h;cases rx;obtain⟨t,rfl⟩:=ry;obtain⟨ay,r,pl,hz⟩:=I.list hq;obtain⟨j,h1,h2,h3,h4,h5⟩:=vj he;obtain⟨w,ew,qQ⟩:=r.get h2;have hl:=r.length;have hn:=qN;have fin:EP X pins σ Q w s:=⟨z,H,I,qQ,q⟩;by_cases h0:0<=i;have hj:i.toNat=j:=by rw[seqIndex_of h0 h5]at h1;exact zU h1
 exact item_listR pl.isList h0 (by lia) (by rw[hj];simpa using ew) fin hs;have hj:(i+(ay.toArray.size:Int)).toNat=j:=by rw[seqIndex_neg (by lia) h4]at h1;rw[zq,<-hl];exact zU h1
 exact subscriptTail_builtinR (x:=w) pl.isList.typeIs slot_list_getitem.lookup (wpAny_getItem_list_neg (Q:=λr s'=>r=w/\EP X pins σ Q r s') pl.isList (by lia) (by rw[zq]<;>lia) (by lia) (by rw[hj];simpa using ew) ⟨rfl,fin⟩) hs
theorem Hd:TK X (Yq X.K):=by intro value slice pins s σ H x y v u Q I rx ry h hs;obtain⟨p,xs,i,z,rfl,rfl,hq,he,q⟩:=h;cases rx;obtain⟨t,rfl⟩:=ry;obtain⟨ay,r,pl,hz⟩:=I.tuple hq;obtain⟨j,h1,h2,h3,h4,h5⟩:=vj he;obtain⟨w,ew,qQ⟩:=r.get h2;have hl:=r.length;have hn:=qN;have fin:EP X pins σ Q w s:=⟨z,H,I,qQ,q⟩;exact subscriptTail_builtinR (x:=w) pl.typeIs slot_tuple_getitem.lookup (getItem_tuple (j:=j) (Q:=λr s'=>r=w/\EP X pins σ Q r s') pl (by lia) (by lia) (by rw[zq,<-hl];exact h1) (by simpa using ew) ⟨rfl,fin⟩) hs
theorem Pr:TK X Yr:=by
 intro value slice pins s σ H x y v u Q I rx ry h hs;obtain⟨z,i,c,rfl,rfl,hz,he,q⟩:=h;obtain⟨t,rfl⟩:=rx;obtain⟨t',rfl⟩:=ry;obtain⟨j,h1,h2,h3,h4,h5⟩:=vj he;have hl:z.cps.toList.length=z.length:=by simp[Str.length]
 rw[hl]at h1 h4 h5;have hn:=qN;exact tail_any (typeIs_str s z t) slot_str_getitem.lookup (getItem_str (c:=c) (by have e1:decide (i < -(2^63:Int))=false:=zB (by lia);have e2:decide (i>=2^63)=false:=zB (by lia);rw[e1,e2,Bool.or_false]) (by rw[h1];simpa using h2) {.str ⟨#[c]⟩,H,I.tok _,{_,rfl},q}) hs
theorem BA(ay:List Value)(n j:Nat)(u:Value):Obj.mapSeq (·.setIfInBounds j u) {cls:=.type "list",data:=.seq ay.toArray n}={cls:=.type "list",data:=.seq (ay.set j u).toArray n}:=by simp[Obj.mapSeq]
theorem Inv.lst(I:Inv X pins σ H s)(h:H p=some (.lst xs)): ∃(ay:List Value)(n:Nat),Vals xs ay/\s.heap.get? p=some {cls:=.type "list",data:=.seq ay.toArray n}/\xs.length<=sizeLine:=by obtain⟨z,ay,n,r,e⟩:=I.aM p _ h;exact⟨ay,n,r,e,z⟩
theorem Inv.Pt{pins:List<|Addr×Obj}{σ:St}{H:Hp}{s:Shared}{p:Addr}{xs ys:List V}{ay its':List Value}{n n':Nat}{f:Obj->Obj}(I:Inv X pins σ H s)(h:H p=some (.lst xs)) (ho:s.heap.get? p=some {cls:=.type "list",data:=.seq ay.toArray n}) (hf:f {cls:=.type "list",data:=.seq ay.toArray n}={cls:=.type "list",data:=.seq its'.toArray n'}) (r:Vals ys its') (hz:ys.length<=sizeLine) (t:Nat): Inv X pins σ (upd H p<|.lst ys) {s with heap:=s.heap.update p f,toks:=t}:=by
 have e:(s.heap.update p f).get? p=some {cls:=.type "list",data:=.seq its'.toArray n'}:=by rw[yw f ho<|by rw[hf]<;>rfl,hf]
 refine I.write (x:=p) (e:=p) (by rw[h];trivial) (.inl rfl) (λb u hb q=>(yq _ _<|Ne.symm hb).trans q) {_,e} ?_;exact⟨hz,its',n',r,e⟩
def TM:V->V->V->Hp->(Hp->Prop)->Prop:=λo i v H Q=>∃p xs k j,o=.ref p/\i=.int k/\H p=some (.lst xs)/\GI xs.length k=some j/\Q (upd H p<|.lst<|xs.set j v)
theorem set_list:S_ X TM:=by
 intro pins s σ H o i v ov iv u Q I ro ri rv h;obtain⟨p,xs,k,j,rfl,rfl,hp,hj,q⟩:=h;cases ro;obtain⟨t,rfl⟩:=ri;obtain⟨ay,n,r,ho,hz⟩:=I.lst hp;obtain⟨h1,h2,h3,h4⟩:=DD hj;have hl:=r.length;have hn:=qN;have I':Inv X pins σ (upd H p<|.lst<|xs.set j v) {s with heap:=s.heap.update p (Obj.mapSeq (·.setIfInBounds j u))}:=I.Pt hp ho (BA ay n j u) (r.set rv j) (by rw[List.length_set];exact hz) s.toks;by_cases h0:0<=k;have hk:k.toNat=j:=by rw[seqIndex_of h0 h4]at h1;exact zU h1
 exact PySem.W.ki_setAt ho h0 (by lia) (by rw[zq,<-hl];exact h4) (by rw[hk];exact{_,I',q});have hk:(k+(ay.toArray.size:Int)).toNat=j:=by rw[seqIndex_neg (by lia) h3]at h1;rw[zq,<-hl];exact zU h1
 exact PySem.W.ki_setBack ho (by lia) (by rw[zq,<-hl];exact h3) (by lia)<|by rw[hk];exact{_,I',q}
theorem vk(lo hi:Option Int)(n:Nat):(sliceBounds lo hi none n).1=((HT.sIx n 0 lo:Nat):Int)/\(sliceBounds lo hi none n).2.1=((HT.sIx n n hi:Nat):Int)/\(sliceBounds lo hi none n).2.2=1:=by
 refine{?_,?_,rfl};cases lo with|none=>simp[sliceBounds,HT.sIx]|some i=>simp only[sliceBounds,HT.sIx,Option.getD_none,show(1:Int)>0 by decide,if_true];by_cases h:i<0;simp only[h,if_true]<;>lia;simp only[h,if_false]<;>lia
 cases hi with|none=>simp[sliceBounds,HT.sIx]|some i=>simp only[sliceBounds,HT.sIx,Option.getD_none,show(1:Int)>0 by decide,if_true];by_cases h:i<0;simp only[h,if_true]<;>lia;simp only[h,if_false]<;>lia
theorem tI(ay:List Value)(lo hi:Option Int):slicePick ay.toArray lo hi none=((ay.drop<|HT.sIx ay.length 0 lo).take<|HT.sIx ay.length ay.length hi-HT.sIx ay.length 0 lo).toArray:=by obtain⟨h1,h2,h3⟩:=vk lo hi ay.toArray.size;unfold slicePick;rw[h1,h2,h3];simp only[sliceRange_one,pick_run,zq]<;>rfl
def Ys(K:Frag):V->Option Int->Option Int->Hp->VK->Prop:=λx lo hi H Q=>∃a xs,x=.ref a/\kh K H a xs/\∀p,H p=none->Q (.ref p) (upd H p<|.lst<|E_ xs lo hi)
theorem DJ:Yo X (Ys X.K):=by intro pins s σ H x v vl vu lo hi sl Q I rx hs pl pu h;obtain⟨a,xs,rfl,hx,q⟩:=h;cases rx;obtain⟨ay,r,ht,hz⟩:=I.list hx;have hlen:=r.length;refine{"list",_,slot_list_getitem.lookup,ht.isList.typeIs,?_};refine wpAny_getItem_list_slice ht.isList hs pl pu .none (by simp) ?_ (by rw[zq]<;>lia);rw[tI,<-hlen];refine{.ref s.heap.objs.size,_,I.laid (t':=s.toks) (o:=.lst<|E_ xs lo hi) (λb ob q=>za _ q) (zp _) ?_,rfl,q _<|I.aM.fresh<|zp _};exact{zO (xO xs lo hi) hz,_,0,(r.drop<|HT.sIx xs.length 0 lo).take<|HT.sIx xs.length xs.length hi-HT.sIx xs.length 0 lo,zk _ rfl}
noncomputable def hU:V->Bool|.av=>true|.bl _=>true|.int _=>true|.str _=>true|_=>false
noncomputable def eqV:V->V->Bool|.av,.av=>true|.bl a,.bl b=>a==b|.bl a,.int b=>((if a then 1 else 0)==b)|.int a,.bl b=>(a==(if b then 1 else 0))|.int a,.int b=>a==b|.str a,.str b=>a==b|_,_=>false
theorem Pu(ry:RelV y u)(rx:RelV x v)(fy:hU y=true)(fx:hU x=true):SeqAt.EqAt A s u v (eqV y x):=by cases y with|av=>(cases ry;cases x with|av=>(cases rx;exact SeqAt.EqAt.same _)|bl b=>(cases rx;exact SeqAt.EqAt.none_bool b)|int b=>(obtain⟨t,rfl⟩:=rx;exact SeqAt.EqAt.none_int b t)|str b=>(obtain⟨t,rfl⟩:=rx;exact SeqAt.EqAt.none_str b t)|_=>exact absurd (show false=true from fx) zd)|bl a=>(cases ry;cases x with|av=>(cases rx;exact SeqAt.EqAt.bool_none a)|bl b=>(cases rx;exact SeqAt.EqAt.bool_bool a b)|int b=>(obtain⟨t,rfl⟩:=rx;exact SeqAt.EqAt.bool_int a b t)|str b=>(obtain⟨t,rfl⟩:=rx;exact SeqAt.EqAt.bool_str a b t)|_=>exact absurd (show false=true from fx) zd)|int a=>(obtain⟨t',rfl⟩:=ry;cases x with|av=>(cases rx;exact SeqAt.EqAt.int_none a t')|bl b=>(cases rx;exact SeqAt.EqAt.int_bool a t' b)|int b=>(obtain⟨t,rfl⟩:=rx;exact SeqAt.EqAt.int_int a t' b t)|str b=>(obtain⟨t,rfl⟩:=rx;exact SeqAt.EqAt.int_str a t' b t)|_=>exact absurd (show false=true from fx) zd)|str a=>(obtain⟨t',rfl⟩:=ry;cases x with|av=>(cases rx;exact SeqAt.EqAt.str_none a t')|bl b=>(cases rx;exact SeqAt.EqAt.str_bool a t' b)|int b=>(obtain⟨t,rfl⟩:=rx;exact SeqAt.EqAt.str_int a t' b t)|str b=>(obtain⟨t,rfl⟩:=rx;exact SeqAt.EqAt.str_str a t' b t)|_=>exact absurd (show false=true from fx) zd)|_=>exact absurd (show false=true from fy) zd
noncomputable def He(x:V)(u:Value):Bool:=match u with|.none=>eqV .av x|.bool b=>eqV (.bl b) x|.int i _=>eqV (.int i) x|.str z _=>eqV (.str z) x|_=>false
theorem BB(r:RelV y u)(f:hU y=true):He x u=eqV y x:=by cases y with|av=>(cases r;rfl)|bl b=>(cases r;rfl)|int i=>(obtain⟨t,rfl⟩:=r;rfl)|str z=>(obtain⟨t,rfl⟩:=r;rfl)|_=>exact absurd (show false=true from f) zd
theorem vm:∀{xs:List V}{us:List Value},Vals xs us->xs.all hU=true->us.any (He x)=xs.any λy=>eqV y x|_,_,.nil,_=>rfl|y::xs,u::us,.cons r t,f=>by rw[List.all_cons,zM]at f;rw[yR,yR,BB r f.1,vm t f.2]
theorem mn(rx:RelV x v)(fx:hU x=true):∀{xs:List V}{us:List Value},Vals xs us->xs.all hU=true->∀u∈us,SeqAt.EqAt A s u v (He x u)|_,_,.nil,_=>(λu hu=>by cases hu)|y::xs,u::us,.cons r t,f=>λu' hu=>by rw[List.all_cons,zM]at f;rcases zi.mp hu with rfl|hu;rw[BB r f.1];exact Pu r rx f.1 fx;exact mn rx fx t f.2 u' hu
noncomputable def BC(x:V)(xs:List V):Bool:=xs.any λy=>eqV y x
def rIn(K:Frag)(neg:Bool):R2:=λx y H Q=>∃p xs,y=.ref p/\(kh K H p xs\/g_ K H p xs)/\hU x=true/\xs.all hU=true/\Q (.bl<|if neg then !BC x xs else BC x xs) H
theorem nM:hG X (compareOp .In) (rIn X.K false):=by intro pins s σ H x y v u Q I rx ry h;obtain⟨p,xs,rfl,hq,fx,fs,q⟩:=h;cases ry;rcases hq with hq|hq;obtain⟨ay,r,pl,hz⟩:=I.list hq;refine SeqAt.in_listAt (He x) pl.isList (λw hw=>mn rx fx r fs w<|by simpa using hw) {.bl _,H,I,rfl,?_};rw[show ay.toArray.any (He x)=ay.any (He x) by simp,vm r fs];exact q;obtain⟨ay,r,pl,hz⟩:=I.tuple hq;refine SeqAt.in_tupleAt (He x) pl (λw hw=>mn rx fx r fs w<|by simpa using hw) {.bl _,H,I,rfl,?_};rw[show ay.toArray.any (He x)=ay.any (He x) by simp,vm r fs];exact q
theorem kW:fg X (.type "tuple") (λxs H Q=>∃p ys,xs=[.ref p]/\((kh X.K H p ys/\∀l,H l=none->Q (.ref l) (upd H l<|.tup ys))\/(g_ X.K H p ys/\Q (.ref p) H))):=by intro pins s σ H xs us Q I r h;obtain⟨p,ys,rfl,h⟩:=h;obtain⟨u,rfl,rx⟩:=vals1 r;cases rx;rcases h with⟨hq,q⟩|⟨hq,q⟩;obtain⟨ay,r',pl,hz⟩:=I.list hq;have hlen:=r'.length;refine call_tuple_list pl.isList (λh' kp=>?_) (by simp only[zq]<;>lia);have I1:Inv X pins σ H {s with heap:=h'}:=I.kept (t':=s.toks) kp;have I2:Inv X pins σ (upd H h'.objs.size<|.tup ys) {s with heap:=h'.push {cls:=.type "tuple",data:=.seq ay.toArray}}:=I1.laid (t':=s.toks) (λb o e=>za _ e) (zp _)<|show bt X.prog X.w _ _ _ (.tup ys) from{hz,ay,r',iC.new _ _};exact{.ref h'.objs.size,_,I2,rfl,q _<|I1.aM.fresh<|zp _};obtain⟨ay,r',pl,hz⟩:=I.tuple hq;exact call_tuple_same pl {.ref p,H,I,rfl,q}
def WX(K:Frag)(T:String)(x:V)(H:Hp):Prop:=match x with|.str _=>T ="str"|.int _=>T ="int"|.ref p=>(T ="list"/\∃xs,kh K H p xs)\/(T ="tuple"/\∃o,K.lookup p=some o/\o.cls=.type "tuple"/\o.dict=none)\/(T ="dict"/\((∃kvs,H p=some (.dK kvs))\/∃kvs,H p=some (.dT kvs)))\/(T ="set"/\∃S n,H p=some (.set S n))|_=>False
theorem Hf{T:String}(I:Inv X pins σ H s)(r:RelV x v)(ty:WX X.K T x H): s.TypeIs v T/\∀a,v=.ref a->∃ob,s.heap.get? a=some ob/\ob.dict=none:=by cases x with|str z=>(obtain⟨t,rfl⟩:=r;cases (show T ="str" from ty);exact{typeIs_str s z t,λ_ e=>nomatch e})|int i=>(obtain⟨t,rfl⟩:=r;cases (show T ="int" from ty);exact{typeIs_int s i t,λ_ e=>nomatch e})|ref p=>(cases r;rcases ty with⟨rfl,xs,hq⟩|⟨rfl,o,hk,hc,hd⟩|⟨rfl,hk⟩|⟨rfl,S,n,hk⟩;obtain⟨ay,_,pl,_⟩:=I.list hq;refine{pl.isList.typeIs,λa e=>?_};cases e;obtain⟨o,n,e,c,hd,_⟩:=pl;exact⟨o,e,hd⟩;refine{{o,I.oP p o hk,hc},λa e=>?_};cases e;exact{o,I.oP _ o hk,hd};have z:∃o,s.heap.get? p=some o/\o.ExactDict:=(by rcases hk with⟨kvs,hk⟩|⟨kvs,hk⟩;obtain⟨_,_,_,_,o,_,_,e,ex,_⟩:=I.aM p _ hk;exact⟨o,e,ex⟩;exact False.elim<|I.aM p _ hk);obtain⟨o,e,ex⟩:=z;refine{⟨o,e,ex.1⟩,λa e2=>?_};cases e2;exact⟨o,e,ex.2.1⟩;obtain⟨o,_,_,_,e,ex,_⟩:=I.aM p _ hk;refine{⟨o,e,ex.1⟩,λa e2=>?_};cases e2;exact⟨o,e,ex.2.1⟩)|_=>exact False.elim ty
def Yt(K:Frag)(T:String)(r:V->List V->Hp->VK->Prop)(to:TE):TE:=λσ H Q=>to σ H λx H1=>WX K T x H1/\r x [] H1 Q
def tBM(K:Frag)(T:String)(r:V->List V->Hp->VK->Prop)(to:TE)(t:TA):TE:=λσ H Q=>to σ H λx H1=>WX K T x H1/\t σ H1 λxs H2=>r x xs H2 Q
variable{o e:Expr}{es:List Expr}{to:TE}{t:TA}{name:Str}{apos aO:Pos}{T id:String}{r:V->List V->Hp->VK->Prop}
theorem Pw(pa:PlainAttrs T)(slot:Slot T name id)(Px:typeOf (.builtin id)=pure (.type "method_descriptor"))(hm:R4 X id r)(ho:PE X o to) (mq:autoParam (attributeBase o name X.env (eval o X.env)=eval o X.env) qQJ) (qR:autoParam ((apos.endLine==aO.line)=true) qQJ):PE X (.Call (.Attribute o name apos) [] [] aO) (Yt X.K T r to):=by intro pins s σ H Q I h;refine wpAny_Call_method0_late mq qR<|br (ho pins s σ H _ I h) λv s1 ⟨x,H1,I1,r1,ty,q1⟩=>?_;obtain⟨h1,h2⟩:=Hf I1 r1 ty;exact{T,id,pa,slot,Px,h1,h2,Calls.callWith_builtin rfl<|PySem.evalArgs_none<|hm pins s1 σ H1 x [] v [] Q I1 r1 .nil q1}
theorem TN(pa:PlainAttrs T)(slot:Slot T name id)(Px:typeOf (.builtin id)=pure (.type "method_descriptor"))(hm:R4 X id r)(ho:PE X o to)(ha:PA X (e::es) t) (mq:autoParam (attributeBase o name X.env (eval o X.env)=eval o X.env) qQJ) (Py:autoParam (((backTo aO<|starEach (e::es) X.env).all (λx=>!x.1)&&(backToKw aO<|keywordEach [] X.env).all (λx=>x.1.isSome)&&decide ((e::es).length+([]:List Keyword).length+(if ([]:List Keyword).isEmpty then 0 else 1)<30))=true) qQJ) (qR:autoParam ((apos.endLine==aO.line)=true) qQJ) (hs:autoParam (starEach (e::es) X.env=(false,eval e X.env)::starEach es X.env) qQJ) (BD:autoParam ((backTo aO<|starEach es X.env).any (·.1)=false) qQJ): PE X (.Call (.Attribute o name apos) (e::es) [] aO) (tBM X.K T r to t):=by intro pins s σ H Q I h;refine wpAny_Call_method_late mq Py qR rfl<|br (ho pins s σ H _ I h) λv s1 ⟨x,H1,I1,r1,ty,q1⟩=>?_;obtain⟨h1,h2⟩:=Hf I1 r1 ty;refine{T,id,pa,slot,Px,h1,h2,?_};have hA:=ha aO pins s1 σ H1 _ I1 q1;rw[hs]at hA⊢;refine Calls.callWith_builtin (by show(false||(backTo aO<|starEach es X.env).any (·.1))=false;rw[BD]<;>rfl)<|Calls.evalArgs_plain ?_;exact br hA <| by rintro us s2 ⟨vs,H2,I2,r2,q2⟩;exact hm pins s2 σ H2 x vs v us Q I2 r1 r2 q2
end
def WY(X:Cx)(id:String)(r:V->List V->Hp->VK->Prop):Prop:=∀(pins:List (Addr×Obj))(s:Shared)(σ:St)(H:Hp)(x:V)(xs:List V)(v:Value)(us:List Value)(Q:VK),Inv X pins σ H s->RelV x v->Vals xs us->r x xs H Q->wpAny (model X.prog X.w) X.A (call (.builtin id)<|v::us) (EP X pins σ Q) X.xe s
theorem Vals.one:∀{x:V}{us:List Value},Vals [x] us->∃u,us=[u]/\RelV x u:=by intro x us h;cases h with|cons r t=>cases t;exact{_,rfl,r}
theorem Vals.two:∀{x y:V}{us:List Value},Vals [x,y] us->∃u v,us=[u,v]/\RelV x u/\RelV y v:=by intro x y us h;cases h with|cons r t=>obtain⟨_,rfl,q⟩:=Vals.one t;exact{_,_,rfl,r,q}
theorem Vals.zero:∀{us:List Value},Vals [] us->us=[]|_,.nil=>rfl
theorem Vals.dropLast{xs:List V}{us:List Value}(h:Vals xs us):Vals xs.dropLast us.dropLast:=by induction h with|nil=>exact .nil|cons r t ih=>cases t with|nil=>exact .nil|cons q t'=>exact .cons r ih
theorem Vals.eraseIdx:∀{xs:List V}{us:List Value}(i:Nat),Vals xs us->Vals (xs.eraseIdx i) (us.eraseIdx i)|_,_,_,.nil=>.nil|_,_,0,.cons _ t=>t|_,_,i+1,.cons r t=>.cons r<|Vals.eraseIdx i t
theorem BE{α:Type}(l:List α):l.eraseIdx (l.length-1)=l.dropLast:=by induction l with|nil=>rfl|cons a r ih=>cases r with|nil=>rfl|cons b r=>have e:(a::b::r).length-1=((b::r).length-1)+1:=(by have h1:(a::b::r).length=r.length+2:=rfl;have h2:(b::r).length=r.length+1:=rfl;lia);rw[e,List.eraseIdx_cons_succ,ih];all_goals rfl
theorem uv{α:Type} : ∀(l:List α)(i:Nat),(l.eraseIdx i).length<=l.length|[],_=>zp _|_::_,0=>yT _|_::r,i+1=>Nat.succ_le_succ<|uv r i
section
variable{X:Cx}{pins:List (Addr×Obj)}{σ:St}{H:Hp}{s:Shared}{l:Addr}{xs ys:List V}
theorem Inv.KY{ay its':List Value}{n:Nat}{f:Array Value->Array Value}{t':Nat}(I:Inv X pins σ H s)(hH:H l=some (.lst xs)) (e:s.heap.get? l=some {cls:=.type "list",data:=.seq ay.toArray n}) (hf:f ay.toArray=its'.toArray) (hv:Vals ys its') (hz:ys.length<=sizeLine): Inv X pins σ (upd H l<|.lst ys) {s with heap:=s.heap.update l<|Obj.mapSeq f,toks:=t'}:=by have q:=PySem.IsL.update e f;rw[hf]at q;refine I.write (x:=l) (e:=l) (by rw[hH];exact trivial) (.inl rfl) (λb' u hb hu=>(yq s.heap (Obj.mapSeq f)<|Ne.symm hb).trans hu) {_,q} ?_;exact{hz,its',_,hv,q}
theorem Inv.Yu(I:Inv X pins σ H s)(hv:Vals ys ay)(hz:ys.length<=sizeLine): Inv X pins σ (upd H s.heap.objs.size<|.lst ys) {s with heap:=s.heap.push {cls:=.type "list",data:=.seq ay.toArray},toks:=t'}:=I.laid (λ_ _ q=>za _ q) (zp _) {hz,ay,0,hv,zk _ rfl}
theorem Inv.fresh(I:Inv X pins σ H s):H s.heap.objs.size=none:=I.aM.fresh<|zp _
theorem Inv.Fc(I:Inv X pins σ H s)(hH:H l=some (.lst xs)):xs.length<=sizeLine/\∃(ay:List Value)(n:Nat),Vals xs ay/\xs.length=ay.length/\s.heap.get? l=some {cls:=.type "list",data:=.seq ay.toArray n}:=by obtain⟨z,ay,n,r,e⟩:=I.aM l _ hH;exact⟨z,ay,n,r,r.length,e⟩
theorem Hg{n:Nat}(h:n<=sizeLine):Builtin.List.listTooLong n=false:=by unfold Builtin.List.listTooLong;exact zB<|by lia
end
section
variable{X:Cx}
def KZ:V->List V->Hp->VK->Prop:=λx vs H Q=>∃l xs y,x=.ref l/\vs=[y]/\H l=some (.lst xs)/\xs.length<sizeLine/\Q .av (upd H l<|.lst<|xs++[y])
theorem Fd:WY X "list.append" KZ:=by intro pins s σ H x vs v us Q I rx rv h;obtain⟨l,xs,y,rfl,rfl,hH,hz,q⟩:=h;cases rx;obtain⟨u,rfl,ru⟩:=rv.one;obtain⟨z,ay,n,r,hl,e⟩:=I.Fc hH;refine call_meets F.slot_list_append {_,e,rfl} F.entry_list_append (F.args_list_append_2 _ _) (PySem.list_append l ay.toArray n u<|by rw[zq];lia) {e,?_};refine{.av,_,I.KY (its':=ay++[u]) hH e (by simp) (r.append<|.cons ru .nil) ?_,rfl,q};rw[zx,List.length_singleton];lia
def Yv:V->List V->Hp->VK->Prop:=λx vs H Q=>∃l xs y,x=.ref l/\vs=[]/\H l=some (.lst xs)/\xs[xs.length-1]?=some y/\Q y (upd H l<|.lst xs.dropLast)
theorem Pz:WY X "list.pop" Yv:=by
 intro pins s σ H x vs v us Q I rx rv h;obtain⟨l,xs,y,rfl,rfl,hH,hy,q⟩:=h;cases rx;have hus:=rv.zero;subst hus;obtain⟨z,ay,n,r,hl,e⟩:=I.Fc hH;obtain⟨u,hu,ru⟩:=r.get hy;have TQ:ay.toArray[ay.toArray.size-1]?=some u:=by show ay.toArray[ay.length-1]?=some u;rw[<-Array.getElem?_toList,<-hl];exact hu
 refine call_meets F.slot_list_pop {_,e,rfl} F.entry_list_pop (F.args_list_pop_1 _) (MeetsSeq.list_pop_last l ay.toArray n u TQ<|by rw[zq];lia) {e,?_};refine{y,_,I.KY (its':=ay.dropLast) hH e ?_ r.dropLast ?_,ru,q};show ay.toArray.eraseIdxIfInBounds (ay.toArray.size-1)=ay.dropLast.toArray;rw[zq,List.eraseIdxIfInBounds_toArray,BE];rw[List.length_dropLast];lia
def PB:V->List V->Hp->VK->Prop:=λx vs H Q=>∃l xs i k y,x=.ref l/\vs=[.int i]/\H l=some (.lst xs)/\-(2^63)<=i/\i<2^63/\seqIndex? i xs.length=some k/\xs[k]?=some y/\Q y (upd H l<|.lst<|xs.eraseIdx k)
theorem Hh:WY X "list.pop" PB:=by intro pins s σ H x vs v us Q I rx rv h;obtain⟨l,xs,i,k,y,rfl,rfl,hH,h1,h2,hk,hy,q⟩:=h;cases rx;obtain⟨u,rfl,ru⟩:=rv.one;obtain⟨t,rfl⟩:=ru;obtain⟨z,ay,n,r,hl,e⟩:=I.Fc hH;obtain⟨w,hw,qQ⟩:=r.get hy;refine call_meets F.slot_list_pop {_,e,rfl} F.entry_list_pop (F.args_list_pop_2 _ _) (MeetsSeq.list_pop_at l ay.toArray n i t k w (fitsIndex_both h1 h2) (by rw[zq,<-hl];exact hk) (by rw[<-Array.getElem?_toList];exact hw)<|by rw[zq];lia) {e,?_};refine{y,_,I.KY (its':=ay.eraseIdx k) hH e ?_ (r.eraseIdx k) ?_,qQ,q};show ay.toArray.eraseIdxIfInBounds k=(ay.eraseIdx k).toArray;rw[List.eraseIdxIfInBounds_toArray];have:=uv xs k;lia
def Yw:R2:=λx y H Q=>∃l b xs zs,x=.ref l/\y=.ref b/\H l=some (.lst xs)/\H b=some (.lst zs)/\xs.length+zs.length<=sizeLine/\∀p,H p=none->Q (.ref p) (upd H p<|.lst<|xs++zs)
theorem Hi:hG X (binaryOp .Add) Yw:=by
 intro pins s σ H x y v u Q I rx ry h;obtain⟨l,b,xs,zs,rfl,rfl,hH,hB,hz,q⟩:=h;cases rx;cases ry;obtain⟨z,ay,n,r,hl,e⟩:=I.Fc hH;obtain⟨z2,pX,n2,r2,PC,e2⟩:=I.Fc hB;refine PySem.P.add_list e e2 ?_ (by rw[zq,zq];lia);have ea:ay.toArray++pX.toArray=(ay++pX).toArray:=by simp
 rw[ea];exact{.ref _,_,I.Yu (t':=s.toks) (r.append r2)<|by rw[zx];lia,rfl,q _ I.fresh}
end
section
variable{κ:Type}[DecidableEq κ]
noncomputable def gs(kvs:List<|κ×V)(k:κ):Option V:=(kvs.find? λkv=>decide<|kv.1=k).map (·.2)
noncomputable def putK(kvs:List<|κ×V)(k:κ)(v:V):List (κ×V):=if (kvs.any λkv=>decide<|kv.1=k)=true then kvs.map (λkv=>if kv.1=k then (kv.1,v) else kv) else kvs++[(k,v)]
noncomputable def oU(kvs:List<|κ×V)(k:κ):List (κ×V):=kvs.filter λkv=>decide<|kv.1≠k
theorem qS{p:κ×V}{r:List<|κ×V}{k:κ}(e:p.1=k):gs (p::r) k=some p.2:=by simp[gs,ya,e]
theorem qU{p:κ×V}{r:List<|κ×V}{k:κ}(e:¬p.1=k):gs (p::r) k=gs r k:=by simp[gs,ya,e]
theorem js(kvs:List<|κ×V)(k:κ)(v:V):(putK kvs k v).length<=kvs.length+1:=by unfold putK;split;rw[zb];lia;rw[zx,zS,List.length_nil];lia
theorem gp.nN(r:gp o u):o.isSome=u.isSome:=by cases o with|none=>(cases u with|none=>rfl|some _=>exact(show False from r).elim)|some _=>cases u with|none=>exact(show False from r).elim|some _=>rfl
theorem gp.getD{o:Option V}{u:Option Value}{d:V}{d':Value}(r:gp o u)(rd:RelV d d'):RelV (o.getD d) (u.getD d'):=by cases o with|none=>(cases u with|none=>exact rd|some _=>exact(show False from r).elim)|some _=>cases u with|none=>exact(show False from r).elim|some _=>exact r
theorem KV.val{kvs:List<|κ×V}{vs:List<|κ×Value}(r:KV kvs vs)(k:κ):gp (gs kvs k) (valueAt vs k):=by unfold KV at r;induction r with|nil=>exact True.intro|@cons p q ps qs h t ih=>obtain⟨h1,h2⟩:=h;by_cases e:p.1=k;have e':q.1=k:=h1.symm.trans e;have b:valueAt (q::qs) k=some q.2:=(by simp[valueAt,ya,e']);rw[qS e,b];exact h2;have e':¬q.1=k:=λz=>e<|h1.trans z;have b:valueAt (q::qs) k=valueAt qs k:=(by simp[valueAt,ya,e']);rw[qU e,b];exact ih
theorem KV.any{kvs:List<|κ×V}{vs:List<|κ×Value}(r:KV kvs vs)(k:κ):(kvs.any λkv=>decide<|kv.1=k)=vs.any λkv=>decide (kv.1=k):=by unfold KV at r;induction r with|nil=>rfl|cons h t ih=>rw[yR,yR,ih,h.1]
theorem KV.PD(r:KV kvs vs)(k:κ)(ry:RelV y u): KV (kvs.map λkv=>if kv.1=k then (kv.1,y) else kv) (vs.map λkv=>if kv.1=k then (kv.1,u) else kv):=by unfold KV at r⊢;induction r with|nil=>exact .nil|@cons p q ps qs h t ih=>rw[zu,zu];refine .cons ?_ ih;obtain⟨h1,h2⟩:=h;by_cases e:p.1=k;rw[if_pos e,if_pos<|h1.symm.trans e];exact⟨h1,ry⟩;rw[if_neg e,if_neg λz=>e<|h1.trans z];exact⟨h1,h2⟩
theorem KV.put(r:KV kvs vs)(k:κ)(ry:RelV y u):KV (putK kvs k y) (stored vs k u):=by unfold putK stored;rw[r.any k];by_cases e:(vs.any λkv=>decide<|kv.1=k)=true;rw[if_pos e,if_pos e];exact r.PD k ry;rw[if_neg e,if_neg e];exact Paired.snoc r ⟨rfl,ry⟩
theorem KV.drop(r:KV kvs vs)(k:κ):KV (oU kvs k) (without vs k):=by unfold KV at r⊢;unfold oU without;induction r with|nil=>exact .nil|@cons p q ps qs h t ih=>obtain⟨h1,h2⟩:=h;rw[List.filter_cons,List.filter_cons];by_cases e:p.1=k;have a:¬decide (p.1≠k)=true:=(by simp[e]);have b:¬decide (q.1≠k)=true:=(by simp[h1.symm.trans e]);rw[if_neg a,if_neg b];exact ih;have e':¬q.1=k:=λz=>e<|h1.trans z;have a:decide (p.1≠k)=true:=(by simp[e]);have b:decide (q.1≠k)=true:=(by simp[e']);rw[if_pos a,if_pos b];exact .cons ⟨h1,h2⟩ ih
theorem KV.length{kvs:List<|κ×V}{vs:List<|κ×Value}(r:KV kvs vs):kvs.length=vs.length:=yG r
theorem Hj(kvs:List<|κ×V)(k:κ):(oU kvs k).length<=kvs.length:=List.length_filter_le _ _
end
theorem jt(r:RelV (kV k) u):(aH P w).is k u=true:=by cases k with|inl i=>(obtain⟨t,e⟩:=(show ∃t,u=Value.int i t from r);subst e;exact xE P w i t)|inr x=>obtain⟨t,e⟩:=(show ∃t,u=Value.str x t from r);subst e;exact jo P w x t
theorem uw:∀{ks:List Key}{us:List Value},Vals (ks.map kV) us->ItemsAre (aH P w) ks us|[],_,r=>(by rw[List.map_nil]at r;cases r;exact .nil)|k::ks,_,r=>by rw[zu]at r;cases r with|cons h t=>exact .cons (jt h)<|uw t
abbrev KT(H:Hp):List (List Key×V)->List (List Key×Addr×Value)->Prop:=Paired λp q=>p.1=q.1/\H q.2.1=some (.tup<|p.1.map kV)/\RelV p.2 q.2.2
theorem KT.val{H:Hp}{kvs:List<|List Key×V}{xs:List<|List Key×Addr×Value}(r:KT H kvs xs)(k:List Key):gp (gs kvs k) ((atKey xs k).map (·.2)):=by induction r with|nil=>exact True.intro|@cons p q ps qs h t ih=>obtain⟨h1,_,h2⟩:=h;by_cases e:p.1=k;have e':q.1=k:=h1.symm.trans e;have b:atKey (q::qs) k=some q.2:=(by simp[atKey,ya,e']);rw[qS e,b];exact h2;have e':¬q.1=k:=λz=>e<|h1.trans z;have b:atKey (q::qs) k=atKey qs k:=(by simp[atKey,ya,e']);rw[qU e,b];exact ih
section
variable{P:Program}{w:World}{H:Hp}{h:Heap}{a:Addr}
theorem Nz(ok:lL P w H h)(e:Rd H a u):bt P w H h a u:=e.ok ok
theorem oV(ok:lL P w H h)(e:Rd H a<|.dK kvs):kvs.length<=sizeLine/\(a==sysModules)=false/\∃vs,KV kvs vs/\h.DictOf (aH P w) a vs:=show bt P w H h a (.dK kvs) from Nz ok e
theorem xP(ok:lL P w H h)(e:H a=some (.dK kvs)):kvs.length<=sizeLine/\(a==sysModules)=false/\∃vs,KV kvs vs/\h.DictOf (aH P w) a vs:=oV ok<|.inl e
theorem vn(ok:lL P w H h)(e:H a=some (.tup<|ks.map kV)):(tupleKind<|aH P w).is h ks a:=by obtain⟨_,ay,r,o,h1,h2,_,n,h3⟩:=(show bt P w H h a (.tup<|ks.map kV) from ok a _ e);exact{o,ay.toArray,n,h1,h2,h3,by simpa using uw r}
theorem ux(ok:lL P w H h)(e:Rd H a<|.dT kvs):kvs.length<=sizeLine/\(a==sysModules)=false/\∃xs,KT H kvs xs/\h.DictOfH (tupleKind<|aH P w) a xs:=by exact False.elim<|show bt P w H h a (.dT kvs) from Nz ok e
end
def pY(H:Hp)(a:Addr)(y:V)(r:Option V):Prop:=(∃kvs k,Rd H a (.dK kvs)/\y=kV k/\r=gs kvs k)\/∃kvs k b,Rd H a (.dT kvs)/\y=.ref b/\H b=some (.tup<|k.map kV)/\r=gs kvs k
def Hk(H:Hp)(a:Addr)(y v:V)(H':Hp):Prop:=(∃kvs k,H a=some (.dK kvs)/\y=kV k/\kvs.length<sizeLine/\H'=upd H a (.dK<|putK kvs k v))\/∃kvs k b,H a=some (.dT kvs)/\y=.ref b/\H b=some (.tup<|k.map kV)/\kvs.length<sizeLine/\H'=upd H a (.dT<|putK kvs k v)
theorem pY.k{H:Hp}{a:Addr}{kvs:List<|Key×V}{k:Key}(e:H a=some (.dK kvs)):pY H a (kV k) (gs kvs k):=.inl {kvs,k,.inl e,rfl,rfl}
theorem Hk.k{H:Hp}{a:Addr}{kvs:List<|Key×V}{k:Key}{v:V}(e:H a=some (.dK kvs))(hl:kvs.length<sizeLine):Hk H a (kV k) v (upd H a<|.dK<|putK kvs k v):=.inl ⟨kvs,k,e,rfl,hl,rfl⟩
section
variable{X:Cx}{pins:List (Addr×Obj)}{σ:St}{H:Hp}{s:Shared}{a:Addr}{y v:V}{u r:Value}{o:Option V}{A:Around}{E:Value->Shared->Prop}
theorem Inv.big(I:Inv X pins σ H s):sysModules<s.heap.objs.size:=by have h:mainGlobals<s.heap.objs.size:=(I.mod.glob.keeps I.bk).lt;exact Nat.lt_trans (by decide) h
theorem Fe(hu:A.units+1<cLine)(I:Inv X pins σ H s)(g:pY H a y<|some v)(ry:RelV y u)(h:∀w' s',Inv X pins σ H s'->RelV v w'->Q w' s'): wpAny (model X.prog X.w) A (getItem (.ref a) u) Q E s:=by rcases g with⟨kvs,k,e,ey,l⟩|⟨kvs,k,b,e,ey,eb,l⟩;subst ey;obtain⟨z,hd,vs,rel,dd⟩:=oV I.aM e;obtain⟨w',hw,qQ⟩:=gp.some_of (v:=v) (o:=valueAt vs k) (by rw[l];exact rel.val k);exact wpAny_getItem_of (jt ry) dd.mapOf hw<|h w' _ (I.tok _) qQ;subst ey;cases (show u=Value.ref b from ry);obtain⟨z,hd,xs,rel,dd⟩:=ux I.aM e;obtain⟨w',hw,qQ⟩:=gp.some_of (v:=v) (o:=(atKey xs k).map (·.2)) (by rw[l];exact rel.val k);obtain⟨p,hp,jf⟩:=Option.map_eq_some_iff.mp hw;refine wpAny_getItem_heap (tupleKind_room_in1 hu) (vn I.aM eb) dd hp ?_;rw[jf];exact h w' _ (I.tok _) qQ
theorem Yx(hu:A.units+1<cLine)(I:Inv X pins σ H s)(g:pY H a y o)(ry:RelV y u)(h:∀s',Inv X pins σ H s'->Q (.bool o.isSome) s'): wpAny (model X.prog X.w) A (compareOp .In u<|.ref a) Q E s:=by rcases g with⟨kvs,k,e,ey,l⟩|⟨kvs,k,b,e,ey,eb,l⟩;subst ey;obtain⟨z,hd,vs,rel,dd⟩:=oV I.aM e;refine wpAny_in_of (jt ry) hd dd.mapOf ?_;rw[<-(rel.val k).nN,<-l];exact h _<|I.tok _;subst ey;cases (show u=Value.ref b from ry);obtain⟨z,hd,xs,rel,dd⟩:=ux I.aM e;refine wpAny_in_heap (tupleKind_room_in1 hu) (vn I.aM eb) hd dd ?_;have q:=(rel.val k).nN;rw[Option.isSome_map]at q;rw[<-q,<-l];exact h _<|I.tok _
theorem qu(I:Inv X pins σ H s)(mu:SJ<|H a)(hs:Heap.SameBut a s.heap h')(he:∃q,h'.get? a=some q)(new:bt X.prog X.w (upd H a ob) h' a ob): Inv X pins σ (upd H a ob) {s with heap:=h',toks:=t'}:=I.write (x:=a) (e:=a) mu (.inl rfl) (λb q hb z=>(hs.2 b hb).trans z) he new
theorem vo(z:kvs.length<=sizeLine)(hd:(a==sysModules)=false)(rel:KV kvs vs)(dd:h'.DictOf (aH P w) a vs): bt P w H' h' a (.dK kvs):=⟨z,hd,vs,rel,dd⟩
theorem Ff(hu:A.units+1<cLine)(I:Inv X pins σ H s)(g:Hk H a y v H')(ry:RelV y u)(rv:RelV v r)(h:∀s',Inv X pins σ H' s'->Q () s'): wpAny (model X.prog X.w) A (setItem (.ref a) u r) Q E s:=by
 rcases g with⟨kvs,k,e,ey,l,eH⟩|⟨kvs,k,b,e,ey,eb,l,eH⟩;subst ey eH;obtain⟨z,hd,vs,rel,dd⟩:=xP I.aM e;have hz:vs.length<=sizeLine:=by rw[<-rel.length];exact z
 have hl:(putK kvs k v).length<=sizeLine:=by have:=js kvs k v;lia
 refine wpAny_setItem_pairs (hsz:=hz) (jt ry) dd λh' Hl hs=>h _ ?_;have he:∃q,h'.get? a=some q:=by obtain⟨q,_,_,hq,_⟩:=Hl;exact⟨q,hq⟩
 exact qu I (by rw[e];exact True.intro) hs he<|vo hl hd (rel.put k rv) Hl;exact False.elim<|I.aM _ _ e
end
section
variable{X:Cx}{pins:List (Addr×Obj)}{σ:St}{H:Hp}{s:Shared}{a:Addr}{kvs:List (Key×V)}{k:Key}{u:Value}{A:Around}{E:Value->Shared->Prop}
theorem TR(I:Inv X pins σ H s)(e:H a=some (.dK kvs))(ry:RelV (kV k) u)(l:gs kvs k=some v)(hm:more=[]\/∃x,more=[x]) (h:∀w' s',Inv X pins σ (upd H a<|.dK<|oU kvs k) s'->RelV v w'->Q w' s'):wpAny (model X.prog X.w) A (call (.builtin "dict.pop")<|.ref a::u::more) Q E s:=by
 obtain⟨z,hd,vs,rel,dd⟩:=xP I.aM e;obtain⟨w',hw,qQ⟩:=gp.some_of (v:=v) (o:=valueAt vs k) (by rw[<-l];exact rel.val k);have hp:(keyPart u).isSome=true:=by cases k with|inl i=>(obtain⟨t,q⟩:=(show ∃t,u=Value.int i t from ry);subst q;rfl)|inr x=>obtain⟨t,q⟩:=(show ∃t,u=Value.str x t from ry);subst q;rfl
 have ha:argsOk "dict.pop" {.ref a::u::more,[]}:=by rcases hm with q|⟨x,q⟩;subst q;exact PySem.F.args_dict_pop_2 _ _;subst q;exact PySem.F.args_dict_pop_3 _ _ _
 refine call_meetsIn PySem.F.slot_dict_pop dd.typeIs PySem.F.entry_dict_pop ha (meets_dict_pop_there (aH X.prog X.w) a (jt ry) more hm hp) {vs,w',dd,by rw[<-rel.length];exact z,hw,λh' Hl hs=>h w' _ ?_ qQ};have he:∃q,h'.get? a=some q:=by obtain⟨q,_,_,hq,_⟩:=Hl;exact⟨q,hq⟩
 exact qu I (by rw[e];exact True.intro) hs he<|vo (zO (Hj kvs k) z) hd (rel.drop k) Hl
theorem TU(I:Inv X pins σ H s)(e:Rd H a<|.dK kvs)(h:∀t s',Inv X pins σ H s'->Q (.int kvs.length t) s'):wpAny (model X.prog X.w) A (call (.builtin "len") [.ref a]) Q E s:=by obtain⟨z,hd,vs,rel,dd⟩:=oV I.aM e;refine call_len_dict hd dd (by rw[<-rel.length];rw[yd]at z;lia) ?_;rw[<-rel.length];exact h _ _<|I.tok _
end
theorem xQ(I:Inv X pins σ H s)(g:pY H a y o):s.TypeIs (.ref a) "dict":=by rcases g with⟨kvs,k,e,_,_⟩|⟨kvs,k,b,e,_,_,_⟩;obtain⟨_,_,vs,_,dd⟩:=oV I.aM e;exact dd.typeIs;obtain⟨_,_,xs,_,dd⟩:=ux I.aM e;exact dd.typeIs
def TV(td ty tv:TE):TS:=λD σ H=>tv σ H λv H1=>td σ H1 λx H2=>ty σ H2 λy H3=>∃a H4,x=.ref a/\Hk H3 a y v H4/\D.nx σ H4
section
variable{X:Cx}{o i value:Expr}{pos pos':Pos}{td ty tv:TE}
theorem K0(hu:X.A.units+1<cLine)(ho:PE X o td)(hi:PE X i ty)(hv:PE X value tv)(hs:swapsWith value (some<|.Subscript o i pos') pos.line X.env=pure false): PS X (.Assign [.Subscript o i pos'] value pos) (TV td ty tv):=by intro pins s σ H D I h;refine wpAny_Assign_Subscript (br (hv pins s σ H _ I h) λr s1 ⟨v,H1,I1,rv,q1⟩=>br (ho pins s1 σ H1 _ I1 q1) λu s2 ⟨x,H2,I2,rx,q2⟩=>br (hi pins s2 σ H2 _ I2 q2) λiv s3 ⟨y,H3,I3,ry,a,H4,ex,g,q3⟩=>?_) hs;subst ex;obtain rfl:u=Value.ref a:=rx;exact Ff hu I3 g ry rv λs4 I4=>⟨σ,H4,I4,q3⟩
end
theorem xR(h:Heap)(hb:sysModules<h.objs.size):bt P w H (h.push {cls:=.type "dict",data:=.dict #[]}) h.objs.size (.dK []):={zT _,beq_eq_false_iff_ne.mpr<|Ne.symm<|zE hb,[],.nil,Heap.DictOf.new h}
def PF:TE:=λ_ H Q=>∀p,H p=none->Q (.ref p) (upd H p<|.dK [])
section
variable{X:Cx}{pos:Pos}
theorem Hm:PE X (.Dict [] [] pos) PF:=λpins s σ H Q I h=>wpAny_Dict_empty {.ref s.heap.objs.size,_,I.laid (a:=s.heap.objs.size) (o:=.dK []) (t':=s.toks) (λ_ _ q=>za _ q) (zp _)<|xR s.heap I.big,rfl,h _<|I.aM.fresh<|zp _}
end
def vp:List (TE×TE)->St->Hp->(List (V×V)->Hp->Prop)->Prop|[],_,H,Q=>Q [] H| (tk,tv)::r,σ,H,Q=>tk σ H λx H1=>tv σ H1 λy H2=>vp r σ H2 λps H3=>Q ((x,y)::ps) H3
abbrev VV:List (V×V)->List (Value×Value)->Prop:=Paired λp q=>RelV p.1 q.1/\RelV p.2 q.2
def TY(X:Cx)(pos:Pos)(keys:List<|Option Expr)(values:List Expr)(NA:List<|TE×TE):Prop:=∀(pins:List (Addr×Obj))(s:Shared)(σ:St)(H:Hp)(Q:List (V×V)->Hp->Prop),Inv X pins σ H s->vp NA σ H Q->wpAny (model X.prog X.w) X.A (evalPairs<|pairTrees keys values X.env pos) (λvs s'=>∃ps H',Inv X pins σ H' s'/\VV ps vs/\Q ps H') X.xe s
theorem K1:TY X pos [] [] []:=λpins s σ H Q I h=>pairTrees_nil_walk {[],H,I,.nil,h}
theorem Hn{X:Cx}{pos:Pos}{k v:Expr}{ks:List<|Option Expr}{vs:List Expr}{tk tv:TE}{NA:List<|TE×TE}(hk:PE X k tk)(hv:PE X v tv)(hr:TY X pos ks vs NA): TY X pos (some k::ks) (v::vs) ((tk,tv)::NA):=λpins s σ H Q I h=>pairTrees_cons_walk<|br (hk pins s σ H _ I h) λu s1 ⟨x,H1,I1,rx,q1⟩=>br (hv pins s1 σ H1 _ I1 q1) λw2 s2 ⟨y,H2,I2,ry,q2⟩=>br (hr pins s2 σ H2 _ I2 q2) λws s3 ⟨ps,H3,I3,rel,q3⟩=>{(x,y)::ps,H3,I3,.cons ⟨rx,ry⟩ rel,q3}
noncomputable def ju(kvs more:List<|Key×V):List (Key×V):=more.foldl (λacc kv=>putK acc kv.1 kv.2) kvs
theorem KV.merge:∀{more:List (Key×V)}{rs:List (Key×Value)}{kvs:List (Key×V)}{vs:List (Key×Value)},KV more rs->KV kvs vs->KV (ju kvs more) (merged vs rs):=by intro more rs kvs vs r;unfold KV at r;induction r generalizing kvs vs with|nil=>intro q;exact q|@cons p q ps qs h t ih=>intro r0;have e:KV (putK kvs p.1 p.2) (stored vs q.1 q.2):=(by have:=r0.put p.1 h.2;rw[<-h.1];exact this);exact ih e
theorem kX:∀(more kvs:List (Key×V)),(ju kvs more).length<=kvs.length+more.length|[],kvs=>by show kvs.length<=kvs.length+0;lia|p::r,kvs=>by have h1:=kX r<|putK kvs p.1 p.2;have h2:=js kvs p.1 p.2;show(ju (putK kvs p.1 p.2) r).length<=_;rw[zS];lia
theorem qW:∀{kvs:List (Key×V)}{ws:List (Value×Value)},VV (kvs.map λkv=>(kV kv.1,kv.2)) ws->∃rs,Carries (aH P w) ws rs/\KV kvs rs|[],_,r=>(by rw[List.map_nil]at r;cases r;exact{[],True.intro,.nil})|p::kvs,_,r=>by rw[zu]at r;cases r with|@cons a b as bs h t=>obtain⟨rs,c,q⟩:=qW (P:=P) (w:=w) t;obtain⟨b1,b2⟩:=b;exact{(p.1,b2)::rs,{jt h.1,rfl,c},.cons ⟨rfl,h.2⟩ q}
def TZ(NA:List<|TE×TE):TE:=λσ H Q=>∀p,H p=none->vp NA σ (upd H p<|.dK []) λps H2=>H2 p=some (.dK [])/\∃kvs:List (Key×V),ps=kvs.map (λkv=>(kV kv.1,kv.2))/\kvs.length<=15/\Q (.ref p) (upd H2 p<|.dK<|ju [] kvs)
theorem K2(h:TY X pos keys values NA)(Ho:keys.all (·.isSome)=true)(hl:keys.length=values.length)(h0:keys≠[]) (Yy:keys.length<=15):PE X (.Dict keys values pos) (TZ NA):=by
 intro pins s σ H Q I q;have hn:=I.aM.fresh<|zp s.heap.objs.size;have I1:=I.laid (a:=s.heap.objs.size) (o:=.dK []) (h':=s.heap.push {cls:=.type "dict",data:=.dict #[]}) (t':=s.toks) (λ_ _ q=>za _ q) (zp _)<|xR s.heap I.big;refine wpAny_Dict_walk (knd:=aH X.prog X.w) Ho hl h0 Yy<|br (h pins _ σ _ _ I1<|q _ hn) λws s2 ⟨ps,H2,I2,rel,e,kvs,ep,lk,q2⟩=>?_;subst ep;obtain⟨rs,c,rk⟩:=qW (P:=X.prog) (w:=X.w) rel;obtain⟨z,hd,vs0,r0,dd⟩:=xP I2.aM e;cases r0;refine{rs,c,dd,λh' Hl hs=>{.ref s.heap.objs.size,_,?_,rfl,q2}};have hz:(ju [] kvs).length<=sizeLine:=by have h1:=kX kvs [];rw[List.length_nil]at h1;rw[yd];lia
 have he:∃q,h'.get? s.heap.objs.size=some q:=by obtain⟨q,_,_,hq,_⟩:=Hl;exact⟨q,hq⟩
 exact qu I2 (by rw[e];exact True.intro) hs he<|vo hz hd (rk.merge .nil) Hl
structure M1(X:Cx)(o:Expr)(m:Str)(apos:Pos)(e:Expr)(aO:Pos):Prop where
 base:attributeBase o m X.env (eval o X.env)=eval o X.env
 GJ:((backTo aO<|starEach [e] X.env).all (λx=>!x.1)&&(backToKw aO<|keywordEach [] X.env).all (λx=>x.1.isSome)
  && decide (([e]:List Expr).length+([]:List Keyword).length+(if ([]:List Keyword).isEmpty then 0 else 1)<30))=true
 line:(apos.endLine==aO.line)=true
 trees:backTo aO (starEach [e] X.env)=[(false,eval e X.env)]
structure M2(X:Cx)(o:Expr)(m:Str)(apos:Pos)(e f:Expr)(aO:Pos):Prop where
 base:attributeBase o m X.env (eval o X.env)=eval o X.env
 GJ:((backTo aO<|starEach [e,f] X.env).all (λx=>!x.1)&&(backToKw aO<|keywordEach [] X.env).all (λx=>x.1.isSome)
  && decide (([e,f]:List Expr).length+([]:List Keyword).length+(if ([]:List Keyword).isEmpty then 0 else 1)<30))=true
 line:(apos.endLine==aO.line)=true
 trees:backTo aO (starEach [e,f] X.env)=[(false,eval e X.env),(false,eval f X.env)]
def R5(H:Hp)(a:Addr):Prop:=(∃kvs,Rd H a<|.dK kvs)\/∃kvs,Rd H a<|.dT kvs
theorem vq(I:Inv X pins σ H s)(d:R5 H a): s.TypeIs (.ref a) "dict"/\(∀b,Value.ref a=.ref b->∃ob,s.heap.get? b=some ob/\ob.dict=none)/\(a==sysModules)=false:=by rcases d with⟨kvs,e⟩|⟨kvs,e⟩;obtain⟨_,hd,vs,_,dd⟩:=oV I.aM e;refine{dd.typeIs,λb q=>?_,hd};cases q;obtain⟨ob,_,_,h1,h2,_⟩:=dd;exact⟨ob,h1,h2.2.1⟩;obtain⟨_,hd,xs,_,dd⟩:=ux I.aM e;refine{dd.typeIs,λb q=>?_,hd};cases q;obtain⟨ob,_,_,h1,h2,_⟩:=dd;exact⟨ob,h1,h2.2.1⟩
section
variable{X:Cx}{pins:List (Addr×Obj)}{σ:St}{H:Hp}{s:Shared}{a:Addr}{y d:V}{u r:Value}{o:Option V}{A:Around}{E:Value->Shared->Prop}
theorem PH(hu:A.units+1<cLine)(I:Inv X pins σ H s)(g:pY H a y o)(ry:RelV y u)(h:∀w' s',Inv X pins σ H s'->RelV (o.getD .av) w'->Q w' s'): wpAny (model X.prog X.w) A (call (.builtin "dict.get") [.ref a,u]) Q E s:=by rcases g with⟨kvs,k,e,ey,l⟩|⟨kvs,k,b,e,ey,eb,l⟩;subst ey;obtain⟨z,hd,vs,rel,dd⟩:=oV I.aM e;refine call_meetsIn yx dd.typeIs PySem.F.entry_dict_get (PySem.F.args_dict_get_2 _ _) (meets_dict_get (aH X.prog X.w) a (jt ry) hd) {_,dd.mapOf,h _ _ (I.tok _) ?_};rw[l];exact(rel.val k).getD rfl;subst ey;cases (show u=Value.ref b from ry);obtain⟨z,hd,xs,rel,dd⟩:=ux I.aM e;refine call_meetsIn yx dd.typeIs PySem.F.entry_dict_get (PySem.F.args_dict_get_2 _ _) (meetsH_dict_get (tupleKind<|aH X.prog X.w) a b hd) {tupleKind_room_in1 hu,k,xs,vn I.aM eb,dd,h _ _ (I.tok _) ?_};rw[l];exact(rel.val k).getD rfl
theorem PJ(hu:A.units+1<cLine)(I:Inv X pins σ H s)(g:pY H a y o)(ry:RelV y u)(rd:RelV d r)(h:∀w' s',Inv X pins σ H s'->RelV (o.getD d) w'->Q w' s'): wpAny (model X.prog X.w) A (call (.builtin "dict.get") [.ref a,u,r]) Q E s:=by rcases g with⟨kvs,k,e,ey,l⟩|⟨kvs,k,b,e,ey,eb,l⟩;subst ey;obtain⟨z,hd,vs,rel,dd⟩:=oV I.aM e;refine call_meetsIn yx dd.typeIs PySem.F.entry_dict_get (PySem.F.args_dict_get_3 _ _ _) (meets_dict_get_default (aH X.prog X.w) a (jt ry) hd r) {_,dd.mapOf,h _ _ (I.tok _) ?_};rw[l];exact(rel.val k).getD rd;subst ey;cases (show u=Value.ref b from ry);obtain⟨z,hd,xs,rel,dd⟩:=ux I.aM e;refine call_meetsIn yx dd.typeIs PySem.F.entry_dict_get (PySem.F.args_dict_get_3 _ _ _) (meetsH_dict_get_default (tupleKind<|aH X.prog X.w) a b hd r) {tupleKind_room_in1 hu,k,xs,vn I.aM eb,dd,h _ _ (I.tok _) ?_};rw[l];exact(rel.val k).getD rd
end
def PK(td ty:TE):TE:=λσ H Q=>td σ H λx H1=>∃a,x=.ref a/\R5 H1 a/\ty σ H1 λy H2=>∃o,pY H2 a y o/\Q (o.getD .av) H2
def PL(td ty tx:TE):TE:=λσ H Q=>td σ H λx H1=>∃a,x=.ref a/\R5 H1 a/\ty σ H1 λy H2=>tx σ H2 λz H3=>∃o,pY H3 a y o/\Q (o.getD z) H3
def PM(td ty:TE):TE:=λσ H Q=>td σ H λx H1=>∃a,x=.ref a/\R5 H1 a/\ty σ H1 λy H2=>∃kvs k v,H2 a=some (.dK kvs)/\y=kV k/\gs kvs k=some v/\Q v (upd H2 a<|.dK<|oU kvs k)
section
variable{X:Cx}{o e f:Expr}{apos aO:Pos}{td ty tx:TE}
theorem Hq(hu:X.A.units+1<cLine)(ho:PE X o td)(he:PE X e ty)(m:M1 X o "get" apos e aO):PE X (.Call (.Attribute o "get" apos) [e] [] aO) (PK td ty):=by intro pins s σ H Q I h;refine wpAny_Call_method m.base m.GJ m.line PySem.F.plainAttrs_dict yx PySem.F.type_dict_get<|br (ho pins s σ H _ I h) λu s1 ⟨x,H1,I1,rx,a,ex,d,q1⟩=>?_;subst ex;obtain rfl:u=Value.ref a:=rx;obtain⟨t1,t2,_⟩:=vq I1 d;refine{t1,t2,?_};rw[m.trees];refine Calls.callWith_builtin rfl<|Calls.evalArgs_plain<|yF<|br (he pins s1 σ H1 _ I1 q1) λiv s2 ⟨y,H2,I2,ry,ov,g,q2⟩=>Calls.spliced_nil ?_;exact PH hu I2 g ry λw' s3 I3 qQ=>{_,H2,I3,qQ,q2}
theorem Hr(hu:X.A.units+1<cLine)(ho:PE X o td)(he:PE X e ty)(hf:PE X f tx)(m:M2 X o "get" apos e f aO):PE X (.Call (.Attribute o "get" apos) [e,f] [] aO) (PL td ty tx):=by intro pins s σ H Q I h;refine wpAny_Call_method m.base m.GJ m.line PySem.F.plainAttrs_dict yx PySem.F.type_dict_get<|br (ho pins s σ H _ I h) λu s1 ⟨x,H1,I1,rx,a,ex,d,q1⟩=>?_;subst ex;obtain rfl:u=Value.ref a:=rx;obtain⟨t1,t2,_⟩:=vq I1 d;refine{t1,t2,?_};rw[m.trees];refine Calls.callWith_builtin rfl<|Calls.evalArgs_plain<|yF<|br (he pins s1 σ H1 _ I1 q1) λiv s2 ⟨y,H2,I2,ry,q2⟩=>yF<|br (hf pins s2 σ H2 _ I2 q2) λfv s3 ⟨z,H3,I3,rz,ov,g,q3⟩=>Calls.spliced_nil ?_;exact PJ hu I3 g ry rz λw' s4 I4 qQ=>{_,H3,I4,qQ,q3}
theorem Ht(ho:PE X o td)(he:PE X e ty)(m:M1 X o "pop" apos e aO):PE X (.Call (.Attribute o "pop" apos) [e] [] aO) (PM td ty):=by intro pins s σ H Q I h;refine wpAny_Call_method m.base m.GJ m.line PySem.F.plainAttrs_dict PySem.F.slot_dict_pop PySem.F.type_dict_pop<|br (ho pins s σ H _ I h) λu s1 ⟨x,H1,I1,rx,a,ex,d,q1⟩=>?_;subst ex;obtain rfl:u=Value.ref a:=rx;obtain⟨t1,t2,_⟩:=vq I1 d;refine{t1,t2,?_};rw[m.trees];refine Calls.callWith_builtin rfl<|Calls.evalArgs_plain<|yF<|br (he pins s1 σ H1 _ I1 q1) λiv s2 ⟨y,H2,I2,ry,kvs,k,v,ea,ey,l,q2⟩=>Calls.spliced_nil ?_;subst ey;exact TR I2 ea ry l (.inl rfl) λw' s3 I3 qQ=>{v,_,I3,qQ,q2}
end
end L2
namespace Att
open PySem PySem.W PySem.Calls PyProof.Rows
theorem pZ{P:Params} : ∀(ns:List Int)(vs:List Value),WellAll P h vs (ns.map WData.int)->IntsAre vs ns:=by intro ns;induction ns with|nil=>(intro vs w;rw[List.map_nil]at w;cases w;exact .nil)|cons n ns ih=>intro vs w;rw[zu]at w;cases w with|cons a b=>cases a;exact .cons _ _<|ih _ b
theorem Fh{l:OpenLaw}{n:Nat}(hn:l.most=some n){P:Params}{h:Heap}{args:List WData}{vals:List Value} (K3:l.row.toRowW.claim.pre args=true) (Yz:WellAll P h vals args): ∃a vs ns,vals=[Value.ref a]/\args=[WData.list<|ns.map WData.int]/\h.get? a=some {cls:=.type "list",data:=.seq vs.toArray}/\IntsAre vs ns/\ns.length<=n:=by
 have J3:WShape.hasAll [] args [.list .int]=true:=(pre_splitW K3).1;have hc:l.pre.holds [] {args:=args}=true:=(pre_splitW K3).2;obtain⟨d,r,rfl,h1,h2⟩:=hasAllW_cons J3;obtain rfl:=hasAllW_nil h2;obtain⟨xs,rfl,h3⟩:=hasW_list h1;obtain⟨ns,rfl⟩:=items_int h3;have hlen:ns.length<=n:=by unfold OpenLaw.pre at hc;have h4:(WTm.not<|.lt (.lit<|.int (n:Int))<|.len<|.arg 0).holds [] {args:=[.list<|ns.map .int]}=true:=(by have h4:=(holds_andW hc).1;rw[hn]at h4;exact h4);have h5:=condW_of h4<|w_not<|w_lt w_lit<|w_len_list<|w_arg rfl;rw[zb]at h5;refine Nat.le_of_not_lt λq=>?_;have q':(n:Int)<((ns.length:Nat):Int):=(by lia);first| (rw[zC q']at h5;exact absurd h5<|by decide)| (simp at h5;lia)
 cases Yz with|cons w1 w2=>cases w2;cases w1 with|list ho Ho=>exact{_,_,ns,rfl,rfl,ho,pZ ns _ Ho,hlen}
theorem Fi(l:OpenLaw)(args:List WData):l.row.toRowW.claim.post args (.bool true) args=true:=postW_of (r:=l.row.toRowW) (X:=(true==true)) (show WShape.has [] (.bool true) .bool=true by first|rfl|decide|simp[WShape.has,WShape.arms,WShape.armsAll]) (show(WTm.eq .res<|.lit<|.bool true).value [] {args:=args,res:=some<|.bool true,after:=args}=some (.bool<|true==true) from w_eq_bool (w_res rfl) w_lit) rfl
theorem xS{l:OpenLaw}{n:Nat}{q:Program}{loose:List Str}{XP:(Str->Option Value)->Heap->Prop}{YP:World->Heap->Prop}{d:DefRec} (hn:l.most=some n) (YA:d.params.defaults=[]) (call:∀(w:World)(dG bc:Shared)(mg mb:Str->Option Value)(fa:Addr)(o:Obj)(pm cd doc:Value)(a:Addr)(vs:List Value)(ns:List Int),Ground q loose [] XP w dG mg mb bc.heap->YP w bc.heap->bc.heap.get? fa=some o->o.data=.func (docDef d.name d.params d.body d.scope pm cd doc)->bc.heap.CodeRec cd d.name->mg d.name=some (.ref fa)->bc.heap.get? a=some {cls:=.type "list",data:=.seq vs.toArray}->IntsAre vs ns->ns.length<=n->bc.gens=#[]->codeAny (model l.prog w) callerA (.call (.ref fa) {[.ref a],[]}) (λr s'=>r=.ok (.ret<|.bool true)/\OldK bc.heap s'.heap/\s'.os=bc.os/\AllBare s'.gens) bc): WalkO q loose XP YP l.row.toRowW d [] (λf vs=>PySem.call f vs):=by intro w dG bc mg mb G Y fa o pm cd doc dV kV ho hd sZ hD PN hg args vals as K3 acC hrd Yz hlo;obtain rfl:dV=.none:=Dflts.none hD YA;obtain rfl:kV=.none:=Dflts.noKw hD;obtain⟨a,vs,ns,rfl,rfl,PQ,hints,hlen⟩:=Fh hn K3 Yz;refine enter_call<|yU (call w dG bc mg mb fa o pm cd doc a vs ns G Y ho (fd_plain hd) sZ PN PQ hints hlen hg) λr s' hq=>?_;obtain⟨rfl,h2,h3,h4⟩:=hq;exact{.inl {.bool true,.bool true,[],rfl,λ_=>rfl,.bool true,Fi l _,λ_=>{List.Pairwise.nil,λ_ hm=>(nomatch hm)}},h2,h3,h4}
end Att
namespace L2
open PySem PySem.Spec PyProof.Rows
theorem uy:∀{vs:List Value}{ns:List Int},IntsAre vs ns->Vals (ns.map V.int) vs|_,_,.nil=>.nil|_,_,.cons n t h=>.cons ⟨t,rfl⟩<|uy h
def inClass(s:Stmt)(j:Nat):Stmt:=match s with|.ClassDef _ _ _ body _ _ _ _ _ _ _=>body.getD j (.Pass {0,0,0,0})|_=>.Pass {0,0,0,0}
def aX(s:Stmt):Arguments:=match s with|.FunctionDef _ a _ _ _ _ _ _ _ _=>a|_=>{posonlyargs:=[],args:=[],vararg:=none,kwonlyargs:=[],kw_defaults:=[],kwarg:=none,defaults:=[]}
def aU(s:Stmt):List Stmt:=match s with|.FunctionDef _ _ b _ _ _ _ _ _ _=>b|_=>[]
def ae(s:Stmt):Scope:=match s with|.FunctionDef _ _ _ _ _ _ sc _ _ _=>sc|_=>{kind:=.function,names:=[],isGenerator:=false,isCoroutine:=false}
abbrev WZ:By:=λ_ _ _ _ _ _=>False
abbrev E0:XK:=λ_ _ _=>False
structure Fun(K:Frag)(x qual:Str)(st:Stmt)(f:Addr)(fd:FuncData):Prop where
 ex:∃(oc:Value)(od:Option Addr)(kV doc pm:Value)(an:Option Addr)(gY ct:Value)(Pp:Array (Option Value)),
  fd=fnOf x qual (aX st) (aU st) (ae st) .none kV doc pm an gY ct/\K.lookup f=some {oc,od,.func fd,Pp}/\codeIn K gY qual=true
 kp:keepIn K (.ref f)=true
theorem kj(h:n<=1000):n<sizeLine:=Nat.lt_of_le_of_lt h<|by decide
section
variable{X:Cx}
theorem Fj:fg X (.builtin "len") (λxs H Q=>∃a kvs,xs=[V.ref a]/\H a=some (.dK kvs)/\Q (.int kvs.length) H):=by intro pins s σ H xs us Q I r h;obtain⟨a,kvs,rfl,ha,q⟩:=h;obtain⟨u,rfl,ru⟩:=vals1 r;cases ru;exact TU I (.inl ha) λt s' I'=>{.int kvs.length,H,I',⟨t,rfl⟩,q}
end
theorem bh{A B:Prop}(h:B):if false=true then A else B:=by rw[if_neg zd];exact h
theorem dh{A B:Prop}(h:A):if true=true then A else B:=by rw[if_pos rfl];exact h
section
variable{κ:Type}[DecidableEq κ]
theorem mr:∀{l:List κ}{k:κ},l.Nodup->¬k∈l->(l++[k]).Nodup|[],k,_,_=>by simp|a::r,k,h,hk=>by obtain⟨h1,h2⟩:=yp.mp h;show(a::(r++[k])).Nodup;refine yp.mpr {λm=>?_,mr h2 λm=>hk<|zi.mpr<|Or.inr m};rcases zL.mp m with q|q;exact h1 q;exact hk<|zi.mpr<|Or.inl (zA.mp q).symm
end
end L2
set_option maxHeartbeats 4000000
namespace L2
open PySem PySem.Spec PyProof.Rows
section
variable{X:Cx}
noncomputable def GK(i j:Str):Bool:=!decide (j.cps.toList<i.cps.toList)
noncomputable def uz(i j:Str):Bool:=decide<|i.cps.toList<j.cps.toList
def YB(g:Str->Str->Bool):R2:=λx y H Q=>∃i j,x=.str i/\y=.str j/\Q (.bl<|g i j) H
theorem Fl:hG X (compareOp .LtE) (YB GK):=by intro pins s σ H x y v u Q I rx ry h;obtain⟨i,j,rfl,rfl,q⟩:=h;obtain⟨t,rfl⟩:=rx;obtain⟨t',rfl⟩:=ry;exact P.le_str<|aJ I q rfl
theorem Fm:hG X (compareOp .GtE) (YB λi j=>GK j i):=by intro pins s σ H x y v u Q I rx ry h;obtain⟨i,j,rfl,rfl,q⟩:=h;obtain⟨t,rfl⟩:=rx;obtain⟨t',rfl⟩:=ry;exact P.ge_str<|aJ I q rfl
theorem Fn:hG X (compareOp .Gt) (YB λi j=>uz j i):=by intro pins s σ H x y v u Q I rx ry h;obtain⟨i,j,rfl,rfl,q⟩:=h;obtain⟨t,rfl⟩:=rx;obtain⟨t',rfl⟩:=ry;exact P.gt_str<|aJ I q rfl
def NB(_ j:Int):Prop:=0<j/\j.natAbs.log2<9000
theorem Hu:hG X (binaryOp .FloorDiv) (rI NB λi j=>.int<|i/j):=WT λi j _ _ _ _ _ hc q=>by
 have hj:j≠0:=by have:=hc.1;omega
 exact floordiv_int hj (by rw[Int.fdiv_eq_ediv_of_nonneg _<|by have:=hc.1;omega];exact q)<|.inl<|PyProof.noPylong_of_log2 hc.2
end
noncomputable def YC(x:Str):It:={λi _=>i<x.cps.size,λi H v H'=>H'=H/\∃c,x.cps[i]?=some c/\v=.str ⟨#[c]⟩,λi _=>x.cps.size<=i}
theorem xT{P:Program}{w:World}{K:Frag}{tg:Expr}{T:String}(hT:["enumerate","zip","dict_itemiterator","dict_reverseitemiterator","odict_iterator","itertools.zip_longest","itertools.pairwise"].contains T=false)(it:Addr)(x:Str)(t:Tok)
  (W:∀A':Around,A'.handled=none->Walks P w A' it [it] [it] x.cps.size (SignAt x) (λi h=>h.IsStrIter it T x t i))
  (YD:∀(A:Around)(s:Shared)(E:Value->Shared->Prop)(i:Nat)(Q:Option Value->Shared->Prop),A.handled=none->s.heap.IsStrIter it T x t i->x.cps[i]?=none->(∀h',Heap.ExtBut it s.heap h'->Q none {s with heap:=h'})->wpAny (model P w) A (pyNext<|.ref it) Q E s)
  (T4:∀(A:Around)(s:Shared)(E:Value->Shared->Prop)(i:Nat)(Q:Value->Shared->Prop),s.heap.IsStrIter it T x t i->Q (.ref it) s->wpAny (model P w) A (pyIter<|.ref it) Q E s):
  Turn P w K tg (YC x) [it] it (λi h=>h.IsStrIter it T x t i) where
 mem:=by simp
 obj:=λi h st b hb=>by
  have e:b=it:=by simpa using hb
  subst e
  obtain⟨o,e,c,d⟩:=st
  exact{o,e,λv z=>by rw[d]at z;cases z}
 keep:=λi h h' st k=>by
  obtain⟨o,e,c,d⟩:=st
  exact{o,k it (by simp) o e,c,d}
 item:=by
  intro X hP hw hK hc i pins s σ H E I hf st hg
  subst hP hw hK
  obtain⟨f0,f1,f2,f3,f4,f5⟩:=hf it<|by simp
  refine(W X.A<|I.ok.hd hc).item i s _ _ hg st λv h' tk hv eZ kk=>?_
  obtain⟨c,u,K4,rfl⟩:=hv
  have I1:Inv X pins σ H {s with heap:=h',toks:=tk}:=I.turned (λb o hb e=>kk b o (by simpa using hb) e) f0 f1 f3 f4 f5
  obtain⟨o,e,c',d⟩:=id eZ
  exact{_,rfl,uj (s:={s with heap:=h',toks:=tk}) e c' d hT {.str ⟨#[c]⟩,H,I1,⟨u,rfl⟩,⟨rfl,c,K4,rfl⟩,eZ,λb hb=>(hf b hb).1}}
 done:=by
  intro X hP hw hK hc i pins s σ H E I hf st hg
  subst hP hw hK
  obtain⟨f0,f1,f2,f3,f4,f5⟩:=hf it<|by simp
  have hg:x.cps.size<=i:=hg
  exact YD X.A s E i _ (I.ok.hd hc) st (by simp;exact hg) λh' eb=>{rfl,I.turned (t':=s.toks) (λb o hb e=>eb b o hb e) f0 f1 f3 f4 f5}
 self:=λA' i s Q E st h=>T4 A' s E i Q st h
section
variable{X:Cx}{tg:Expr}
def YE(tl:TE):TI:=λσ H R=>tl σ H λx H1=>∃z,x=.str z/\R (YC z) H1
theorem PR(hl:PE X l tl):PI X tg l (YE tl):=by
 intro pins s σ H R I h;refine br (hl pins s σ H _ I h) λv s1 ⟨x,H1,I1,r1,q1⟩=>?_;obtain⟨z,e,q⟩:=q1;subst e;obtain⟨t,rfl⟩:=r1;have fin:∀(T:String)(_:Turn X.prog X.w X.K tg (YC z) [s1.heap.objs.size] s1.heap.objs.size (λi h=>h.IsStrIter s1.heap.objs.size T z t i)),X9 X pins σ tg R (.ref s1.heap.objs.size) {s1 with heap:=s1.heap.push {cls:=.type T,data:=.fields #[.str z t,.int 0 0]}}:=λT tn=>by refine{s1.heap.objs.size,[s1.heap.objs.size],_,_,H1,rfl,I1.kept (t':=s1.toks) λb o e=>za _ e,tn,{_,zk _ rfl,rfl,rfl},λb hb=>?_,q};have e:b=s1.heap.objs.size:=(by simpa using hb);subst e;exact I1.pU (zp _)<|I1.aM.fresh<|zp _
 cases ha:z.cps.all (·<128);exact wpAny_pyIter_wide ha<|fin _<|xT (by decide) _ z t (λA' hA=>Walks.strWide hA _ z t) (λA s E i Q hh st hx hQ=>wpAny_pyNext_wide_end hh st hx hQ) λA s E i Q st hq=>wpAny_pyIter_striter_wide st hq;exact wpAny_pyIter_ascii ha<|fin _<|xT (by decide) _ z t (λA' hA=>Walks.strAscii hA _ z t) (λA s E i Q hh st hx hQ=>wpAny_pyNext_ascii_end hh st hx hQ) λA s E i Q st hq=>wpAny_pyIter_striter_ascii st hq
end
noncomputable def clOf(cells:List<|Str×Addr)(names:List<|Str×NameKind):List (Str×Addr):=names.foldl (λcs p=>if p.2==.free then match cells.lookup p.1 with|some a=>(p.1,a)::cs|none=>cs else cs) []
theorem qX(cells:List<|Str×Addr):∀(names:List (Str×NameKind))(cs:List (Str×Addr)),(∀x c,cs.lookup x=some c->cells.lookup x=some c)->∀x c,(names.foldl (λcs p=>if p.2==.free then match cells.lookup p.1 with|some a=>(p.1,a)::cs|none=>cs else cs) cs).lookup x=some c->cells.lookup x=some c|[],cs,h=>h| (n,k)::r,cs,h=>by rw[yP];refine qX cells r _ λx c e=>?_;dsimp only at e;split at e;split at e;rename_i a ha;rw[yf]at e;split at e;rename_i hx;have:=LawfulBEq.eq_of_beq hx;cases e;rw[this];exact ha;exact h x c e;exact h x c e;exact h x c e
theorem uA(cells:List<|Str×Addr):∀(names:List (Str×NameKind))(cs:List (Str×Addr))(x:Str)(c:Addr),(∀y c,cs.lookup y=some c->cells.lookup y=some c)->cs.lookup x=some c->(names.foldl (λcs p=>if p.2==.free then match cells.lookup p.1 with|some a=>(p.1,a)::cs|none=>cs else cs) cs).lookup x=some c
 |[],cs,x,c,_,h=>h
 | (n,k)::r,cs,x,c,hs,h=>by
  rw[yP];have R6:∀y c,(if (k==NameKind.free)=true then match cells.lookup n with|some a=>(n,a)::cs|none=>cs else cs).lookup y=some c->cells.lookup y=some c:=by intro y c e;split at e;split at e;rename_i a ha;rw[yf]at e;split at e;rename_i hx;have:=LawfulBEq.eq_of_beq hx;cases e;rw[this];exact ha;exact hs y c e;exact hs y c e;exact hs y c e
  refine uA cells r _ x c R6 ?_;dsimp only;split;split;rename_i a ha;rw[yf];split;rename_i hx;have:=LawfulBEq.eq_of_beq hx;rw[this]at h;have:=hs _ _ h;rw[ha]at this;exact this;exact h;exact h;exact h
theorem jv(cells:List<|Str×Addr):∀(names:List (Str×NameKind))(cs:List (Str×Addr))(x:Str)(c:Addr),(∀y c,cs.lookup y=some c->cells.lookup y=some c)->(x,NameKind.free)∈names->cells.lookup x=some c->(names.foldl (λcs p=>if p.2==.free then match cells.lookup p.1 with|some a=>(p.1,a)::cs|none=>cs else cs) cs).lookup x=some c
 |[],cs,x,c,_,h,_=>nomatch h
 | (n,k)::r,cs,x,c,hs,h,hc=>by
  rw[yP];have R6:∀y c,(if (k==NameKind.free)=true then match cells.lookup n with|some a=>(n,a)::cs|none=>cs else cs).lookup y=some c->cells.lookup y=some c:=by intro y c e;split at e;split at e;rename_i a ha;rw[yf]at e;split at e;rename_i hx;have:=LawfulBEq.eq_of_beq hx;cases e;rw[this];exact ha;exact hs y c e;exact hs y c e;exact hs y c e
  rcases zi.mp h with e|h;cases e;refine uA cells r _ _ c R6 ?_;dsimp only;rw[if_pos<|show(NameKind.free==NameKind.free)=true by decide,hc];simp[yf];exact jv cells r _ x c R6 h hc
theorem gH{scope:Scope}{env:Env}(h:∀x∈scope.names,x.2=.free->∃c,env.cells.lookup x.1=some c):closureFor scope env=pure (clOf env.cells scope.names):=by
 have go:∀(names:List (Str×NameKind))(cs:List (Str×Addr)),(∀x∈names,x.2=.free->∃c,env.cells.lookup x.1=some c)->(forIn names cs λx r=>match x with|(name,kind)=>if (kind==NameKind.free)=true then do let a <-cellOf env name;pure (ForInStep.yield<|(name,a)::r) else pure (ForInStep.yield r):Sem (List<|Str×Addr))=pure (names.foldl (λcs p=>if p.2==.free then match env.cells.lookup p.1 with|some a=>(p.1,a)::cs|none=>cs else cs) cs):=by intro names;induction names with|nil=>intro cs _;rfl|cons p r ih=>intro cs hp;obtain⟨n,k⟩:=p;rw[List.forIn_cons,yP];by_cases hk:k=.free;subst hk;obtain⟨c,hc⟩:=hp _ zm rfl;have hc:env.cells.lookup n=some c:=hc;have e1:cellOf env n=pure c:=(by unfold cellOf;rw[hc]);have ef:(NameKind.free==NameKind.free)=true:=(by decide);dsimp only;rw[if_pos ef,if_pos ef,e1,hc];exact ih _ λx hx=>hp x<|zh _ hx;have Hv:(k==NameKind.free)=false:=(by simpa using hk);dsimp only;rw[Hv,if_neg zd,if_neg zd];exact ih _ λx hx=>hp x<|zh _ hx
 have e:=go scope.names [] h;have e2:closureFor scope env=(forIn scope.names [] (λx r=>match x with|(name,kind)=>if (kind==NameKind.free)=true then do let a <-cellOf env name;pure (ForInStep.yield<|(name,a)::r) else pure (ForInStep.yield r)):Sem (List<|Str×Addr)) >>=λcs=>pure cs:=rfl;rw[e2,e];rfl
theorem jw{env:Env}{names:List<|Str×NameKind}{x:Str} : (names.map λ(n,k)=>if (k==NameKind.free&&env.scope.kind==.function&&env.kindOf n==some .cell) then (n,NameKind.cell) else (n,k)).lookup x=(names.lookup x).map λk=>if (k==NameKind.free&&env.scope.kind==.function&&env.kindOf x==some .cell) then NameKind.cell else k:=by induction names with|nil=>rfl|cons p r ih=>obtain⟨n,k⟩:=p;rw[zu,yf];by_cases hc:(k==NameKind.free&&env.scope.kind==.function&&env.kindOf n==some .cell)=true;dsimp only;rw[if_pos hc,yf];(cases hx:x==n with|true=>have:=LawfulBEq.eq_of_beq hx;subst this;dsimp only[Option.map];rw[if_pos hc]|false=>exact ih);dsimp only;rw[if_neg hc,yf];cases hx:x==n with|true=>have:=LawfulBEq.eq_of_beq hx;subst this;dsimp only[Option.map];rw[if_neg hc]|false=>exact ih
noncomputable def iY(X:Cx)(N:List Str)(scope:Scope)(C:Addr)(s:Shared)(H:Hp)(ex:List Addr)(pn:List<|Addr×Obj):Cx:={X with N:=N,dG:=s,vi:=H,env:=compEnvC scope (clOf X.env.cells scope.names) C X.env,outer:=X.stack,ex:=ex,fn:=λ_=>false,pn:=pn,xe:=λ_ _=>False}
noncomputable def pick(σ:St)(src:List<|Option Nat):St:=src.map λo=>match o with|some j=>(σ[j]?).join|none=>none
structure bM(X:Cx)(N:List Str)(src:List (Option Nat))(scope:Scope):Prop where
 kind:scope.kind=.function
 gI:∀y∈scope.names,y.2≠.cell
 loc:∀y∈scope.names,y.2=.local->scope.names.lookup y.1=some .local
 Ba:∀y∈scope.names,y.2=.free->X.env.kindOf y.1=some .cell\/X.env.kindOf y.1=some .free
 len:src.length=N.length
 src:∀(i j:Nat)(x:Str),src[i]?=some (some j)->N[i]?=some x->X.N[j]?=some x/\scope.names.lookup x=some .free/\OL X.env.scope x
def Ext(σ aG:St):Prop:=aG.length=σ.length/\∀(j:Nat) v,σ[j]?=some (some v)->aG[j]?=some (some v)
def BF(g:TG)(src:List<|Option Nat):Prop:=∀x σ H Q,g x (pick σ src) H Q->g x (pick σ src) H λaG H'=>Ext (pick σ src) aG/\Q aG H'
def Hw(wi:TI)(src:List<|Option Nat)(g:TG)(tc:TT)(te:TE):TE:=λσ H Q=>wi σ H λJ H1=>∃W:Nat->Nat->List V->Hp->Prop,(∃m,W 0 m [] H1)/\∀i m out H',W i m out H'->(J.stop i H'/\∀D,H' D=none->Q (.ref D) (upd H' D<|.lst out))\/(J.go i H'/\out.length<sizeLine/\∀x H2,J.Tc i H' x H2->g x (pick σ src) H2 λgq H3=>tc gq H3 λb H4=>if b=true then te gq H4 λv H5=>∃m',m'<m/\W (i+1) m' (out++[v]) H5 else ∃m',m'<m/\W (i+1) m' out H4)
section
variable{X:Cx}{N:List Str}{src:List (Option Nat)}{scope:Scope}{tg iter elt:Expr}{ifs:List Expr}{pos:Pos}{wi:TI}{g:TG}{tc:TT}{te:TE}
def R7(X:Cx)(ifs:List Expr)(t:TT):Prop:=∀(pins:List (Addr×Obj))(s:Shared)(σ:St)(H:Hp)(Q:Bool->Hp->Prop),Inv X pins σ H s->t σ H Q->wpAny (model X.prog X.w) X.A (forIn ifs true λc r=>if r=true then do let ok <-isTrue c X.env (eval c X.env);pure (ForInStep.yield ok) else pure (ForInStep.yield r)) (TP X pins σ Q) X.xe s
def T5:TT:=λ_ H Q=>Q true H
theorem K5:R7 X [] T5:=λpins s σ H Q I h=>wpAny_tests_nil ⟨H,I,h⟩
theorem K6{t:TT}(h:PT X c t):R7 X [c] t:=λpins s σ H Q I hw=>wpAny_tests_one<|h pins s σ H Q I hw
theorem kH(R8:∀x s',EE x s'->notedBy (model prog w) A env (λe s'=>R (.error e) s') x s')(I:Nat->Shared->Prop)
  (turn:∀n s,I n s->wpAny (model prog w) A (pyNext it) (λr bc=>match r with
   |none=>R (.ok .next) bc
   |some v=>wpAny (model prog w) A (letOwnedTupleGo target it v) (λ_ NC=>wpAny (model prog w) A (assign target env v) (λ_ bU =>
     wpAny (model prog w) A (forIn ifs true λc r=>if r=true then do let ok <-isTrue c env (eval c env);pure (ForInStep.yield ok) else pure (ForInStep.yield r)) (λok Bn =>
      if ok=true then wpAny (model prog w) A (eval elt env) (λx xU =>
       wpAny (model prog w) A (call (.builtin "list.append") [acc,x]) (λ_ T6=>∃m,m<n/\I m T6) EE xU) EE Bn
      else ∃m,m<n/\I m Bn) EE bU) EE NC) EE bc) EE s)
  (n:Nat) (h:I n s):
  codeAny (model prog w) A (.compLoop (.ListComp elt [{target,iter,ifs,0}] scope pos) 0 it acc env) R s:=by
 refine codeAny_loop rfl I (λn s hI=>?_) n h
 show wpAny _ A ((compTurn (.ListComp elt [{target,iter,ifs,0}] scope pos) 0 it acc env).onRaise λx=>do noteFrame x env;theTreesLotGoes x) _ _ s
 refine wpAny_noted ?_
 rw[compTurn_list]
 refine zc<|wpAny_standAt<|zc<|yH (turn n s hI) (λr bc h₁=>?_) R8
 cases r with
 |none=>exact zD h₁
 |some v =>
  refine zc<|yH h₁ (λ_ NC T7=>?_) R8
  refine zc<|yH T7 (λ_ bU YF=>zc<|yH YF (λok Bn T8=>?_) R8) R8
  cases ok with
  |false=>exact zD ⟨rfl,T8⟩
  |true =>
   exact zc<|zc<|yH T8 (λx xU YG=>zc<|yH YG (λ_ T6 YH=>zD<|zD ⟨rfl,YH⟩) R8) R8
def CompEnd(X:Cx)(pins:List<|Addr×Obj)(σ:St)(Q:VK)(D C:Addr)(s':Shared):Prop:=∃H' m,Inv X pins σ H' s'/\Q (.ref D) H'/\s'.heap.Ns C m/\H' C=none/\C≠X.env.locals/\X.dG.heap.objs.size<=C/\(∀x c,X.env.cells.lookup x=some c->c≠C)/\(∀p∈X.pn++pins,p.1≠C)
theorem uB{pins:List<|Addr×Obj}{bU:Shared}{σ:St}{jg:Hp}{Q:VK}{it:Addr}{fp:List Addr}{tn:Nat->Heap->Prop}{J:It}{E:Value->Shared->Prop}(S:bM X N src scope)(hc:X.calm=true) (hg:∀C s H ex pn,PG (iY X N scope C s H ex pn) tg g) (hx:BF g src) (hi:∀C s H ex pn,R7 (iY X N scope C s H ex pn) ifs tc) (he:∀C s H ex pn,PE (iY X N scope C s H ex pn) elt te) (I:Inv X pins σ jg bU) (T:Turn X.prog X.w X.K tg J fp it tn) (st:tn 0 bU.heap) (ff:∀b∈fp,tH X pins jg b) (W:Nat->Nat->List V->Hp->Prop) (w0:∃m,W 0 m [] jg) (turn:∀i m out H',W i m out H'->(J.stop i H'/\∀D,H' D=none->Q (.ref D) (upd H' D<|.lst out))\/(J.go i H'/\out.length<sizeLine/\∀x H2,J.Tc i H' x H2->g x (pick σ src) H2 λgq H3=>tc gq H3 λb H4=>if b=true then te gq H4 λv H5=>∃m',m'<m/\W (i+1) m' (out++[v]) H5 else ∃m',m'<m/\W (i+1) m' out H4)) {RR:Value->Addr->Result->Shared->Prop} (hRR:∀D C s',CompEnd X pins σ Q D C s'->RR (.ref D) C (.ok .next) s'): wpAny (model X.prog X.w) X.A (newList []) (λacc Bn=>wpAny (model X.prog X.w) X.A (newFunctionEnv scope X.env.globals (clOf X.env.cells scope.names) [] X.env.qual none .none<|some X.env) (λT9 xU=>codeAny (model X.prog X.w) X.A (.compStart (.ListComp elt [{tg,iter,ifs,0}] scope pos) 0 (.ref it) acc {T9 with scope:=relabel scope X.env}) (RR acc T9.locals) xU) E Bn) E bU:=by
 refine yI<|wpAny_newFunctionEnv S.gI (by intro y hy;simp at hy) (λh₁ vt qY=>?_) S.kind;dsimp only at vt qY⊢;generalize YI:bU.heap.push {cls:=.type "list",dict:=none,data:=.seq ([]:List Value).toArray}=G2 at vt qY⊢;have hC:G2.objs.size=bU.heap.objs.size+1:=by rw[<-YI,yb]
 have R9:bU.heap.objs.size≠G2.objs.size:=by rw[hC];exact zE<|Nat.lt_succ_self _
 have K7:bU.heap.objs.size<=G2.objs.size:=by rw[hC];exact yT _
 have old:∀b o,bU.heap.get? b=some o->h₁.get? b=some o:=λb o e=>qY.extBut b o (zE<|zr (zw e) K7)<|za _<|YI ▸ za _ e;have qZ:h₁.get? bU.heap.objs.size=some {cls:=.type "list",dict:=none,data:=.seq ([]:List Value).toArray}:=qY.extBut _ _ R9<|za _<|YI ▸ zk _ rfl;generalize hCC:G2.objs.size=C at hC R9 K7 vt qY⊢;have mw:bU.heap.objs.size<=C:=K7;generalize hD:bU.heap.objs.size=D at hC R9 K7 qZ⊢;have iZ:∀x c,(clOf X.env.cells scope.names).lookup x=some c->X.env.cells.lookup x=some c:=qX X.env.cells scope.names [] (by intro x c h;simp at h);have Hx:∀x c,X.env.cells.lookup x=some c->c<bU.heap.objs.size:=λx c e=>by obtain⟨v,q⟩:=I.cell x c e;exact q.lt
 have PU:∀b∈fp,b<bU.heap.objs.size:=λb hb=>by obtain⟨o,e,_⟩:=T.obj _ _ st b hb;exact zw e
 have ok:(iY X N scope C bU jg fp<|X.pn++pins).Ok:=by refine{I.ok.mod,S.kind,I.ok.glob,I.ok.blt,mw,λx y c h1 h2=>I.ok.inj x y c (iZ _ _ h1)<|iZ _ _ h2,λx hk=>?_,λx c h=>(nomatch h),I.ok.hd,I.ok.frames,.inl rfl,λb hb=>{?_,λx c h=>?_},I.bs,zO I.ok.Km I.sz,λb o e hb=>?_,λb hb hf=>?_,I.stack,I.ql};have hk:(relabel scope X.env).names.lookup x=some .cell\/(relabel scope X.env).names.lookup x=some .free:=hk;unfold relabel at hk;dsimp only at hk;rw[jw]at hk;(cases hl:scope.names.lookup x with|none=>(rw[hl]at hk;rcases hk with z|z<;>cases z)|some k=>rw[hl]at hk;have hm:=ym hl;have T_:k=.free:=(by by_cases T_:k=.free;exact T_;exfalso;have e1:(k==NameKind.free)=false:=(by simpa using T_);simp only[Option.map,e1,zX,Bool.false_eq_true,if_false]at hk;rcases hk with z|z;exact S.gI _ hm<|zU z;exact T_<|zU z);subst T_;obtain⟨c,K4⟩:=I.ok.has x<|S.Ba _ hm rfl;exact{c,jv X.env.cells scope.names [] x c (by intro x c h;simp at h) hm K4});exact zE<|zr (PU b hb) mw;exact(ff b hb).2.2.2.2.1 x c<|iZ _ _ h;have q:b∈X.ex\/X.dG.heap.objs.size<=b:=(ff b hb).2.2.2.1;rcases q with q|q;exact I.ok.OM b o e q;exact absurd (zr (zw e)<|zO I.ok.Km q)<|yA _;rcases zi.mp (I.nI b hf) with z|z;exact(ff b hb).2.1 z;exact(ff b hb).2.2.1 z
 have Ua:∀p∈X.pn++pins,p.1∉nH X.stack:=λp hp z=>by obtain⟨_,_,ne,nf,_⟩:=I.pin p hp;rcases zi.mp (I.nI _ z) with q|q;exact ne q;exact nf q
 have Hy:∀p∈X.pn++pins,p.1<bU.heap.objs.size:=λp hp=>zw (I.pin p hp).1;have Ub:∀b∈nH X.stack,b<bU.heap.objs.size:=λb hb=>by rcases zi.mp (I.nI b hb) with z|z;rw[z];exact I.lt;obtain⟨_,o,ho,_⟩:=I.ok.pT.mem z;exact zr (zw ho) I.sz
 have YJ:∀(i:Nat)(x:Str)(v:V),N[i]?=some x->(pick σ src)[i]?=some (some v)->∃u c,RelV v u/\(clOf X.env.cells scope.names).lookup x=some c/\bU.heap.IsCell c (some u)/\scope.names.lookup x=some .free:=λi x v e1 e2=>by unfold pick at e2;rw[zf]at e2;cases es:src[i]? with|none=>(rw[es]at e2;cases e2)|some o=>rw[es]at e2;cases o with|none=>(cases e2)|some j=>have e3:(σ[j]?).join=some v:=zU e2;have e4:σ[j]?=some (some v):=(by cases q:σ[j]? with|none=>(rw[q]at e3;cases e3)|some z=>rw[q]at e3;exact congrArg some e3);obtain⟨a1,a2,a3⟩:=S.src i j x es e1;obtain⟨m0,_,hl⟩:=I.loc;obtain⟨u,r,l⟩:=hl j x v a1 e4 a3;have hm:=ym a2;have hk:=S.Ba _ hm rfl;rcases l with⟨k,_⟩|⟨_,c,K4,z⟩;rcases hk with hk|hk<;>(rw[k]at hk;cases hk);exact{u,c,r,jv X.env.cells scope.names [] x c (by intro x c h;simp at h) hm K4,z,a2}
 have kinds:∀x,scope.names.lookup x=some .free->(compEnvC scope (clOf X.env.cells scope.names) C X.env).kindOf x=some .cell\/(compEnvC scope (clOf X.env.cells scope.names) C X.env).kindOf x=some .free:=λx hx=>by show(relabel scope X.env).names.lookup x=some .cell\/(relabel scope X.env).names.lookup x=some .free;unfold relabel;dsimp only;rw[jw,hx];dsimp only[Option.map];split;exact .inl rfl;exact .inr rfl
 have Ic:Inv (iY X N scope C bU jg fp<|X.pn++pins) [] (pick σ src) jg {bU with heap:=h₁,toks:=bU.toks+([]:List (Str×Value)).length}:=by refine{ok,rfl,I.bare,Un.kept old,{_,vt,λi x v e1 e2 e3=>?_},λx c e=>?_,I.aM.fresh mw,λx c e=>I.gv x c<|iZ x c e,λp hp=>?_,I.aM.kept old,?_};obtain⟨u,c,r,e5,⟨o,ho,hd⟩,hf⟩:=YJ i x v e1 e2;exact{u,r,.inr {kinds x hf,c,e5,{o,old _ _ ho,hd}}};obtain⟨v,o,ho,hd⟩:=I.cell x c<|iZ x c e;exact{v,o,old _ _ ho,hd};have hp:p∈X.pn++pins:=(by simpa [iY]using hp);obtain⟨e,n,_,_,d⟩:=I.pin p hp;exact{old _ _ e,n,zE<|zr (Hy p hp) mw,Ua p hp,d};show(pick σ src).length=N.length;unfold pick;rw[zb,S.len]
 have xV:bU.heap.objs.size<=D:=Nat.le_of_eq hD;have PX:D∉nH X.stack:=λz=>absurd (zr (Ub D z) xV)<|yA _;have ND:D∉fp:=λz=>absurd (zr (PU D z) xV)<|yA _;have pU:∀{pl:List (Addr×Obj)}{H':Hp},(∀b∈fp,H' b=none)->(∀p∈pl,p.1∉fp)->∀b∈fp,tH (iY X N scope C bU jg fp<|X.pn++pins) pl H' b:=λ{pl H'} hn dO b hb=>by obtain⟨f0,f1,f2,f3,f4,f5⟩:=ff b hb;refine{hn b hb,zE<|zr (PU b hb) mw,λz=>?_,.inl hb,λx c e=>f4 x c<|iZ x c e,λp hp=>?_};rcases zi.mp (I.nI b z) with q|q;exact f1 q;exact f2 q;have hp:p∈(X.pn++pins)++pl:=hp;rcases zL.mp hp with hp|hp;exact f5 p hp;exact λz=>dO p hp<|z ▸ hb
 have back:∀{s':Shared}{H':Hp}{out:List V}{ay:List Value}{nn:Nat}{aG:St},Inv (iY X N scope C bU jg fp<|X.pn++pins) [] aG H' s'->H' D=none->out.length<=sizeLine->Vals out ay->s'.heap.get? D=some {cls:=.type "list",data:=.seq ay.toArray nn}->(∀D,H' D=none->Q (.ref D) (upd H' D<|.lst out))->CompEnd X pins σ Q D C s':=λ{s' H' out ay nn aG} I' hn hl hv ho q=>by obtain⟨m,hm,_⟩:=I'.loc;have un:Un (nH X.stack) fp jg H' bU.heap s'.heap:=I'.base;have neD:∀b o,bU.heap.get? b=some o->b≠D:=λb o e=>zE<|zr (zw e) xV;have fD:jg D=none:=I.aM.fresh xV;refine{upd H' D<|.lst out,m,?_,q D hn,hm,by rw[aw<|Ne.symm R9];exact I'.free,yo<|zr I.lt mw,zO I.sz mw,λx c e=>zE<|zr (Hx x c e) mw,λp hp=>zE<|zr (Hy p hp) mw};refine I.SS (ch:=fp) I'.os {un.keep,un.slot,λb o e n hb=>?_,un.there,λb xs e=>?_,λb o u e=>?_,λb ps e=>?_} (λb o e=>?_) I'.bare λb hb=>?_;rw[aw<|neD b o e];exact un.free b o e n hb;rw[aw<|aF e fD];exact un.mj b xs e;rw[aw<|aF e fD];exact un.lM b o u e;rw[aw<|aF e fD];exact un.lN b ps e;by_cases hb:b=D;subst hb;rw[aE]at e;cases e;exact⟨hl,ay,nn,hv,ho⟩;rw[aw hb]at e;refine(I'.aM b o e).pS (λc v _ q=>q) (λc q=>?_) λc xs q=>?_;rw[aw<|aF q hn];exact q;rw[aw<|aF q hn];exact q;obtain⟨f0,f1,f2,f3,f4,f5⟩:=ff b hb;exact⟨f3,f1,f4,f5⟩
 obtain⟨m0,w0⟩:=w0;have loop:∀xU:Shared,xU={bU with heap:=h₁,toks:=bU.toks+([]:List (Str×Value)).length}->codeAny (model X.prog X.w) X.A (.compLoop (.ListComp elt [{tg,iter,ifs,0}] scope pos) 0 (.ref it) (.ref D)<|compEnvC scope (clOf X.env.cells scope.names) C X.env) (RR (.ref D) C) xU:=by rintro xU rfl;refine kH (EE:=λ_ _=>False) (λ_ _ f=>f.elim) (λn s'=>∃i out ay nn H',Inv (iY X N scope C bU jg fp<|X.pn++pins) [] (pick σ src) H' s'/\H' D=none/\out.length<=sizeLine/\Vals out ay/\s'.heap.get? D=some {cls:=.type "list",data:=.seq ay.toArray nn}/\tn i s'.heap/\(∀b∈fp,H' b=none)/\W i n out H') ?_ m0 {0,[],[],0,jg,Ic,I.aM.fresh xV,zT _,.nil,qZ,T.keep _ _ _ st λb hb o e=>old b o e,λb hb=>(ff b hb).1,w0};rintro n s3 ⟨i,out,ay,nn,H3,I3,hD3,YK,W0,ho3,Nt,Tf,w3⟩;have PY:∀(ay:List Value) (nn:Nat) (v:Option Value),({cls:=.type "list",data:=.seq ay.toArray nn} : Obj).data≠.cell v:=λ_ _ _ z=>nomatch z;have I3p:Inv (iY X N scope C bU jg fp<|X.pn++pins) [(D,{cls:=.type "list",data:=.seq ay.toArray nn})] (pick σ src) H3 s3:=I3.ml λp hp=>(by have e:p=(D,{cls:=.type "list",data:=.seq ay.toArray nn}):=(by simpa using hp);subst e;exact{ho3,hD3,R9,PX,PY ay nn});have YL:∀p∈[((D,{cls:=.type "list",data:=.seq ay.toArray nn}):Addr×Obj)],p.1∉fp:=λp hp=>(by have e:p=(D,{cls:=.type "list",data:=.seq ay.toArray nn}):=(by simpa using hp);subst e;exact ND);rcases turn i n out H3 w3 with⟨stop,qn⟩|⟨go,eC,step⟩;refine br (T.done (iY X N scope C bU jg fp<|X.pn++pins) rfl rfl rfl hc i _ s3 _ H3 _ I3p (pU Tf YL) Nt stop) λr s4 ⟨hr,I4⟩=>?_;subst hr;have p4:=(I4.pin (D,{cls:=.type "list",data:=.seq ay.toArray nn})<|zI _<|by simp).1;exact hRR D C s4<|back (I4.ml (pins':=[]) λp hp=>nomatch hp) hD3 YK W0 p4 qn;refine br (T.item (iY X N scope C bU jg fp<|X.pn++pins) rfl rfl rfl hc i _ s3 _ H3 _ I3p (pU Tf YL) Nt go) λr s4 ⟨u,hr,h4⟩=>?_;subst hr;refine br h4 λ_ s5 ⟨x,H5,I5,r5,y5,J1,fr5⟩=>?_;have Yb:=I5.pinned (pU fr5 YL)<|T.obj _ _ J1;refine br (hg _ _ _ _ _ _ s5 _ H5 x u _ Yb r5<|hx x σ H5 _<|step x H5 y5) λ_ s6 ⟨Th,H6,I6,e6,q6⟩=>?_;have fin:∀{s7:Shared}{H7:Hp},Inv (iY X N scope C bU jg fp<|X.pn++pins) ([(D,{cls:=.type "list",data:=.seq ay.toArray nn})]++qL fp s5.heap) Th H7 s7->Inv (iY X N scope C bU jg fp<|X.pn++pins) [] (pick σ src) H7 s7/\H7 D=none/\s7.heap.get? D=some {cls:=.type "list",data:=.seq ay.toArray nn}/\tn (i+1) s7.heap/\∀b∈fp,H7 b=none:=λ{s7 H7} I7=>(by have pD:=I7.pin (D,{cls:=.type "list",data:=.seq ay.toArray nn})<|zI _ (by simp);refine{(I7.ml (pins':=[]) λp hp=>nomatch hp).weak e6.1.symm e6.2,pD.2.1,pD.1,T.keep _ _ _ J1 λb hb o e=>(I7.pin (b,o)<|zI _<|zI _<|iD hb e).1,λb hb=>?_};obtain⟨o,e,d⟩:=T.obj _ _ J1 b hb;exact(I7.pin (b,o)<|zI _<|zI _<|iD hb e).2.1);refine br (hi _ _ _ _ _ _ s6 Th H6 _ I6 q6) λb s7 ⟨H7,I7,q7⟩=>?_;cases b with|false=>(rw[if_neg zd]at q7⊢;obtain⟨m',hm,w7⟩:=q7;obtain⟨J7,d7,o7,t7,f7⟩:=fin I7;exact{m',hm,i+1,out,ay,nn,H7,J7,d7,YK,W0,o7,t7,f7,w7})|true=>rw[if_pos rfl]at q7⊢;refine br (he _ _ _ _ _ _ s7 Th H7 _ I7 q7) λv s8 ⟨y,H8,I8,r8,m',hm,w8⟩=>?_;obtain⟨J8,d8,o8,t8,f8⟩:=fin I8;have hsz:ay.toArray.size<=sizeLine:=(by rw[zq,<-W0.length];exact YK);refine wpAny_list_append_plain (items:=ay.toArray) (hsz:=hsz) ⟨nn,o8⟩ λh9 ⟨n9,e9⟩ sb=>?_;have J9:Inv (iY X N scope C bU jg fp<|X.pn++pins) [] (pick σ src) H8 {s8 with heap:=h9}:=J8.turned (t':=s8.toks) (it:=D) (λb o hb e=>(sb.2 b hb).trans e) d8 R9 (.inr xV) (λx c e=>zE<|zr (Hx x c<|iZ x c e) xV) λp hp=>(by have hp:p∈X.pn++pins:=(by simpa [iY]using hp);exact zE<|zr (Hy p hp) xV);refine{m',hm,i+1,out++[y],ay++[v],n9,H8,J9,d8,?_,W0.append<|.cons r8 .nil,?_,T.keep _ _ _ t8 λb hb o e=>(sb.2 b λz=>ND<|z ▸ hb).trans e,f8,w8};rw[zx];exact eC;rw[e9];simp
 exact codeAny_compStart_list (loop _ rfl)<|T.self _ _ _ _ _ (T.keep _ _ _ st λb hb o e=>old b o e)<|loop _ rfl
theorem K8(S:bM X N src scope)(hc:X.calm=true)(hit:PI X tg iter wi) (hg:∀C s H ex pn,PG (iY X N scope C s H ex pn) tg g) (hx:BF g src) (hi:∀C s H ex pn,R7 (iY X N scope C s H ex pn) ifs tc) (he:∀C s H ex pn,PE (iY X N scope C s H ex pn) elt te) (hs:autoParam (∀x,foldedSetIterable iter X.env x=pure x) qQ0):PE X (.ListComp elt [{tg,iter,ifs,0}] scope pos) (Hw wi src g tc te):=by intro pins s σ H Q I h;rw[eval_ListComp];have BG:closureFor scope X.env=pure (clOf X.env.cells scope.names):=gH λy hy hf=>I.ok.has y.1<|S.Ba y hy hf;refine wpAny_comprehension_free (use:=none) rfl hs BG S.kind S.loc<|br (hit pins s σ H _ I h) λv s1 h1=>br h1 λWR s2 h2=>?_;obtain⟨it,fp,tn,J,H2,e,I2,T,Nr,f2,W,w0,turn⟩:=h2;subst e;refine uB (RR:=λacc C=>compPost (model X.prog X.w) X.A X.xe none (EP X pins σ Q) acc C) S hc hg hx hi he I2 T Nr f2 W w0 turn λD C s' ⟨H',m,I',q,hm,hn,h1,h2,h3,h4⟩=>?_;exact{m,hm,λh' sb=>{.ref D,H',I'.turned (t':=s'.toks) (it:=C) (λb o hb e=>(sb.2 b hb).trans e) hn h1 (.inr h2) h3 h4,rfl,q}}
theorem BH{i:Nat}{x:Str}{pos' K9:Pos}(hN:X.N.Nodup)(YM:X.N[i]?=some x)(BI:X.env.scope.names.lookup x=some .local) (S:bM X N src scope) (hc:X.calm=true) (hit:PI X tg iter wi) (hg:∀C s H ex pn,PG (iY X N scope C s H ex pn) tg g) (hx:BF g src) (hi:∀C s H ex pn,R7 (iY X N scope C s H ex pn) ifs tc) (he:∀C s H ex pn,PE (iY X N scope C s H ex pn) elt te) (YN:autoParam (swapsWith (.ListComp elt [{tg,iter,ifs,0}] scope pos) (some<|.Name x pos') K9.line X.env=pure true) qQJ) (hs:autoParam (∀x,foldedSetIterable iter X.env x=pure x) qQ0):PS X (.Assign [.Name x pos'] (.ListComp elt [{tg,iter,ifs,0}] scope pos) K9) (O4 (Hw wi src g tc te)<|iX i):=by
 intro pins s σ H D I h;rw[exec_Assign_Name_used _ _ _ _ YN];refine zc<|wpAny_standAt<|zc ?_;have BG:closureFor scope X.env=pure (clOf X.env.cells scope.names):=gH λy hy hf=>I.ok.has y.1<|S.Ba y hy hf;show wpAny _ X.A (do let _ <-comprehension (.ListComp elt [⟨tg,iter,ifs,0⟩] scope pos) scope X.env _ (newList []) false (eval iter X.env) (some (assign (.Name x pos') X.env))) _ _ s;refine zc<|yH (wpAny_comprehension_free (use:=some<|assign (.Name x pos') X.env) (Q:=λ_ s'=>∃aG H',Inv X pins aG H' s'/\D.nx aG H') rfl hs BG S.kind S.loc<|br (hit pins s σ H _ I h) λv s1 h1=>br h1 λWR s2 h2=>?_) (λ_ s' hq=>zD<|zD hq) λ_ _ e=>e;obtain⟨it,fp,tn,J,H2,e,I2,T,Nr,f2,W,w0,turn⟩:=h2;subst e;refine uB (Q:=λv H1=>D.nx (σ.set i<|some v) H1) (RR:=λacc C=>compPost (model X.prog X.w) X.A X.xe (some<|assign (.Name x pos') X.env) (λ_ s'=>∃aG H',Inv X pins aG H' s'/\D.nx aG H') acc C) S hc hg hx hi he I2 T Nr f2 W w0 turn λD' C s' ⟨H',m,I',q,hm,hn,h1,h2,h3,h4⟩=>?_;show wpAny _ X.A (assign (.Name x pos') X.env<|.ref D') _ _ _;refine wpAny_assign_Name<|ui I' hN YM (.inl BI) (v:=.ref D') rfl (λBz I'' ⟨a,sb,ha⟩=>?_)<|.inr BI;have hCa:C≠a:=by rcases ha with ha|ha;rw[ha];exact h1;exact Ne.symm<|h3 _ _ ha
 refine{m,hm.sameBut sb hCa,λh'' J4=>{_,H',I''.turned (t':=Bz.toks) (it:=C) (λb o hb e=>(J4.2 b hb).trans e) hn h1 (.inr h2) h3 h4,q}}
end
theorem nO{σ:St}{src:List<|Option Nat}{i:Nat}(h:src[i]?=some none):(pick σ src)[i]?=some none:=by unfold pick;rw[zf,h];rfl
theorem Ext.set(h:σ0[i]?=some none)(e:Ext σ0 σ):Ext σ0 (σ.set i<|some v):=by
 refine{by rw[List.length_set];exact e.1,λj w hj=>?_};have:i≠j:=by rintro rfl;rw[h]at hj;cases hj
 rw[yk this];exact e.2 j w hj
theorem Ext.refl(σ:St):Ext σ σ:={rfl,λ_ _ h=>h}
theorem a_{src:List<|Option Nat}{i:Nat}(h:src[i]?=some none):BF (iX i) src:=λx σ H Q q=>{(Ext.refl _).set<|nO h,q}
theorem vA{K:Frag}{n:Nat}{src:List<|Option Nat}{i j:Nat}(h:src[i]?=some none)(h':src[j]?=some none):BF (Kv K n<|qI (iX i)<|qI (iX j) Ku) src:=λx σ H Q q=>by obtain⟨a,xs,e1,hs,hl,v,r,e2,v2,r2,e3,e4,q⟩:=q;exact{a,xs,e1,hs,hl,v,r,e2,v2,r2,e3,e4,((Ext.refl _).set<|nO h).set<|nO h',q}
theorem all_bools{xs:List V}{ay:List Value}{bs:List Bool}(hv:Vals xs ay)(hb:xs=bs.map V.bl):∀(i:Nat)(v:Value),ay.toArray[i]?=some v->v=Value.bool ((bs[i]?).getD false):=by
 subst hb;intro i v h;have h':ay[i]?=some v:=by simpa using h
 have hl:=hv.length;rw[zb]at hl;have hi:i<ay.length:=(ze.mp h').1;have hb:bs[i]?=some (bs[i]'(by lia)):=by simp
 obtain⟨u,hu,r⟩:=hv.get (i:=i) (x:=V.bl<|bs[i]'(by lia)) (by rw[zf,hb];rfl);rw[h']at hu;cases hu;rw[hb];exact r
theorem range_all{bs:List Bool} : (List.range bs.length).all (λi=>(bs[i]?).getD false)=bs.all id:=by rw[yE,yg,yg];constructor;intro h b hb;obtain⟨i,hi,rfl⟩:=List.mem_iff_getElem.mp hb;have:=h i<|zV.mpr hi;simpa [hi]using this;intro h i hi;have hi:=zV.mp hi;simpa [hi]using h _ (List.getElem_mem hi)
theorem range_any{bs:List Bool} : (List.range bs.length).any (λi=>(bs[i]?).getD false)=bs.any id:=by rw[yE,List.any_eq_true,List.any_eq_true];constructor;rintro⟨i,hi,h⟩;have hi:=zV.mp hi;exact{bs[i],List.getElem_mem hi,by simpa [hi]using h};rintro⟨b,hb,h⟩;obtain⟨i,hi,rfl⟩:=List.mem_iff_getElem.mp hb;exact{i,zV.mpr hi,by simpa [hi]using h}
section
variable{X:Cx}
theorem tJ(hc:X.calm=true):fg X (.builtin "all") (λxs H Q=>∃(a:Addr)(bs:List Bool),xs=[.ref a]/\kh X.K H a (bs.map V.bl)/\Q (.bl<|bs.all id) H):=by
 intro pins s σ H xs us Q I r h;obtain⟨a,bs,rfl,hq,q⟩:=h;obtain⟨u,rfl,ru⟩:=vals1 r;cases ru;obtain⟨ay,rv,p,hz⟩:=I.list hq;have hl:=rv.length;rw[zb]at hl;refine call_all_walk<|wpAny_pyIter_list p.isList ?_;refine{s.heap.objs.size,_,_,_,_,_,λi=>(bs[i]?).getD false,rfl,Walks.list (A:=X.A.in1) (I.ok.hd hc) s.heap.objs.size a (zE p.lt) ay.toArray,{{_,zk _ rfl,rfl,rfl},p.isList.at λo e=>za _ e},?_,λh' tk hk=>?_};intro i v s' Q' E' hv hQ;rw[all_bools rv rfl i v hv];exact yu hQ;have e:ay.toArray.size=bs.length:=by rw[zq,<-hl]
 rw[e,range_all];exact{.bl<|bs.all id,H,I.kept (h':=h') (t':=tk) λb o e=>hk b o (by simpa using zE (zw e))<|za _ e,rfl,q}
theorem tK(hc:X.calm=true):fg X (.builtin "any") (λxs H Q=>∃(a:Addr)(bs:List Bool),xs=[.ref a]/\kh X.K H a (bs.map V.bl)/\Q (.bl<|bs.any id) H):=by
 intro pins s σ H xs us Q I r h;obtain⟨a,bs,rfl,hq,q⟩:=h;obtain⟨u,rfl,ru⟩:=vals1 r;cases ru;obtain⟨ay,rv,p,hz⟩:=I.list hq;have hl:=rv.length;rw[zb]at hl;refine call_any_walk<|wpAny_pyIter_list p.isList ?_;refine{s.heap.objs.size,_,_,_,_,_,λi=>(bs[i]?).getD false,rfl,Walks.list (A:=X.A.in1) (I.ok.hd hc) s.heap.objs.size a (zE p.lt) ay.toArray,{{_,zk _ rfl,rfl,rfl},p.isList.at λo e=>za _ e},?_,λh' tk hk=>?_};intro i v s' Q' E' hv hQ;rw[all_bools rv rfl i v hv];exact yu hQ;have e:ay.toArray.size=bs.length:=by rw[zq,<-hl]
 rw[e,range_any];exact{.bl<|bs.any id,H,I.kept (h':=h') (t':=tk) λb o e=>hk b o (by simpa using zE (zw e))<|za _ e,rfl,q}
end
noncomputable def ownOf:HO->Option Addr|.ins _ dx _=>some dx|.lK _ u=>ownOf u|_=>none
structure Fg(H H' G:Hp):Prop where
 sub:∀b o,G b=some o->H' b=some o
 dom:∀b o,H b=some o->∃o',G b=some o'
 own:∀a o dx,G a=some o->ownOf o=some dx->(∃o',H a=some o'/\ownOf o'=some dx)\/∃o',G dx=some o'
theorem aK:bootBuiltins "len"= some (.builtin "len"):=PySem.boot_len
theorem gJ:bootBuiltins "all"= some (.builtin "all"):=boot_all
theorem PZ:bootBuiltins "any"= some (.builtin "any"):=boot_any
theorem aq:bootBuiltins "isinstance"= some (.builtin "isinstance"):=boot_isinstance
theorem vB:bootBuiltins "int"= some (.type "int"):=PyProof.Rows.boot_int
theorem K_:bootBuiltins "bool"= some (.type "bool"):=PyProof.Rows.boot_bool
theorem jx:bootBuiltins "str"= some (.type "str"):=PyProof.Rows.boot_str
theorem bp:bootBuiltins "tuple"= some (.type "tuple"):=PyProof.Rows.boot_tuple
theorem La:bootBuiltins "dict"= some (.type "dict"):=PyProof.Rows.boot_dict
theorem P0:bootBuiltins "set"= some (.type "set"):=PyProof.Rows.boot_set
set_option genInjectivity true in
set_option genSizeOfSpec true in
inductive Kd where
 |av|bl|int|str|lst|tup|cB
 deriving DecidableEq
noncomputable def Kd.name:Kd->String|.av=>"NoneType" |.bl=>"bool" |.int=>"int" |.str=>"str" |.lst=>"list" |.tup=>"tuple" |.cB=>"dict"
inductive q8 (H:Hp):V->Kd->Prop where
 |av:q8 H .av .av
 |bl (b:Bool):q8 H (.bl b) .bl
 |int (i:Int):q8 H (.int i) .int
 |str (x:Str):q8 H (.str x) .str
 |lst {a:Addr}{xs:List V} (e:H a=some (.lst xs)):q8 H (.ref a) .lst
 |tup {a:Addr}{xs:List V} (e:H a=some (.tup xs)):q8 H (.ref a) .tup
 |cB {a:Addr}{kvs:List<|Key×V} (e:H a=some (.dK kvs)):q8 H (.ref a) .cB
theorem q8.ty{K:Frag}{H:Hp}{x:V}{k:Kd}(h:q8 H x k):nL K H x (.type k.name):=by cases h with|av=>exact .av|bl b=>exact .bl b|int i=>exact .int i|str x=>exact .str x|lst e=>exact .lst e|tup e=>exact .tup e|cB e=>exact .dK e
noncomputable def xW(T:String):Option (Kd->Bool):=if T ="int" then some λk=>match k with|.int=>true|.bl=>true|_=>false else if T ="bool" then some λk=>match k with|.bl=>true|_=>false else if T ="str" then some λk=>match k with|.str=>true|_=>false else if T ="tuple" then some λk=>match k with|.tup=>true|_=>false else if T ="list" then some λk=>match k with|.lst=>true|_=>false else if T ="dict" then some λk=>match k with|.cB=>true|_=>false else none
theorem Hz{K:Frag}{T:String}{g:Kd->Bool}(h:xW T=some g)(k:Kd):kitOne K (.type k.name) (.type T)=some (g k):=by unfold xW at h;split at h;rename_i e;subst e;cases h;cases k<;>rfl;split at h;rename_i e;subst e;cases h;cases k<;>rfl;split at h;rename_i e;subst e;cases h;cases k<;>rfl;split at h;rename_i e;subst e;cases h;cases k<;>rfl;split at h;rename_i e;subst e;cases h;cases k<;>rfl;split at h;rename_i e;subst e;cases h;cases k<;>rfl;cases h
section
variable{X:Cx}
theorem HA:fg X (.builtin "isinstance") (λxs H Q=>∃x T k g,xs=[x,.ty T]/\xW T=some g/\q8 H x k/\Q (.bl<|g k) H):=by intro pins s σ H xs us Q I r h;obtain⟨x,T,k,g,rfl,hg,hk,q⟩:=h;obtain⟨v,w',rfl,rv,qQ⟩:=vals2 r;cases qQ;exact E8 I rv hk.ty (Hz hg k) λtk=>{.bl<|g k,H,I.tok tk,rfl,q}
end
mutual
def Dt(K:Frag)(H:Hp):PyData->V->Prop|.none,v=>v=.av|.bool b,v=>v=.bl b|.int i,v=>v=.int i|.str z,v=>v=.str z|.list ds,v=>∃a xs,v=.ref a/\kh K H a xs/\DtAll K H ds xs|.tuple ds,v=>∃a xs,v=.ref a/\g_ K H a xs/\DtAll K H ds xs|.dict _,_=>False
def DtAll(K:Frag)(H:Hp):List PyData->List V->Prop|[],xs=>xs=[]|d::ds,xs=>∃y ys,xs=y::ys/\Dt K H d y/\DtAll K H ds ys
end
section
variable{X:Cx}{pins:List (Addr×Obj)}{σ:St}{H:Hp}{s:Shared}
mutual
theorem Inv.reads(I:Inv X pins σ H s):∀(d:PyData){x:V}{u:Value},Dt X.K H d x->RelV x u->∃as,Reads s.heap u d as
 |.none,x,u,h,r=>by
  have h:x=.av:=by simpa only[Dt]using h
  subst h;cases r;exact{_,.none}
 |.bool b,x,u,h,r=>by
  have h:x=.bl b:=by simpa only[Dt]using h
  subst h;cases r;exact{_,.bool b}
 |.int i,x,u,h,r=>by
  have h:x=.int i:=by simpa only[Dt]using h
  subst h;obtain⟨t,rfl⟩:=r;exact{_,.int i t}
 |.str z,x,u,h,r=>by
  have h:x=.str z:=by simpa only[Dt]using h
  subst h;obtain⟨t,rfl⟩:=r;exact{_,.str z t}
 |.list ds,x,u,h,r=>by
  have h:∃a xs,x=.ref a/\kh X.K H a xs/\DtAll X.K H ds xs:=by simpa only[Dt]using h
  obtain⟨a,xs,rfl,hq,hd⟩:=h;cases r;obtain⟨ay,rv,p,_⟩:=I.list hq;obtain⟨as,ra⟩:=Inv.readsAll I ds hd rv;obtain⟨o,e,c,n,d⟩:=p.isList;exact{_,.list e c d<|by simpa using ra}
 |.tuple ds,x,u,h,r=>by
  have h:∃a xs,x=.ref a/\g_ X.K H a xs/\DtAll X.K H ds xs:=by simpa only[Dt]using h
  obtain⟨a,xs,rfl,hq,hd⟩:=h;cases r;obtain⟨ay,rv,p,_⟩:=I.tuple hq;obtain⟨as,ra⟩:=Inv.readsAll I ds hd rv;obtain⟨o,e,c,n,d⟩:=p;exact{_,.tuple e c d<|by simpa using ra}
 |.dict _,x,u,h,r=>by
  have h:False:=by simpa only[Dt]using h
  exact h.elim
theorem Inv.readsAll(I:Inv X pins σ H s):∀(ds:List PyData){xs:List V}{us:List Value},DtAll X.K H ds xs->Vals xs us->∃as,ReadsAll s.heap us ds as
 |[],xs,us,h,r=>by
  have h:xs=[]:=by simpa only[DtAll]using h
  subst h;cases r;exact{_,.nil}
 |d::ds,xs,us,h,r=>by
  have h:∃y ys,xs=y::ys/\Dt X.K H d y/\DtAll X.K H ds ys:=by simpa only[DtAll]using h
  obtain⟨y,ys,rfl,h1,h2⟩:=h;cases r with|cons r1 r2=>obtain⟨as,ra⟩:=Inv.reads I d h1 r1;obtain⟨bs,rb⟩:=Inv.readsAll I ds h2 r2;exact{_,.cons ra rb}
end
end
def Uc(K:Frag)(neg:Bool):R2:=λx y H Q=>∃d e,Dt K H d x/\Dt K H e y/\d.canLay0=true/\e.canLay0=true/\(d.depth<=64\/e.depth<=64)/\Q (.bl<|if neg then !PyData.eqv d e else PyData.eqv d e) H
section
variable{X:Cx}
theorem HB(hu:X.A.units+64<cLine):hG X (compareOp .Eq) (Uc X.K false):=by intro pins s σ H x y v u Q I rx ry h;obtain⟨d,e,hd,he,cd,ce,dp,q⟩:=h;obtain⟨as,ra⟩:=I.reads d hd rx;obtain⟨bs,rb⟩:=I.reads e he ry;exact SeqAt.compareEq_reads ra rb cd ce (by rcases dp with dp|dp<;>lia)<|aJ I q rfl
theorem HC(hu:X.A.units+64<cLine):hG X (compareOp .NotEq) (Uc X.K true):=by intro pins s σ H x y v u Q I rx ry h;obtain⟨d,e,hd,he,cd,ce,dp,q⟩:=h;obtain⟨as,ra⟩:=I.reads d hd rx;obtain⟨bs,rb⟩:=I.reads e he ry;exact SeqAt.compareNe_reads ra rb cd ce (by rcases dp with dp|dp<;>lia)<|aJ I q rfl
end
theorem kl(a b:Nat):GK ⟨#[a]⟩ ⟨#[b]⟩=decide (a<=b):=by
 unfold GK;have e:([b]<[a])↔b<a:=by rw[List.cons_lt_cons_iff];constructor;rintro (h|⟨_,h⟩);exact h;exact absurd h<|List.not_lt_nil _;exact .inl
 rw[yE];show(!decide ([b]<[a]))=true↔_;rw[Bool.not_eq_true',yn,e,decide_eq_true_iff];lia
def chkC(sc:Scope)(N0 N:List Str)(src:List<|Option Nat)(scope:Scope):Bool :=
 decide (scope.kind=.function)&&(scope.names.all (λy=>decide (y.2≠.cell)&&(decide (y.2≠.local)||decide (scope.names.lookup y.1=some .local))&&(decide (y.2≠.free)||(decide (sc.names.lookup y.1=some .cell)||decide (sc.names.lookup y.1=some .free)))) &&
  (decide (src.length=N.length)&&(List.range src.length).all λi=>match src[i]?,N[i]? with
   |some (some j),some x=>decide (N0[j]?=some x)&&(decide (scope.names.lookup x=some .free)&&(decide (sc.names.lookup x=some .cell)||decide (sc.names.lookup x=some .free)))
   |_,_=>true))
theorem lO(sc:Scope)(N0:List Str)(hs:X.env.scope=sc)(hN:X.N=N0)(h:chkC sc N0 N src scope=true):bM X N src scope:=by unfold chkC at h;simp only[zM,zY,yg,yJ]at h;obtain⟨h1,h2,h3,h4⟩:=h;refine{h1,λy hy=>(h2 y hy).1.1,λy hy e=>?_,λy hy e=>?_,h3,λi j x e1 e2=>?_};rcases (h2 y hy).1.2 with z|z;exact absurd e z;exact z;rcases (h2 y hy).2 with z|z;exact absurd e z;show X.env.scope.names.lookup y.1=some .cell\/X.env.scope.names.lookup y.1=some .free;rw[hs];exact z;have hi:i<src.length:=(ze.mp e1).1;have q:=h4 i<|zV.mpr hi;rw[e1,e2]at q;simp only[zM,zY,yJ]at q;refine{by rw[hN];exact q.1,q.2.1,?_};unfold OL;rw[hs];exact .inr q.2.2
theorem vE(h0:0<=i)(h1:i<l.length):∃v,jm l i=some v/\l[i.toNat]?=some v:=by
 obtain⟨j,rfl⟩:=Int.eq_ofNat_of_zero_le h0;have hj:j<l.length:=by lia
 exact{l[j],bW<|by simp[hj],by simp[hj]}
theorem cA{c:Bool}{A B:Prop}(h:c=true->A)(h':c=false->B):if c=true then A else B:=by cases c with|true=>exact h rfl|false=>exact h' rfl
theorem nt(h:(!b)=true):b=false:=by cases b<;>simp_all
theorem nf(h:(!b)=false):b=true:=by cases b<;>simp_all
noncomputable def BJ:Kd->Bool|.int=>true|.bl=>true|_=>false
noncomputable def vF:Kd->Bool|.bl=>true|_=>false
noncomputable def BK:Kd->Bool|.str=>true|_=>false
noncomputable def q9:Kd->Bool|.tup=>true|_=>false
theorem Lb:xW "int"= some BJ:=if_pos rfl
theorem HD:xW "bool"= some vF:=(if_neg<|by decide).trans<|if_pos rfl
theorem cW:xW "str"= some BK:=(if_neg<|by decide).trans<|(if_neg<|by decide).trans<|if_pos rfl
theorem aZ:xW "tuple"= some q9:=(if_neg<|by decide).trans<|(if_neg<|by decide).trans<|(if_neg<|by decide).trans<|if_pos rfl
theorem len_pos{z:Str}(h:1<=z.cps.size):∃c r,z.cps.toList=c::r:=by cases e:z.cps.toList with|nil=>have:z.cps.toList.length=0:=(by rw[e];rfl);rw[yt]at this;lia|cons c r=>exact⟨c,r,rfl⟩
theorem at0(e:l=c::r):jm l 0=some c:=by
 have:l[0]?=some c:=by rw[e];rfl
 exact bW (j:=0) this
def isPlain:Expr->Bool|.Starred _ _=>false|_=>true
theorem BL(h:isPlain e=true):starEach (e::es) env=(false,eval e env)::starEach es env:=by cases e<;>first|rfl|exact absurd h zd
theorem YO{t:TA}(ha:PE X e te)(hr:PA X es t)(hp:autoParam (isPlain e=true) qQJ):PA X (e::es) (Nx te t):=KJ ha hr<|BL hp
end L2
namespace HT
open PySem PyProof.Rows
open PySem.SeqAt
open PySem.AutoSeq1 (wpAny_loadPart')
open PySem.MeetsSeq PySem.MeetsSeq2 PySem.MeetsSeq3
end HT
namespace L2
open PySem PySem.Spec PyProof.Rows
def HE(c:Value)(e:Addr)(h:Heap):Prop:=∃o vs,h.get? e=some o/\o.data=.fields vs/\vs[2]?=some c
section
variable{M:Model}{A:Around}{E:Value->Shared->Prop}{s:Shared}{base:Heap}{env:Env}{outer:List Env}{L e:Addr}{a0 c fl:Value}
theorem Ud(xx:A.frames=some (env::outer))(hl:s.heap.FunFrames base<|env::outer)(hf:env.frame=some L) (he:s.heap.get? e=some oe) (GL:base.StaysIn s.heap) (Bb:base.get? e=none) (hd:oe.data=.fields vs) (h0:vs[0]?=some a0) (h2:vs[2]?=some c) (h:∀h',Heap.NotedW base (env::outer) e oe.cls a0 (rawInt L) s.heap h'->HE c e h'->Q () {s with heap:=h'}): wpAny M A (do let x <-frameOf env;let y <-entryPlaceOf L nx;let z <-EntryCells.newEntry head x .none (rawInt L) .none y;setField (.ref e) 1 z) Q E s:=by
 have hsz:1<vs.size:=by have:=(Array.getElem?_eq_some_iff.mp h2).1;lia
 have nfr:e∉(env::outer).filterMap (·.frame):=λm=>by obtain⟨_,o,q,n⟩:=hl.mem m;rw[he]at q;cases q;exact n vs hd
 refine zc<|wpAny_frameOf_fun xx hl hf λg sg=>?_;refine zc<|wpAny_entryPlaceOf λpl dO=>?_;unfold EntryCells.newEntry newFields;refine zc<|yI ?_<|dO.sizeOk5 _ _ _ _ _;have g1:g.get? e=some oe:=(sg.2.1 e nfr).trans he;have kg:base.StaysIn g:=λb o q=>(sg.2.1 b λm=>by rw[(hl.mem m).1]at q;cases q).trans<|GL b o q;have t3:((([head,.ref L,.none,rawInt L,.none]++(if pl.isEmpty then List.replicate 6 Value.none else pl)).toArray:Array Value))[3]?=some (rawInt L):=by rcases dO with rfl|⟨_,_,_,_,_,_,_,rfl⟩<;>simp
 generalize htb:(([head,.ref L,.none,rawInt L,.none]++(if pl.isEmpty then List.replicate 6 Value.none else pl)).toArray:Array Value)=ts at t3;have g2:=za (h:=g) {cls:=.type "traceback",dict:=none,data:=.fields ts} g1;refine yS g2 hd hsz<|h _ ?_ ?_;have ne:g.objs.size≠e:=yo<|zw g1;have d3:=yy hd (·.setIfInBounds 1 (Value.ref g.objs.size));have e3:=yw (Obj.mapFields (·.setIfInBounds 1 (Value.ref g.objs.size))) g2<|Obj.isFreed_of_fields d3;have T3:=(yq (g.push {cls:=.type "traceback",dict:=none,data:=.fields ts}) (Obj.mapFields (·.setIfInBounds 1 (Value.ref g.objs.size)))<|Ne.symm ne).trans<|zk g rfl;have keep:∀b o,b≠e->g.get? b=some o->((g.push {cls:=.type "traceback",dict:=none,data:=.fields ts}).update e (Obj.mapFields (·.setIfInBounds 1 (Value.ref g.objs.size)))).get? b=some o:=λb o n q=>by rw[yq _ _<|Ne.symm n];exact za _ q
 have xX:∀b o,s.heap.get? b=some o->(∀vs,o.data≠.fields vs)->b≠e:=λb o q n z=>by rw[z,he]at q;cases q;exact n vs hd
 refine{λb o q=>keep b o (λz=>by rw[z,Bb]at q;cases q)<|kg b o q,hl.of_keeps λb o q n=>?_,?_,λb o q n=>?_};obtain⟨sl,z⟩:=sg.2.2 b o q;exact{_,keep b _ (xX b o q n) z,rfl};exact{_,_,g.objs.size,_,_,e3,{Obj.cls_mapFields _ _,by rw[Array.getElem?_setIfInBounds_ne<|by decide];exact h0},d3,by simp[hsz],kg.fresh,ne,T3,rfl,t3};obtain⟨sl,z⟩:=sg.2.2 b o q;exact{sl,keep b _ (xX b o q n) z};have d3:=yy hd (·.setIfInBounds 1 (Value.ref g.objs.size));exact{_,_,yw (Obj.mapFields (·.setIfInBounds 1 (Value.ref g.objs.size))) g2<|Obj.isFreed_of_fields d3,d3,by rw[Array.getElem?_setIfInBounds_ne<|by decide];exact h2}
theorem setC(GL:base.StaysIn s.heap)(Bb:base.get? e=none)(hl:s.heap.FunFrames base l)(ht:s.heap.TracedAtW base e cls a0 fl)(hc:HE c e s.heap) (h:∀h',Heap.FlyingW base l e cls a0 h'->s.heap.UpToSlots h'->HE c e h'->Q () {s with heap:=h'}):wpAny M A (setFlight (.ref e) none) Q E s:=by
 obtain⟨o,vs,T,oT,ts,q,hk,hd,q1,nT,ne,qT,dT,q3⟩:=ht;obtain⟨o',YQ,q',xu,q2⟩:=hc;rw[q]at q';cases q';rw[hd]at xu;cases xu;have hs3:3<ts.size:=(Array.getElem?_eq_some_iff.mp q3).1;have Ld:∀b,b≠T->(s.heap.update T (Obj.mapFields (·.setIfInBounds 3 ((none:Option Addr).elim Value.none λf=>rawInt f)))).get? b=s.heap.get? b:=λb n=>yq _ _<|Ne.symm n;have xX:∀b o,s.heap.get? b=some o->(∀vs,o.data≠.fields vs)->b≠T:=λb o z n w=>by rw[w,qT]at z;cases z;exact n ts dT
 have qe:=(Ld e<|Ne.symm ne).trans q;unfold setFlight;refine zc<|yi q hd q1 ?_;rw[if_pos<|show(Value.ref T != Value.none)=true by simp];refine yS qT dT hs3<|h _ {λb o z=>(Ld b λw=>by rw[w,nT]at z;cases z).trans<|GL b o z,Bb,hl.of_keeps λb o z n=>{o,(Ld b<|xX b o z n).trans z,rfl},?_} (λb o z n=>{o.slots,(Ld b<|xX b o z n).trans z}) ⟨o,vs,qe,hd,q2⟩;exact{o,vs,T,_,_,qe,hk,hd,q1,nT,ne,yw _ qT<|Obj.isFreed_of_fields<|yy dT _,yy dT _,by simp[hs3]}
theorem Ue(xx:A.frames=some (env::outer))(hf:env.frame=some L)(GL:base.StaysIn s.heap)(Bb:base.get? e=none)(hl:s.heap.FunFrames base<|env::outer)(ht:s.heap.TracedAtW base e cls a0 fl)(hc:HE c e s.heap) (h:∀h',Heap.HeldW base (env::outer) e cls a0 L h'->s.heap.UpToSlots h'->HE c e h'->Q () {s with heap:=h'}):wpAny M A (noteFrame (.ref e) env) Q E s:=by
 by_cases Ug:fl=rawInt L;subst Ug;exact wpAny_noteFrame_againW hf ht<|h s.heap ⟨GL,Bb,hl,ht⟩ (.refl _) hc;obtain⟨o,vs,T,oT,ts,q,⟨hk,h0⟩,hd,q1,nT,ne,qT,dT,q3⟩:=ht;obtain⟨o',YQ,q',xu,q2⟩:=hc;rw[q]at q';cases q';rw[hd]at xu;cases xu;subst hk;have Ld:∀b,b≠T->(s.heap.update T (Obj.mapFields (·.setIfInBounds 3 Value.none))).get? b=s.heap.get? b:=λb n=>yq _ _<|Ne.symm n;have xX:∀b o,s.heap.get? b=some o->(∀vs,o.data≠.fields vs)->b≠T:=λb o z n w=>by rw[w,qT]at z;cases z;exact n ts dT
 unfold noteFrame;simp only[hf];refine zc<|yi q hd q1 ?_;rw[if_pos<|show(Value.ref T != Value.none)=true by simp];refine zc<|yi qT dT q3 ?_;rw[if_neg<|show ¬((fl==rawInt L)=true) by simpa using Ug];refine zc<|yS qT dT (Array.getElem?_eq_some_iff.mp q3).1 ?_;refine Ud xx (hl.of_keeps λb o z n=>{o,(Ld b<|xX b o z n).trans z,rfl}) hf ((Ld e<|Ne.symm ne).trans q) (λb o z=>(Ld b λw=>by rw[w,nT]at z;cases z).trans<|GL b o z) Bb hd h0 q2 λh' x y=>?_;obtain⟨x1,x2,x3,x4⟩:=x;exact h h' ⟨x1,Bb,x2,x3⟩ (λb o z n=>x4 b o ((Ld b<|xX b o z n).trans z) n) y
theorem P1(xx:A.frames=some (env::outer))(hf:env.frame=some L)(GL:base.StaysIn s.heap)(Bb:base.get? e=none)(hl:s.heap.FunFrames base<|env::outer) (he:s.heap.get? e=some oe) (hd:oe.data=.fields vs) (h0:vs[0]?=some a0) (h1:vs[1]?=some .none) (h2:vs[2]?=some c) (h:∀h',Heap.HeldW base (env::outer) e oe.cls a0 L h'->s.heap.UpToSlots h'->HE c e h'->Q () {s with heap:=h'}):wpAny M A (noteFrame (.ref e) env) Q E s:=by unfold noteFrame;simp only[hf];refine zc<|yi he hd h1 ?_;rw[if_neg<|by decide];refine Ud xx hl hf he GL Bb hd h0 h2 λh' x y=>?_;obtain⟨x1,x2,x3,x4⟩:=x;exact h h' ⟨x1,Bb,x2,x3⟩ x4 y
theorem P2(xx:A.frames=some (env::outer))(hf:env.frame=some L)(GL:base.StaysIn s.heap)(Bb:base.get? e=none)(hl:s.heap.FunFrames base<|env::outer)(ht:s.heap.TracedAtW base e cls a0 fl)(hc:HE c e s.heap) (h:∀h',Heap.FlyingW base outer e cls a0 h'->s.heap.UpToSlots h'->HE c e h'->Q () {s with heap:=h'}):wpAny M A (leaving env<|.ref e) Q E s:=by unfold leaving;refine zc<|Ue xx hf GL Bb hl ht hc λh' x u y=>?_;obtain⟨x1,x2,x3,x4⟩:=x;refine setC x1 x2 x3 x4 y λh2 z u2 y2=>?_;obtain⟨z1,z2,⟨_,_,z3⟩,z4⟩:=z;exact h h2 ⟨z1,z2,z3,z4⟩ (u.trans u2) y2
theorem Le(xx:A.frames=some (env::outer))(hf:env.frame=some L)(GL:base.StaysIn s.heap)(Bb:base.get? e=none)(hl:s.heap.FunFrames base<|env::outer) (he:s.heap.get? e=some oe) (hd:oe.data=.fields vs) (h0:vs[0]?=some a0) (h1:vs[1]?=some .none) (h2:vs[2]?=some c) (h:∀h',Heap.FlyingW base outer e oe.cls a0 h'->s.heap.UpToSlots h'->HE c e h'->Q () {s with heap:=h'}):wpAny M A (leaving env<|.ref e) Q E s:=by unfold leaving;refine zc<|P1 xx hf GL Bb hl he hd h0 h1 h2 λh' x u y=>?_;obtain⟨x1,x2,x3,x4⟩:=x;refine setC x1 x2 x3 x4 y λh2 z u2 y2=>?_;obtain⟨z1,z2,⟨_,_,z3⟩,z4⟩:=z;exact h h2 ⟨z1,z2,z3,z4⟩ (u.trans u2) y2
end
theorem bt.get(x:bt P w H h a o):∃u,h.get? a=some u:=by cases o with|lst xs=>(obtain⟨_,_,_,_,e⟩:=x;exact{_,e})|tup xs=>(obtain⟨_,_,_,ob,e,_⟩:=x;exact{_,e})|dK kvs=>(obtain⟨_,_,_,_,o,_,_,e,_⟩:=x;exact{_,e})|dT kvs=>exact False.elim x|set S n=>(obtain⟨o,_,_,_,e,_⟩:=x;exact{_,e})|ins C dx fs=>(obtain⟨_,_,_,e,_⟩:=x;exact{_,e})|own y=>(obtain⟨_,e⟩:=x;exact{_,e})|xd fs=>(obtain⟨_,⟨_,_,_,e,_⟩,_⟩:=x;exact{_,e})|WK lo hi=>(obtain⟨_,_,_,e⟩:=x;exact{_,e})|lK ob u=>(obtain⟨e,_⟩:=x;exact{_,e})|qk ps=>exact{_,show h.get? a=some _ from x}|met f y=>exact{_,show h.get? a=some _ from x}|ext φ=>obtain⟨_,e,_⟩:=x;exact e
structure YR(P:Program)(w:World)(mg:Str->Option Value)(outer:List Env)(H H':Hp)(h0:Heap)(a:Addr)(cls a0:Value)(B h:Heap):Prop where
 fl:Heap.FlyingW B outer a cls a0 h
 aM:lL P w H' B
 keep:∀b o,h0.get? b=some o->H b=none->b∉nH outer->B.get? b=some o
 there:∀b o,h0.get? b=some o->b∉nH outer->∃o',B.get? b=some o'
 slot:∀b o,h0.get? b=some o->b∈nH outer->∃sl,h.get? b=some {o with slots:=sl}
 free:∀b o,h0.get? b=some o->H b=none->H' b=none
 mj:∀b xs,H b=some (.tup xs)->H' b=some (.tup xs)
 lM:∀b o u,H b=some (.lK o u)->H' b=some (.lK o u)
 lN:∀b ps,H b=some (.qk ps)->∃more,H' b=some (.qk<|ps++more)
 cx:HE .none a h\/mg "NoMark"= some cls
def fH(P:Program)(w:World)(mg:Str->Option Value):By:=λouter H s E e s'=>∃a cls a0 B H',e=.ref a/\s'.os=s.os/\AllBare s'.gens/\YR P w mg outer H H' s.heap a cls a0 B s'.heap/\E cls none H'
structure dj(X:Cx)(E:XK):Prop where
 ex:X.ex=[]
 st:X.stack=X.env::X.outer
 fr:X.env.frame=some X.env.locals
 xe:∀e s',wpAny (model X.prog X.w) X.A (leaving X.env e) (λ_ Bz=>fH X.prog X.w X.mg X.outer X.vi X.dG E e Bz) (λe' Bz=>fH X.prog X.w X.mg X.outer X.vi X.dG E e' Bz) s'->X.xe e s'
theorem uC{P:Program}{w:World}{K:Frag}{mg:Str->Option Value}{base:Heap}{N:List Str}{qual:Str}{scope:Scope}{f:Addr}{cd:Value}{A:Around}{outer:List Env}{s:Shared}{H:Hp}{E:XK} : dj (kG (fH P w mg) P w K mg base N qual scope f cd A outer s H E) E:={rfl,rfl,rfl,λ_ _ h=>h}
section
variable{X:Cx}{pins:List (Addr×Obj)}{σ:St}{H H':Hp}{s:Shared}{E E':XK}
theorem dj.mem(L:dj X E):b∈nH X.stack↔b=X.env.locals\/b∈X.fs:=by unfold Cx.fs nH;rw[L.st,List.filterMap_cons,L.fr];exact zi
theorem dj.ET(L:dj X E)(I:Inv X pins σ H s)(e:X.dG.heap.get? b=some o)(h:b∉X.fs):b∉nH X.stack:=λz=>by rcases L.mem.mp z with z|z;have:=zw e;have h2:=I.ok.above;rw[z]at this;exact absurd (zr this h2)<|yA _;exact h z
theorem dj.fly(L:dj X E)(I:Inv X pins σ H s)(F:YR X.prog X.w X.mg X.stack H H' s.heap a cls a0 B h)(f2:Heap.FlyingW B X.outer a cls a0 h2)(u2:h.UpToSlots h2)(c2:HE .none a h2\/X.mg "NoMark"= some cls):
  YR X.prog X.w X.mg X.outer X.vi H' X.dG.heap a cls a0 B h2 where
 cx:=c2
 fl:=f2
 aM:=F.aM
 keep:=λb o e n hf=>F.keep b o (I.base.keep b o e n hf<|by rw[L.ex];simp) (I.base.free b o e n<|by rw[L.ex];simp)<|L.ET I e hf
 there:=λb o e hf=>by
  obtain⟨o',q⟩:=I.base.there b o e<|by rw[L.ex];simp
  exact F.there b o' q<|L.ET I e hf
 slot:=λb o e hf=>by
  obtain⟨sl,q⟩:=I.base.slot b o e (I.ok.ON b hf) hf<|by rw[L.ex];simp
  obtain⟨sl1,q1⟩:=F.slot b _ q<|L.mem.mpr<|.inr hf
  obtain⟨_,o2,q2,hd⟩:=F.fl.2.2.1.mem<|L.mem.mpr<|.inr hf
  obtain⟨J2,q3⟩:=u2 b o2 q2 hd
  rw[q1]at q2;cases q2
  exact⟨J2,q3⟩
 free:=λb o e n=>by
  obtain⟨o',q⟩:=I.base.there b o e<|by rw[L.ex];simp
  exact F.free b o' q<|I.base.free b o e n<|by rw[L.ex];simp
 mj:=λb xs e=>F.mj b xs<|I.base.mj b xs e
 lM:=λb o u e=>F.lM b o u<|I.base.lM b o u e
 lN:=λb ps e=>by
  obtain⟨m1,q1⟩:=I.base.lN b ps e
  obtain⟨m2,q2⟩:=F.lN b _ q1
  exact{m1++m2,by rw[q2,Array.append_assoc]}
theorem Uh(L:dj X E)(hE:∀c d H',E' c d H'->E c d H'):Passes (fH X.prog X.w X.mg) X E':=λpins σ H s e s' I h=>by
 obtain⟨a,cls,a0,B,H',rfl,os,bare,F,q⟩:=h;refine L.xe _ _ ?_;have xx:X.A.frames=some (X.env::X.outer):=by rw[I.ok.frames,L.st]
 have fl:Heap.FlyingW B (X.env::X.outer) a cls a0 s'.heap:=by rw[<-L.st];exact F.fl
 rcases F.cx with hc|hc;obtain⟨f1,f2,f3,f4⟩:=fl;exact P2 xx L.fr f1 f2 f3 f4.at hc λh2 f2 u2 c2=>{a,cls,a0,B,H',rfl,os.trans I.os,bare,L.fly I F f2 u2<|.inl c2,hE _ _ _ q};exact wpAny_leaves_onW xx L.fr fl λh2 f2 u2=>{a,cls,a0,B,H',rfl,os.trans I.os,bare,L.fly I F f2 u2<|.inr hc,hE _ _ _ q}
theorem P4(I:Inv X pins σ H s):lL X.prog X.w H (hideAll s.heap<|nH X.stack):=λa o e=>(I.aM a o e).pS (λb u hb q=>hideAll_get _ q λz=>by have n:=I.ql b z;rcases hb with rfl|hb;rw[e]at n;cases n;rw[hb]at n;cases n) (λ_ q=>q) λ_ _ q=>q
theorem BM(L:dj X E)(I:Inv X pins σ H s)(hk:∀b o,s.heap.get? b=some o->h'.get? b=some o)(hn:s.heap.get? a=none)(he:h'.get? a=some oe)(hd:oe.data=.fields vs) (h0:vs[0]?=some a0) (h1:vs[1]?=some .none) (h2:vs[2]?=some c) (hc:c=.none\/X.mg "NoMark"= some oe.cls) (hE:E oe.cls none H):X.xe (.ref a) {s with heap:=h'}:=by
 refine L.xe _ _ ?_;have xx:X.A.frames=some (X.env::X.outer):=by rw[I.ok.frames,L.st]
 have J5:∀env∈X.stack,∀b,env.frame=some b->b∈nH X.stack:=λenv he b hb=>List.mem_filterMap.mpr ⟨env,he,hb⟩;have ff:s.heap.FunFrames (hideAll s.heap<|nH X.stack) (X.env::X.outer):=by rw[<-L.st];exact PySem.W.funFrames_hide I.stack J5
 have hb:(hideAll s.heap<|nH X.stack).get? a=none:=by cases z:(hideAll s.heap<|nH X.stack).get? a with|none=>rfl|some o=>have:=of_hideAll _ z;rw[hn]at this;cases this
 refine Le (base:=hideAll s.heap<|nH X.stack) xx L.fr (λb o q=>hk b o<|of_hideAll _ q) hb (ff.of_keeps λb o q _=>{o,hk b o q,rfl}) he hd h0 h1 h2 λh2 x1 x4 c2=>?_;refine{a,oe.cls,a0,_,H,rfl,I.os,I.bare,{x1,P4 I,λb o e n hf=>?_,λb o e hf=>?_,λb o e hf=>?_,λb o e n=>I.base.free b o e n<|by rw[L.ex];simp,I.base.mj,I.base.lM,I.base.lN,?_},hE};exact hideAll_get _ (I.base.keep b o e n hf<|by rw[L.ex];simp)<|L.ET I e hf;obtain⟨o',q⟩:=I.base.there b o e (by rw[L.ex];simp);exact{o',hideAll_get _ q<|L.ET I e hf};obtain⟨sl,q⟩:=I.base.slot b o e (I.ok.ON b hf) hf (by rw[L.ex];simp);obtain⟨_,o2,q2,hd⟩:=I.pT.mem hf;obtain⟨J2,q3⟩:=x4 b o2 (hk _ _ q2) hd;rw[q]at q2;cases q2;exact⟨J2,q3⟩;rcases hc with rfl|hc;exact .inl c2;exact .inr hc
theorem oW(L:dj X E)(I:Inv X pins σ H s)(hx:Heap.MadeExcOf s.heap h' a cls args)(hE:E cls none H):X.xe (.ref a) {s with heap:=h'}:=by obtain⟨t,he,_,_⟩:=hx.there;exact BM L I (λb o q=>hx.keeps b o q) hx.new he rfl rfl rfl rfl (.inl rfl) hE
end
abbrev nQ:List Value:=[.type "ValueError",.type "Exception",.type "BaseException",.type "object"]
structure XC(K:Frag)(C:Addr):Prop where
 q:excIn K C nQ "ValueError.__new__"= true
def YS(h:Heap)(C:Addr)(bm:List Value):Prop:=∃N nm q bs hdct sn sub ab col dd k0 k1 k2 k3 k5 mN,h.get? C=some (excClassObj nm q C N bs bm hdct sn sub ab col dd k0 k1 k2 k3 k5 "ValueError.__new__")/\h.Ns N mN/\mN "__init__"= none/\OwnTail h nQ bm
theorem XC.at{K:Frag}{C:Addr}{h:Heap}(x:XC K C)(X:K.In h):∃bm,YS h C bm:=by have q:=x.q;unfold excIn at q;split at q;rename_i dd cd sl ho;split at q;rename_i C' bm' k0 k1 k2 k3 n k5 hm hs;simp only[zM,beq_iff_eq,Bool.not_eq_true']at q;obtain⟨⟨⟨⟨⟨q1,q2⟩,Ui⟩,ht⟩,aM⟩,W2⟩:=q;subst q1;subst q2;obtain⟨nm,bs,mro,ns,qn,hd,sn,sub,ab,col,del⟩:=cd;dsimp only at hm Ui aM W2;subst hm;subst Ui;obtain⟨sl⟩:=sl;dsimp only at hs;subst hs;exact{bm',ns,nm,qn,bs,hd,sn,sub,ab,col,dd,k0,k1,k2,k3,k5,_,X _ _ ho,.of_isNs<|PySem.W.isNs_of_in X aM,PySem.W.nsMap_none_of_in X aM W2,PySem.W.tail_of_in X ht};cases q;cases q
def YT(a:Addr)(cls:Value):HO:=.ext λh=>∃o vs,h.get? a=some o/\o.cls=cls/\o.data=.fields vs
abbrev TX:=(St->XK)->TS
noncomputable def Ends.less(D:Ends)(i:Nat):Ends:={nx:=λσ H=>D.nx (σ.set i none) H,rt:=D.rt,bk:=λσ H=>D.bk (σ.set i none) H,ct:=λσ H=>D.ct (σ.set i none) H}
structure XA(K:Frag)(C:Addr):Prop where
 ga:findIn K (.ref C) "__getattribute__"= some (some<|.builtin "BaseException.__getattribute__")
 gh:findIn K (.ref C) "__getattr__"= some none
 cl:findIn K (.ref C) "__class__"= some (some<|.builtin "object.__class__")
section
variable{X:Cx}
theorem NF(L:dj X E):Passes (fH X.prog X.w X.mg) X E:=Uh L λ_ _ _ h=>h
end
noncomputable def i4(l:List Str):List Str:=l.foldl (λc x=>if x∈c then c else c++[x]) []
theorem xY(l:List Str)(x:Str):i4 (l++[x])=if x∈i4 l then i4 l else i4 l++[x]:=by unfold i4;rw[List.foldl_append];rfl
theorem Lg:∀(l:List Str),(i4 l).length<=l.length:=λl=>by
 have all:∀(r c:List Str),(r.foldl (λc x=>if x∈c then c else c++[x]) c).length<=c.length+r.length:=by intro r;induction r with|nil=>intro c;simp|cons x r ih=>intro c;rw[yP];refine zO (ih _) ?_;split<;>simp<;>try lia
 simpa [i4]using all l []
section
variable{prog:Program}{w:World}{A:Around}{R:Result->Shared->Prop}{I:Addr}{fp wr:List Addr}{G:Array GenState->Array GenState->Prop}{n:Nat}{P:Nat->Value->Prop}{St:Nat->Shared->Prop}
theorem HG(W:WalksS prog w A.in1 I fp wr G n P St)(S:Addr)(hSf:S∉fp)(xs:List Str)(hx:xs.length=n)(P5:∀i v,P i v->∃x t,xs[i]?=some x/\v=.str x t)(hb:n+1<scanBound): ∀(k i:Nat)(s:Shared),i+k=n->St i s->s.heap.SetOf (strKind prog w) S (λy=>decide<|y∈i4 (xs.take i)) (i4<|xs.take i).length->(∀s',Moved (S::wr) G s s'->s'.heap.SetOf (strKind prog w) S (λy=>decide<|y∈i4 xs) (i4 xs).length->R (.ok<|.ret .none) s')->codeAny (model prog w) A (.builtin "set.update.loop" {[.ref S,.ref I],[]}) R s:=by have nw:S∉wr:=λh=>hSf<|W.sub _ h;have up:∀b∈wr,b∈S::wr:=λb hb=>zh _ hb;have mv:∀{i:Nat}{s s':Shared},Moved wr G s s'->s.heap.SetOf (strKind prog w) S (λy=>decide<|y∈i4 (xs.take i)) (i4<|xs.take i).length->s'.heap.SetOf (strKind prog w) S (λy=>decide<|y∈i4 (xs.take i)) (i4<|xs.take i).length:=λhm ⟨o,es,ep,tb,ho,rest⟩=>{o,es,ep,tb,hm.heap S _ nw ho,rest};intro k;induction k with|zero=>intro i s hk xI hS hR;have e:i=n:=(by lia);subst e;refine yQ F.entry_set_update_loop ?_;rw[Around.under_plainId F.plain_set_update_loop _];show wpAny _ A.in1 (pyNext (.ref I) >>=_) _ _ s;refine zc<|W.done s _ _ xI λs' hm=>?_;show wpAny _ A.in1 (ret Value.none) _ _ s';have q:=mv hm hS;rw[<-hx,yr]at q;exact zD (hR s' (hm.mono up) q)|succ k ih=>intro i s hk xI hS hR;have lt:i<n:=(by lia);refine yQ F.entry_set_update_loop ?_;rw[Around.under_plainId F.plain_set_update_loop _];show wpAny _ A.in1 (pyNext (.ref I) >>=_) _ _ s;refine zc<|W.item i s _ _ lt xI λv s' hP P6 hm=>?_;obtain⟨x,t,ex,rfl⟩:=P5 i v hP;have q:=mv hm hS;show wpAny _ A.in1 (holding [Value.str x t] (setAdd S<|.str x t) >>=_) _ _ s';refine zc<|yL ?_;unfold setAdd;refine yL ?_;refine zc<|(strKind prog w).pyHash (k:=x) (strKind_is _ _ _ _) ?_;have room:(i4<|xs.take i).length+1<scanBound:=(by have:=Lg<|xs.take i;rw[yz]at this;lia);refine wpAny_setAddHashed_of (knd:=strKind prog w) (s:={s' with toks:=s'.toks+1}) (strKind_is _ _ _ _) rfl q room λh' Lh q2=>?_;have tk:xs.take (i+1)=xs.take i++[x]:=(by rw[List.take_succ,ex];rfl);have qi:h'.SetOf (strKind prog w) S (λy=>decide<|y∈i4 (xs.take<|i+1)) (i4<|xs.take<|i+1).length:=(by refine SetOf_congr q2 (λy=>?_) ?_;rw[tk,xY];by_cases h:x∈i4 (xs.take i);rw[if_pos h];by_cases hy:y=x;subst hy;simp[h];simp[hy];rw[if_neg h];simp;rw[tk,xY];by_cases h:x∈i4 (xs.take i);rw[if_pos h,if_pos<|by simpa using h];rw[if_neg h,if_neg<|by simpa using h];simp);refine zD {plainId_quiet F.plain_set_update_loop _,ih (i+1) _ (by lia) (W.frame _ s' _ _ P6 (yT _) λb hb o e=>?_) qi λBz P7 YW=>?_};rw[Lh.2 b (λh:b=S=>hSf<|by rw[<-h];exact hb)];exact e;refine hR Bz (Moved.trans W.gtrans ((hm.mono up).then_heap (yT _) λb o hb e=>?_) P7) YW;rw[Lh.2 b (λh:b=S=>hb<|by rw[h];exact zm)];exact e
theorem xZ(hh:A.handled=none)(hl:s.heap.IsList l items)(hx:xs.length=items.size) (hi:∀(i:Nat)(v:Value),items[i]?=some v->∃x t,xs[i]?=some x/\v=.str x t) (hb:items.size+1<scanBound) (h:∀(h':Heap)(tk:Nat),h'.SetOf (strKind prog w) s.heap.objs.size (λy=>decide<|y∈i4 xs) (i4 xs).length->(∀b o,b<s.heap.objs.size->s.heap.get? b=some o->h'.get? b=some o)->Q (.ref s.heap.objs.size) {s with heap:=h',toks:=tk}): wpAny (model prog w) A (call (.type "set") [.ref l]) Q E s:=by
 obtain⟨c,tl,m0⟩:=F.called_set.mro;have m1:=F.called_set.made;have m2:=F.called_set.sub;refine wpAny_call<|codeAny_of_tree ?_;show wpAny _ _ (callAny (.type "set") _) _ _ _;refine zD {Code.quiet_builtin _<|by trivial,yQ F.entry_type_call ?_};rw[Around.under_plain (weight_type_call_type "set" [.ref l] []) rfl];have m3:=F.called_set.notType;have m4:=F.called_set.canCreate;have m5:=F.typeCall_set_1<|.ref l;repeat (any_goals (first|assumption|wp_step))
 refine yU (code_set_new_1 (.ref l) (E:=E) (Q₁:=λob s1=>∃led:Bool,ob=.ref s.heap.objs.size/\s1={s with heap:=s.heap.push {cls:=.type "set",dict:=none,data:=.set #[] 0 (.fresh 0 0 led)}}) λled=>⟨led,rfl,rfl⟩) λr s1 hr=>?_
 cases r with
 |error e=>exact hr
 |ok fl =>
  cases fl with
  |ret ob =>
   obtain⟨led,rfl,rfl⟩:=hr;generalize hO:({cls:=.type "set",dict:=none,data:=.set #[] 0 (.fresh 0 0 led)} : Obj)=O;have gS:(s.heap.push O).get? s.heap.objs.size=some O:=zk _ (by rw[<-hO];rfl);have tS:Shared.TypeIs {s with heap:=s.heap.push O} (.ref s.heap.objs.size) "set":={_,gS,by rw[<-hO]};have i1:=F.called_set.init.lookup;have i2:=F.called_set.init.bind<|.ref s.heap.objs.size;(repeat (any_goals (first|assumption|wp_step)));refine yU (codeAny_call_builtin (R:=wants (λr s2=>r=.none/\∃h' tk,s2={s with heap:=h',toks:=tk}/\h'.SetOf (strKind prog w) s.heap.objs.size (λy=>decide<|y∈i4 xs) (i4 xs).length/\(∀b o,b<s.heap.objs.size->s.heap.get? b=some o->h'.get? b=some o)) E) F.called_set.init.plain F.entry_set_init<|check_set_init_1 tS ?_) λr2 s2 YX=>?_
   ·obtain⟨ol,gl,cl,nl,dl⟩:=hl;obtain⟨acK,Uk,aba,P8⟩:=ol;simp only at cl dl;subst cl;subst dl;have Ul:(s.heap.push O).get? l=some {cls:=.type "list",dict:=Uk,data:=.seq items nl,slots:=P8}:=za _ gl;have j1:=F.sub_list_set;have j2:=F.sub_list_frozenset;have j3:(Value.type "list"== Value.type "dict")=false:=(by decide);have il:(s.heap.push O).IsList l items:={_,Ul,rfl,nl,rfl};subst hO;unfold Builtin.«set.__init__» noKeywords Builtin.Frozenset.updateFrom;generalize hPI:pyIter=PI;wp_walk;subst hPI;refine wpAny_pyIter_list il ?_;refine zc<|wpAny_runValue ?_;have ll:l<s.heap.objs.size:=zw gl;have h3:A.in1.in1.in1.handled=none:=(by simp[hh]);have ne:l≠(s.heap.push {cls:=.type "set",dict:=none,data:=.set #[] 0 (.fresh 0 0 led)}).objs.size:=(by rw[yb];exact zE<|Nat.lt_succ_of_lt ll);have nf:s.heap.objs.size∉[(s.heap.push {cls:=.type "set",dict:=none,data:=.set #[] 0 (.fresh 0 0 led)}).objs.size,l]:=(by rw[yb];simp only[zi,zA,zH,or_false,not_or];exact{zE<|Nat.lt_succ_self _,yo ll});refine HG ((Walks.list h3 _ l ne items).toS) s.heap.objs.size nf xs hx hi hb (items.size-0) 0 _ (by lia) {{_,zk _ rfl,rfl,rfl},(il.push _)} ?hS0 ?hR
    case hS0 =>
     have gg:=za {cls:=.type "list_iterator",data:=.fields #[.ref l,.int 0 0]} gS
     exact SetOf_congr ((setObjOf_fresh (knd:=strKind prog w) led).setOf gg<|by unfold scanBound;lia) (λ_=>rfl) rfl
    case hR =>
     intro s' hm q
     obtain⟨h',g',d',R_,TC⟩:=s'
     have eg:g'=s.gens:=hm.gens;have ed:d'=s.drawn:=hm.drawn;have eo:TC=s.os:=hm.os
     subst eg;subst ed;subst eo
     show wpAny _ _ _ _ _ _;refine zD ?_;show wpAny _ _ (ret Value.none) _ _ _
     refine zD {rfl,h',R_,rfl,q,λb o hb e=>?_}
     have b2:b≠(s.heap.push {cls:=.type "set",dict:=none,data:=.set #[] 0 (.fresh 0 0 led)}).objs.size:=by rw[yb];exact zE<|Nat.lt_succ_of_lt hb
     refine hm.heap b o ?_<|za _<|za _ e
     simp only[zi,zA,zH,or_false,not_or];exact{zE hb,b2}
   {cases r2 with|error e=>exact YX|ok f2=>cases f2 with|ret r=>(obtain⟨rfl,h',tk,rfl,q,k'⟩:=YX;(repeat (any_goals (first|assumption|wp_step)));exact h _ _ q k')|_=>exact YX.elim}
  |_=>exact hr.elim
end
noncomputable def P9(P:Program)(w:World)(a:Addr)(xs:List Str):HO:=.ext λh=>h.SetOf (strKind P w) a (λy=>decide<|y∈i4 xs) (i4 xs).length
theorem Li(q:h.SetOf (strKind P w) a (λy=>decide<|y∈i4 xs) (i4 xs).length):bt P w H h a (P9 P w a xs):=by obtain⟨o,es,ep,t,ho,rest⟩:=id q;exact{q,⟨o,ho⟩,by rintro h1 h2 ⟨o,es,ep,t,ho,rest⟩ k;exact{o,es,ep,t,k _ ho,rest}}
theorem x5:∀{xs:List Str}{ay:List Value},Vals (xs.map V.str) ay->∀(i:Nat)(v:Value),ay[i]?=some v->∃x t,xs[i]?=some x/\v=.str x t|[],_,.nil,i,v,e=>by simp at e|x::xs,_,.cons r rs,0,v,e=>(by obtain⟨t,q⟩:=r;simp at e;exact{x,t,rfl,by rw[<-e];exact q})|x::xs,_,.cons r rs,i+1,v,e=>by obtain⟨y,t,e1,e2⟩:=x5 rs i v (by simpa using e);exact{y,t,by simpa using e1,e2}
section
variable{X:Cx}
theorem Fp{P:Program}{w:World}{K:Frag}(hP:X.prog=P)(hw:X.w=w)(hK:X.K=K)(hc:X.calm=true): fg X (.type "set") (λvs H Q=>∃p xs,vs=[.ref p]/\kh K H p (xs.map V.str)/\xs.length<4000/\∀l,H l=none->Q (.ref l) (upd H l<|P9 P w l xs)):=by
 subst hP;subst hw;subst hK;intro pins s σ H vs us Q I r h;obtain⟨p,xs,rfl,hq,hz,q⟩:=h;obtain⟨u,rfl,rx⟩:=vals1 r;cases rx;obtain⟨ay,r',pl,_⟩:=I.list hq;have hlen:xs.length=ay.toArray.size:=by have:=r'.length;simpa using this
 refine xZ (I.ok.hd hc) pl.isList hlen (λi v e=>x5 r' i v<|by simpa using e) (by rw[<-hlen];unfold scanBound;lia) λh' tk qs kp=>?_;refine{.ref s.heap.objs.size,_,I.laid (t':=tk) (λb o e=>kp b o (zw e) e) (zp _)<|Li qs,rfl,q _<|I.aM.fresh<|zp _}
theorem Fq(hP:X.prog=P)(hw:X.w=w):fg X (.builtin "len") (λvs H Q=>∃a xs,vs=[.ref a]/\H a=some (P9 P w a xs)/\Q (.int (i4 xs).length) H):=by subst hP;subst hw;intro pins s σ H vs us Q I r h;obtain⟨a,xs,rfl,ha,q⟩:=h;obtain⟨u,rfl,rx⟩:=vals1 r;cases rx;obtain⟨⟨o,es,ep,t,ho,hex,hd,YY,P_,hb,hf,hn⟩,_⟩:=I.aM a _ ha;refine call_len_set ho hex hd hf (by unfold scanBound at hb;lia) ?_;exact{.int (i4 xs).length,H,I.tok _,{_,by rw[hn]},q}
end
theorem uD(l:List Str):(i4 l).length=l.length↔l.Nodup:=by
 have all:∀(r c:List Str),c.Nodup->((r.foldl (λc x=>if x∈c then c else c++[x]) c).length=c.length+r.length↔(c++r).Nodup):=by intro r;induction r with|nil=>intro c hc;simpa using hc|cons x r ih=>intro c hc;rw[yP];by_cases h:x∈c;{rw[if_pos h];have le:(r.foldl (λc x=>if x∈c then c else c++[x]) c).length<=c.length+r.length:=(by have all2:∀(r c:List Str),(r.foldl (λc x=>if x∈c then c else c++[x]) c).length<=c.length+r.length:=(by intro r;induction r with|nil=>intro c;simp|cons x r ih=>intro c;rw[yP];refine zO (ih _) ?_;split<;>simp<;>try lia);exact all2 r c);refine{λe=>by simp at e;lia,λe=>?_};exact absurd rfl<|(List.nodup_append.mp e).2.2 x h x<|by simp};rw[if_neg h];have Ko:(c++[x]).Nodup:=mr hc h;have:=ih (c++[x]) Ko;simp only[zx,zS,List.length_nil,List.append_assoc,List.singleton_append]at this⊢;rw[<-this];constructor<;>intro e<;>lia
 simpa [i4]using all l [] List.nodup_nil
theorem i5:entryFor table "dict.update.loop"= some Builtin.«dict.update.loop»:=entryFor_of_tree<|by kernel_rfl
theorem dw:plainId "dict.update.loop"= true:=by trivial
theorem tL:typeLookup (.type "tuple") "keys"= pure none:=by rw[typeLookup_type,builtinLookup_eq_fast];kernel_rfl
section
variable{prog:Program}{w:World}{A:Around}{E:Value->Shared->Prop}{s:Shared}
theorem tM(hx:s.heap.get? a=some o)(hc:o.cls=.type "tuple")(Um:o.data=.seq xs k)(hd:o.dict=none)(hA:A.handled=none) (h:∀h' tk,(∀b ob,s.heap.get? b=some ob->h'.get? b=some ob)->Q none {s with heap:=h',toks:=tk}):wpAny (model prog w) A (getAttr? (.ref a) "keys") Q E s:=by
 obtain⟨c,cB,dat,sl⟩:=o;simp only at hc Um hd;subst hc Um hd;obtain⟨hp,g,d,tk,os⟩:=s;have hT:∀R_,(⟨hp,g,d,R_,os⟩:Shared).TypeIs (.ref a) "tuple":=λ_=>{_,hx,rfl};have f1:=sub_AttributeError;have f3:=F.slot_tuple_getattribute.lookup;have f4:=F.slot_tuple_getattribute.bind<|.ref a;have f5:=am_tuple_getattr_none;unfold getAttr? getAttrBy? getAttrBy;repeat (any_goals (first|assumption|exact hT _|((with_reducible show wpAny _ _ (call (Value.builtin "tuple.__getattribute__") _ _) _ _ _);refine call_meets F.slot_tuple_getattribute (hT _) am_entry_tuple_getattribute (F.args_tuple_getattribute_2 _ _) (meets_getattribute_miss_tuple a xs k sl "keys" _ tL (by trivial)<|by size_fits) {hx,hA,λh' R_ e HH=>?_})|wp_step))
 obtain⟨t',u',he⟩:=HH.there;show wpAny _ _ (getattributeRaised _ _ _ _ _ _ _) _ _ _;unfold getattributeRaised;repeat (any_goals (first|assumption|wp_step))
 exact h _ _ HH.keeps
end
section
variable{prog:Program}{w:World}{A:Around}{R:Result->Shared->Prop}{I:Addr}{fp wr:List Addr}{G:Array GenState->Array GenState->Prop}{n:Nat}{P:Nat->Value->Prop}{St:Nat->Shared->Prop}
theorem Ft(W:WalksS prog w A.in1 I fp wr G n P St)(D:Addr)(hDf:D∉fp)(kvs:List<|Key×Value)(hx:kvs.length=n)(base:Heap) (P5:∀i v,P i v->∃(b:Addr) (k:Key) (key val:Value) (o:Obj) (m:Nat),kvs[i]?=some (k,val)/\v=.ref b/\(aH prog w).is k key=true/\base.get? b=some o/\o.cls=.type "tuple"/\o.data=.seq #[key,val] m/\b≠D/\b∉wr) (hb:n<=sizeLine): ∀(k i:Nat) (s:Shared) (c:Int) (t:Tok),i+k=n->St i s->s.heap.DictOf (aH prog w) D (merged []<|kvs.take i)->(∀b o,base.get? b=some o->b≠D->b∉wr->s.heap.get? b=some o)->(∀s',Moved (D::wr) G s s'->s'.heap.DictOf (aH prog w) D (merged [] kvs)->R (.ok<|.ret .none) s')->codeAny (model prog w) A (.builtin "dict.update.loop" {[.ref D,.ref I,.int c t,.none],[]}) R s:=by have nw:D∉wr:=λh=>hDf<|W.sub _ h;have up:∀b∈wr,b∈D::wr:=λb hb=>zh _ hb;intro k;induction k with|zero=>(intro i s c t hk xI hS hB hR;have e:i=n:=(by lia);subst e;refine yQ i5 ?_;rw[Around.under_plainId dw _];show wpAny _ A.in1 (pyNext (.ref I) >>=_) _ _ s;refine zc<|W.done s _ _ xI λs' hm=>?_;show wpAny _ A.in1 (Builtin.Dict.addKeywords D [] >>=_) _ _ s';have q:s'.heap.DictOf (aH prog w) D (merged []<|kvs.take i):=(by obtain⟨o,es,ep,ho,rest⟩:=hS;exact{o,es,ep,hm.heap D _ nw ho,rest});rw[<-hx,yr]at q;exact zc<|zD<|zD<|hR s' (hm.mono up) q)|succ k ih=>intro i s c t hk xI hS hB hR;have lt:i<n:=(by lia);refine yQ i5 ?_;rw[Around.under_plainId dw _];show wpAny _ A.in1 (pyNext (.ref I) >>=_) _ _ s;refine zc<|W.item i s _ _ lt xI λv s' hP P6 hm=>?_;obtain⟨b,ky,key,val,o,m,ek,rfl,Pj,ho,hc,hd,hbD,hbw⟩:=P5 i v hP;have q:s'.heap.DictOf (aH prog w) D (merged []<|kvs.take i):=(by obtain⟨o,es,ep,ho,rest⟩:=hS;exact{o,es,ep,hm.heap D _ nw ho,rest});have hb':s'.heap.get? b=some o:=hm.heap b o hbw<|hB b o ho hbD hbw;have room:(merged []<|kvs.take i).length<=sizeLine:=(by have:=merged_length_le ([]:List (Key×Value))<|kvs.take i;rw[yz]at this;simp at this;lia);have tk:merged [] (kvs.take<|i+1)=stored (merged []<|kvs.take i) ky val:=merged_take_succ [] kvs i (ky,val) ek;refine zc<|yL<|zc<|wpAny_tryCatch ?_;unfold Builtin.Dict.pairItems;refine zc<|wpAny_typeOf (T:="tuple") ⟨o,hb',hc⟩ ?_;show wpAny _ A.in1 (seqItems? (.ref b) >>=_) _ _ s';refine zc<|wpAny_seqItems hb' hd<|zD ?_;show wpAny _ A.in1 (holding [key,val]<|dictSet D key val) _ _ s';refine yL<|wpAny_dictSet_pairs Pj q (λh' q2 Lh=>?_) room;rw[<-tk]at q2;refine zD {plainId_quiet dw _,ih (i+1) _ _ _ (by lia) (W.frame _ s' _ _ P6 (yT _) λb hb o e=>?_) q2 (λb o e h1 h2=>?_) λBz P7 YW=>?_};rw[Lh.2 b (λh:b=D=>hDf<|by rw[<-h];exact hb)];exact e;rw[Lh.2 b h1];exact hm.heap b o h2<|hB b o e h1 h2;refine hR Bz (Moved.trans W.gtrans ((hm.mono up).then_heap (yT _) λb o hb e=>?_) P7) YW;rw[Lh.2 b (λh:b=D=>hb<|by rw[h];exact zm)];exact e
theorem tN(hh:A.handled=none)(gl:s.heap.get? l=some ol)(cl:ol.cls=.type "tuple")(dl:ol.data=.seq items m)(nl:ol.dict=none)(hx:kvs.length=items.size) (hi:∀(i:Nat) (v:Value),items[i]?=some v->∃(b:Addr) (k:Key) (key val:Value) (o:Obj) (m:Nat),kvs[i]?=some (k,val)/\v=.ref b/\(aH prog w).is k key=true/\s.heap.get? b=some o/\o.cls=.type "tuple"/\o.data=.seq #[key,val] m) (hb:items.size<=sizeLine) (h:∀(h':Heap) (tk:Nat),h'.DictOf (aH prog w) s.heap.objs.size (merged [] kvs)->(∀b o,s.heap.get? b=some o->h'.get? b=some o)->Q (.ref s.heap.objs.size) {s with heap:=h',toks:=tk}): wpAny (model prog w) A (call (.type "dict") [.ref l]) Q E s:=by
 refine callType_codes (Q₁:=λobj bc=>obj=.ref s.heap.objs.size/\bc={s with heap:=s.heap.push {cls:=.type "dict",data:=.dict #[]}}) F.kt_called_dict (F.kt_typeCall_dict_1 _) F.entry_dict_init (kt_code_dict_new _ ⟨rfl,rfl⟩) ?_;rintro obj bc ⟨rfl,rfl⟩;have Qa:(s.heap.push {cls:=.type "dict",data:=.dict #[]}).DictOf (aH prog w) s.heap.objs.size []:=Heap.DictOf.new s.heap;have Ul:(s.heap.push {cls:=.type "dict",data:=.dict #[]}).get? l=some ol:=za _ gl;refine{Qa.typeIs,F.args_dict_init_2 _ _,?_};unfold Builtin.«dict.__init__»;refine zc ?_;unfold Builtin.Dict.selfAndRest;refine zc<|wpAny_notOrdered_dict Qa.typeIs ?_;show wpAny _ _ (pure (s.heap.objs.size,[Value.ref l])) _ _ _;refine zD ?_;show wpAny _ _ (Builtin.Dict.updateFrom "dict.__init__" s.heap.objs.size (.ref l) [] .none) _ _ _;unfold Builtin.Dict.updateFrom;refine zc<|wpAny_typeOf (T:="tuple") ⟨ol,Ul,cl⟩ ?_;rw[if_pos<|by decide];have h3:A.in1.in1.handled=none:=by simp[hh]
 refine zc<|tM Ul cl dl nl h3 λh1 tk1 W3=>?_;have g1:h1.get? l=some ol:=W3 _ _ Ul;have d1:h1.DictOf (aH prog w) s.heap.objs.size []:=by obtain⟨o,es,ep,ho,rest⟩:=Qa;exact{o,es,ep,W3 _ _ ho,rest}
 have lD:s.heap.objs.size<h1.objs.size:=by obtain⟨o,es,ep,ho,rest⟩:=d1;exact zw ho
 have ll:l<s.heap.objs.size:=zw gl;show wpAny _ _ (rule _ >>=_) _ _ _;refine zc<|wpAny_rule ?_;have it1:h1.IsTuple l items:=⟨ol,g1,cl,m,dl⟩;refine zc<|wpAny_pyIter_tuple (s:=⟨h1,s.gens,s.drawn,tk1,s.os⟩) it1 ?_;have ne:l≠h1.objs.size:=zE<|Nat.lt_trans ll lD;have nf:s.heap.objs.size∉[h1.objs.size,l]:=by simp only[zi,zA,zH,or_false,not_or];exact{zE lD,yo ll}
 refine zD {plainId_quiet dw _,?_};refine Ft ((Walks.tuple h3 _ l ne items).toS) s.heap.objs.size nf kvs hx s.heap (λi v e=>?_) hb (items.size-0) 0 _ _ _ (by lia) {{_,zk _ rfl,rfl,rfl},it1.push _} ?hS0 ?hB ?hR;obtain⟨b,k,key,val,o,m',e1,e2,e3,e4,e5,e6⟩:=hi i v e;have lb:=zw e4;exact{b,k,key,val,o,m',e1,e2,e3,e4,e5,e6,zE lb,by simp;exact zE<|Nat.lt_trans lb lD};case hS0=>exact d1.push _
 case hB=>exact λb o e Fu YZ=>za _<|W3 _ _<|za _ e
 case hR =>
  intro s' hm q
  obtain⟨h',g',d',R_,TC⟩:=s'
  have eg:g'=s.gens:=hm.gens;have ed:d'=s.drawn:=hm.drawn;have eo:TC=s.os:=hm.os
  subst eg;subst ed;subst eo
  refine{rfl,h h' R_ q λb o e=>?_}
  have lb:=zw e
  refine hm.heap b o ?_<|za _<|W3 _ _<|za _ e
  simp only[zi,zA,zH,or_false,not_or];exact{zE lb,zE<|Nat.lt_trans lb lD}
end
noncomputable def DK(l:List<|Str×V):List (Key×V):=l.foldl (λc p=>putK c (.inr p.1) p.2) []
def Prs(H:Hp)(ps:List V)(kvs:List<|Str×V):Prop:=kvs.length=ps.length/\∀(i:Nat)(x:V)(p:Str×V),ps[i]?=some x->kvs[i]?=some p->∃b,x=.ref b/\H b=some (.tup [.str p.1,p.2])
section
variable{X:Cx}
theorem BN(hc:X.calm=true):fg X (.type "dict") (λvs H Q=>∃p ps kvs,vs=[.ref p]/\H p=some (.tup ps)/\Prs H ps kvs/\∀l,H l=none->Q (.ref l) (upd H l<|.dK<|DK kvs)):=by
 intro pins s σ H vs us Q I r h;obtain⟨p,ps,kvs,rfl,hp,⟨hl,hq⟩,q⟩:=h;obtain⟨u,rfl,rx⟩:=vals1 r;cases rx;obtain⟨hz,ay,rv,ol,gl,cl,nl,m,dl⟩:=(show bt X.prog X.w H s.heap p (.tup ps) from I.aM p _ hp);have hlen:=rv.length;have each:∀(i:Nat)(x:V)(pr:Str×V),ps[i]?=some x->kvs[i]?=some pr->∃(b:Addr)(key val:Value)(o:Obj)(m:Nat),ay[i]?=some (.ref b)/\(aH X.prog X.w).is (.inr pr.1) key=true/\RelV pr.2 val/\s.heap.get? b=some o/\o.cls=.type "tuple"/\o.data=.seq #[key,val] m:=by intro i x pr e1 e2;obtain⟨b,rfl,hb⟩:=hq i x pr e1 e2;obtain⟨u,e3,ru⟩:=rv.get e1;cases ru;obtain⟨_,it2,r2,o,go,co,no,m2,do2⟩:=(show bt X.prog X.w H s.heap b (.tup [.str pr.1,pr.2]) from I.aM b _ hb);obtain⟨k',v',rfl,⟨tk,rfl⟩,rv'⟩:=r2.two;exact{b,_,v',o,m2,e3,jo _ _ _ _,rv',go,co,by simpa using do2}
 have kv:∃vals:List (Key×Value),KV (kvs.map λp=>((.inr p.1:Key),p.2)) vals/\∀(i:Nat)(x:V),ps[i]?=some x->∃(b:Addr)(k:Key)(key val:Value)(o:Obj)(m:Nat),vals[i]?=some (k,val)/\ay[i]?=some (.ref b)/\(aH X.prog X.w).is k key=true/\s.heap.get? b=some o/\o.cls=.type "tuple"/\o.data=.seq #[key,val] m:=by clear hp q rv dl hz;induction kvs generalizing ps ay with|nil=>refine{[],.nil,λi x e=>?_};have:ps=[]:=List.eq_nil_of_length_eq_zero (by simpa using hl.symm);subst this;simp at e|cons pr r ih=>cases ps with|nil=>simp at hl|cons y ys=>cases ay with|nil=>simp at hlen|cons w0 ws=>obtain⟨b,key,val,o,m,e1,e2,e3,e4,e5,e6⟩:=each 0 y pr rfl rfl;obtain⟨vals,k1,k2⟩:=ih ys (by simpa using hl) (λi x p a b=>hq (i+1) x p (by simpa using a)<|by simpa using b) ws (by simpa using hlen) (λi x p a b=>by simpa using each (i+1) x p (by simpa using a) (by simpa using b));refine{(.inr pr.1,val)::vals,.cons ⟨rfl,e3⟩ k1,λi x e=>?_};cases i with|zero=>exact{b,.inr pr.1,key,val,o,m,rfl,e1,e2,e4,e5,e6}|succ i=>simpa using k2 i x (by simpa using e)
 obtain⟨vals,kv1,kv2⟩:=kv;have lv:vals.length=ay.length:=by have:=kv1.length;rw[zb]at this;lia
 refine tN (kvs:=vals) (I.ok.hd hc) gl cl dl nl (by simpa using lv) (λi v e=>?_) (by simp;lia) λh' tk qs kp=>?_;have e':ay[i]?=some v:=by simpa using e
 have hi:i<ay.length:=(ze.mp e').1;obtain⟨b,k,key,val,o,m',e1,e2,e3,e4,e5,e6⟩:=kv2 i (ps[i]'(by lia))<|zg _;rw[e']at e2;exact{b,k,key,val,o,m',e1,zU e2,e3,e4,e5,e6};have rel:KV (DK kvs) (merged [] vals):=by have all:∀(l:List (Str×V))(vl:List (Key×Value))(c:List (Key×V))(cv:List (Key×Value)),KV (l.map λp=>((.inr p.1:Key),p.2)) vl->KV c cv->KV (l.foldl (λc p=>putK c (.inr p.1) p.2) c) (merged cv vl):=(by intro l;induction l with|nil=>(intro vl c cv h1 h2;cases h1;exact h2)|cons p r ih=>intro vl c cv h1 h2;cases h1 with|@cons _ q _ qs r1 r2=>obtain⟨k,v⟩:=q;obtain⟨rfl,rv⟩:=r1;exact ih qs _ _ r2<|h2.put _ rv);exact all kvs vals [] [] kv1 .nil
 have big:=I.big;refine{.ref s.heap.objs.size,_,I.laid (t':=tk) (λb o e=>kp b o e) (zp _) (o:=.dK<|DK kvs) {?_,?_,_,rel,qs},rfl,q _<|I.aM.fresh<|zp _};have e1:=rel.length;have e2:=merged_length_le ([]:List (Key×Value)) vals;simp at e2;lia;simp;exact yo big
def Uo(K:Frag):R2:=λx y H Q=>∃a b xs ys,x=.ref a/\y=.ref b/\g_ K H a xs/\g_ K H b ys/\xs.length+ys.length<=sizeLine/\(xs=[]->Q (.ref b) H)/\(xs≠[]->ys=[]->Q (.ref a) H)/\(xs≠[]->ys≠[]->∀p,H p=none->Q (.ref p) (upd H p<|.tup<|xs++ys))
theorem Lj:hG X (binaryOp .Add) (Uo X.K):=by intro pins s σ H x y v u Q I rx ry h;obtain⟨a,b,xs,ys,rfl,rfl,ha,hb,hz,q0,q1,q2⟩:=h;by_cases hx:xs=[];cases rx;cases ry;obtain⟨ay,r1,p1,_⟩:=I.tuple ha;obtain⟨pX,r2,p2,_⟩:=I.tuple hb;obtain⟨⟨cls,dd,data,sl⟩,ho,hc,n,hd⟩:=id p1;obtain⟨⟨Yn,WW,data2,J2⟩,Pq,KN,n2,hd2⟩:=id p2;simp only at hc hd KN hd2;subst hc hd KN hd2;have e:ay=[]:=r1.qt.mpr hx;exact concat_meets {_,ho,rfl} {_,Pq,rfl} noFill_tuple_add seq_tuple_add PySem.F.slot_tuple_add PySem.F.entry_tuple_add (PySem.F.args_tuple_add_2 _ _) (tuple_addW0 a b ay.toArray pX.toArray n n2 dd WW sl J2<|by simp[e]) {ho,Pq,.ref b,H,I,rfl,q0 hx};exact KR pins s σ H _ _ v u Q I rx ry {a,b,xs,ys,rfl,rfl,ha,hb,hx,hz,q1 hx,q2 hx}
theorem smz(h:n<=1000):n<=sizeLine:=yO<|kj h
end
abbrev mx(h:Heap)(T:Addr)(arr:Array Value):Prop:=h.get? T=some {cls:=.type "tuple",data:=.seq arr}
theorem vG(hs:Heap.ExtBut b h h')(n:a≠b)(x:h.IsTupleIter a l i):h'.IsTupleIter a l i:=x.extBut hs n
theorem NG{h h':Heap}{a l:Addr}{i:Nat}(k:∀o,h.get? a=some o->h'.get? a=some o)(x:h.IsTupleIter a l i):h'.IsTupleIter a l i:=by obtain⟨o,e,r⟩:=x;exact{o,k o e,r}
section
variable{prog:Program}{w:World}{A:Around}{E:Value->Shared->Prop}{s:Shared}
theorem Y0(h:n<=3):n<=sizeLine:=smz<|zO h<|by decide
theorem Fv(hT:mx s.heap T arr)(hz:arr.size<=3)(h:∀h',mx h' T (arr.setIfInBounds k x)->Heap.SameBut T s.heap h'->Q () {s with heap:=h'}):wpAny (model prog w) A (updateSeq T (·.setIfInBounds k x)) Q E s:=by refine wpAny_updateSeq hT rfl (h _ ?_<|yB ..) (hz:=Y0 hz) (_hz':=by have:=Y0 hz;simp;lia);show Heap.get? _ _=_;rw[yw _ hT rfl];simp[Obj.mapSeq]
theorem BO(hit:s.heap.IsTupleIter it l i)(hl:s.heap.IsTuple l items)(hx:items[i]?=some x)(hQ:∀h',h'.IsTupleIter it l (i+1)->Heap.SameBut it s.heap h'->Q x {s with heap:=h'}): wpAny (model prog w) A (Builtin.SmallTypes.nextOf<|.ref it) Q E s:=by obtain⟨o,ho,hc,hd⟩:=id hit;obtain⟨ol,Qb,_,nl,Lk⟩:=hl;unfold Builtin.SmallTypes.nextOf;refine zc<|wpAny_callSpecial?_slot (name:=Str.ofString "__next__") hit.typeIs F.slot_tuple_iterator_next<|yM F.slot_tuple_iterator_next hit.typeIs F.entry_tuple_iterator_next ?_<|F.args_tuple_iterator_next_1 _;show wpAny _ _ (field (.ref it) 0 >>=_) _ _ s;refine zc<|yi ho hd (x:=.ref l) rfl ?_;show wpAny _ _ (if (Value.ref l==Value.none)=true then _ else _) _ _ s;rw[if_neg<|show ¬((Value.ref l==Value.none)=true) from zd];show wpAny _ _ (field (.ref it) 1 >>=_) _ _ s;refine zc<|yi ho hd (x:=.int i 0) rfl ?_;show wpAny _ _ (seqItems? (.ref l) >>=_) _ _ s;refine zc<|wpAny_seqItems Qb Lk ?_;simp only[Int.toNat_natCast,hx];refine zc<|yS ho hd (by simp)<|zD {x,rfl,zD<|hQ _ {_,yw _ ho<|Obj.isFreed_of_fields<|yy hd _,(Obj.cls_mapFields ..).trans hc,by rw[yy hd];simp[rawInt]}<|yB ..}
theorem q_(hh:A.handled=none)(hit:s.heap.IsTupleIter it l i)(hl:s.heap.IsTuple l items)(hx:items[i]?=none) (hE:∀h' e,Heap.ExtBut it s.heap h'->(∃o,h'.get? e=some o/\o.cls=.type "StopIteration")->E (.ref e) {s with heap:=h'}):wpAny (model prog w) A (Builtin.SmallTypes.nextOf<|.ref it) Q E s:=by
 obtain⟨o,ho,hc,hd⟩:=id hit;obtain⟨ol,Qb,_,nl,Lk⟩:=hl;unfold Builtin.SmallTypes.nextOf;refine zc<|wpAny_callSpecial?_slot (name:=Str.ofString "__next__") hit.typeIs F.slot_tuple_iterator_next<|yM F.slot_tuple_iterator_next hit.typeIs F.entry_tuple_iterator_next ?_<|F.args_tuple_iterator_next_1 _;show wpAny _ _ (field (.ref it) 0 >>=_) _ _ s;refine zc<|yi ho hd (x:=.ref l) rfl ?_;show wpAny _ _ (if (Value.ref l==Value.none)=true then _ else _) _ _ s;rw[if_neg<|show ¬((Value.ref l==Value.none)=true) from zd];show wpAny _ _ (field (.ref it) 1 >>=_) _ _ s;refine zc<|yi ho hd (x:=.int i 0) rfl ?_;show wpAny _ _ (seqItems? (.ref l) >>=_) _ _ s;refine zc<|wpAny_seqItems Qb Lk ?_;simp only[Int.toNat_natCast,hx];refine zc<|wpAny_rule<|zc<|yS ho hd (by simp) ?_;show wpAny _ _ (newExc (.type "StopIteration") [] >>=_) _ _ _;refine zc ?_;simp only[newExc,newTuple];refine zc<|yI ?_ (by size_fits);refine zc (m:=firstArgMember _ _)<|yX (a:=Value.none) (by first|rfl|(simp only[firstArgMember];rfl)) ?_;refine yI ?_ (by size_fits);simp only[raiseNew];refine zc<|wpAny_handled ?_;first|rw[show A.in1.handled=none from hh]|rw[hh]
 refine zc<|zD<|wpAny_throw<|hE _ _ (((yB ..).extBut.push _).push _) {_,zk _ rfl,rfl}
end
def ZS2(n l0 l1:Nat)(i:Nat)(h:Heap):Prop:=IsZip h (n+4) (n+2) (n+3) .none/\mx h (n+2) #[.ref n,.ref<|n+1]/\(∃arr:Array Value,arr.size=2/\mx h (n+3) arr)/\h.IsTupleIter n l0 i/\h.IsTupleIter (n+1) l1 i
section
variable{X:Cx}{pins:List (Addr×Obj)}{σ:St}{H:Hp}{s:Shared}{h':Heap}
theorem Inv.Ll(I:Inv X pins σ H s)(wr:List Addr)(hw:∀b∈wr,tH X pins H b)(k:∀b o,b∉wr->s.heap.get? b=some o->h'.get? b=some o):Inv X pins σ H {s with heap:=h',toks:=t'}:=by refine I.step (g':=s.gens) (d':=s.drawn) (ch:=wr) (λb hb=>by obtain⟨_,a,_,c,d,e⟩:=hw b hb;exact⟨c,a,d,e⟩) (λb o _ _ hc e _=>k b o hc e) (λb o _ _ hc e _=>{o.slots,k b o hc e}) (λ_ _ _ _ n=>n) (λb o hc e=>{o,k b o hc e}) (λ_ _ e=>e) (λ_ _ _ e=>e) (λb ps e=>{#[],by rw[e];simp}) (λm hm=>?_) (λb u e=>?_) I.bare;obtain⟨o,es,ep,ho,r⟩:=hm;exact{o,es,ep,k _ o (λz=>(hw _ z).2.1 rfl) ho,r};refine(I.aM b u e).pS (λc v hc q=>k c v (λz=>?_) q) (λ_ q=>q) λ_ _ q=>q;have n:=(hw c z).1;rcases hc with rfl|hc;rw[n]at e;cases e;rw[n]at hc;cases hc
theorem Inv.Ln(I:Inv X pins σ H s)(wr:List Addr)(hw:∀b∈wr,tH X pins H b)(k:∀b o,b∉wr->s.heap.get? b=some o->h'.get? b=some o)(hT:s.heap.get? T=none)(new:bt X.prog X.w (upd H T o) h' T o): Inv X pins σ (upd H T o) {s with heap:=h',toks:=t'}:=by
 have fr:H T=none:=by cases q:H T with|none=>rfl|some u=>obtain⟨z,e⟩:=(I.aM T u q).get;rw[hT]at e;cases e
 have ne:∀b u,H b=some u->b≠T:=λb u e z=>by rw[z,fr]at e;cases e
 refine I.step (g':=s.gens) (d':=s.drawn) (ch:=wr) (λb hb=>by obtain⟨_,a,_,c,d,e⟩:=hw b hb;exact⟨c,a,d,e⟩) (λb o _ _ hc e _=>k b o hc e) (λb o _ _ hc e _=>{o.slots,k b o hc e}) (λb ob _ e n=>?_) (λb o hc e=>{o,k b o hc e}) (λb xs e=>by rw[aw<|ne b _ e];exact e) (λb ob u e=>by rw[aw<|ne b _ e];exact e) (λb ps e=>{#[],by rw[aw<|ne b _ e,e];simp}) (λm hm=>?_) (λb u e=>?_) I.bare;have:b≠T:=λz=>by rw[z,hT]at e;cases e
 rw[aw this];exact n;obtain⟨o,es,ep,ho,r⟩:=hm;exact{o,es,ep,k _ o (λz=>(hw _ z).2.1 rfl) ho,r};by_cases hb:b=T;subst hb;rw[aE]at e;cases e;exact new;rw[aw hb]at e;refine(I.aM b u e).pS (λc v hc q=>k c v (λz=>?_) q) (λc q=>by rw[aw<|ne c _ q];exact q) λc xs q=>by rw[aw<|ne c _ q];exact q
 have n:=(hw c z).1;rcases hc with rfl|hc;rw[n]at e;cases e;rw[n]at hc;cases hc
end
noncomputable abbrev Lo(h:Heap)(l0:Addr):Heap:=(h).push {cls:=.type "tuple_iterator",data:=.fields #[.ref l0,.int 0 0]}
noncomputable abbrev Lp(h:Heap)(l0 l1:Addr):Heap:=(Lo h l0).push {cls:=.type "tuple_iterator",data:=.fields #[.ref l1,.int 0 0]}
noncomputable abbrev Lq(h:Heap)(l0 l1:Addr):Heap:=(Lp h l0 l1).push {cls:=.type "tuple",data:=.seq #[.ref h.objs.size,.ref (Lo h l0).objs.size]}
noncomputable abbrev Ls(h:Heap)(l0 l1:Addr):Heap:=(Lq h l0 l1).push {cls:=.type "tuple",data:=.seq #[.none,.none]}
noncomputable abbrev BR(h:Heap)(l0 l1:Addr):Heap:=(Ls h l0 l1).push {cls:=.type "zip",data:=.fields #[.none,.bool false,.bool false,.ref (Lp h l0 l1).objs.size,.ref (Lq h l0 l1).objs.size]}
theorem BS(l0 l1:Addr)(BP BQ:Array Value):Meets (Builtin.«zip.__new__» {[.type "zip",.ref l0,.ref l1],[]}) (λ_ R s=>s.heap.IsTuple l0 BP/\s.heap.IsTuple l1 BQ/\R (.ok<|.ret<|.ref (Ls s.heap l0 l1).objs.size) {s with heap:=BR s.heap l0 l1}):=.of_wp λprog w A R s h=>by obtain⟨hp,g,d,tk,os⟩:=s;obtain⟨t0,t1,h⟩:=h;have Y1:=sub_zip;have L0:Heap.IsTuple (Shared.heap ⟨hp,g,d,tk,os⟩) l0 BP:=t0;have L1:Heap.IsTuple (Shared.heap {hp.push {cls:=.type "tuple_iterator",data:=.fields #[.ref l0,.int 0 0]},g,d,tk,os}) l1 BQ:=Heap.IsTuple.push (t1) _;wp_walk using wpAny_pyIter_tuple L0,wpAny_pyIter_tuple L1;exact{_,rfl,h}
theorem BU(t0:s.heap.IsTuple l0 BP)(t1:s.heap.IsTuple l1 BQ) (h:∀h',ZS2 s.heap.objs.size l0 l1 0 h'->(∀c o,s.heap.get? c=some o->h'.get? c=some o)->Q (.ref<|s.heap.objs.size+4) {s with heap:=h'}):wpAny (model prog w) A (call (.type "zip") [.ref l0,.ref l1]) Q E s:=by
 refine callType_new F.called_zip (by decide) (F.typeCall_zip_2 _ _) (F.newCall_zip_2 _ _) (λobj=>F.args_object_init_3 obj _ _) F.entry_zip_new (BS l0 l1 BP BQ) {t0,t1,?_};have z1:(Lo s.heap l0).objs.size=s.heap.objs.size+1:=yb ..;have z2:(Lp s.heap l0 l1).objs.size=s.heap.objs.size+2:=by rw[yb,z1]
 have z3:(Lq s.heap l0 l1).objs.size=s.heap.objs.size+3:=by rw[yb,z2]
 have z4:(Ls s.heap l0 l1).objs.size=s.heap.objs.size+4:=by rw[yb,z3]
 have z5:(BR s.heap l0 l1).objs.size=s.heap.objs.size+5:=by rw[yb,z4]
 have g0:(BR s.heap l0 l1).get? (s.heap).objs.size=some _:=za _<|za _<|za _<|za _<|zk _ rfl;have g1:(BR s.heap l0 l1).get? (Lo s.heap l0).objs.size=some _:=za _<|za _<|za _<|zk _ rfl;have g2:(BR s.heap l0 l1).get? (Lp s.heap l0 l1).objs.size=some _:=za _<|za _<|zk _ rfl;have g3:(BR s.heap l0 l1).get? (Lq s.heap l0 l1).objs.size=some _:=za _<|zk _ rfl;have g4:(BR s.heap l0 l1).get? (Ls s.heap l0 l1).objs.size=some _:=zk _ rfl;show _/\_;rw[z2,z3,z4]at g4;rw[z3]at g3;rw[z1,z2]at g2;rw[z1]at g1;rw[z4];exact{{_,g4,rfl},h _ {g4,g2,!⟨g3⟩,{_,g0,rfl,rfl},{_,g1,rfl,rfl}} λc o x=>za _<|za _<|za _<|za _<|za _ x}
def Lu(K:Frag):V->List V->Hp->VK->Prop:=λx vs H Q=>∃(a:Addr)(xs:List V)(y z:V)(j:Nat),x=.ref a/\vs=[y]/\kh K H a xs/\hU y=true/\xs.all hU=true/\xs[j]?=some z/\eqV z y=true/\(∀m u,m<j->xs[m]?=some u->eqV u y=false)/\Q (.int j) H
theorem Fw:R4 X "list.index" (Lu X.K):=by
 intro pins s σ H x vs v us Q I rx rv h;obtain⟨a,xs,y,z,j,rfl,rfl,hq,fy,fx,hj,hit,Y2,q⟩:=h;cases rx;obtain⟨u,rfl,ru⟩:=rv.one;obtain⟨ay,r,p,hz⟩:=I.list hq;obtain⟨⟨cls,dd,data,sl⟩,ho,hc,n,hd⟩:=p.isList;simp only at hc hd;subst hc hd;have hl:=r.length;have eC:j<xs.length:=(ze.mp hj).1;have fl:∀(m:Nat)(w:V),xs[m]?=some w->hU w=true:=λm w e=>yg.mp fx w<|zo e;have at':∀(m:Nat)(hm:m<ay.toArray.size)(w:V),xs[m]?=some w->He y ay.toArray[m]=eqV w y:=λm hm w e=>by obtain⟨u',e',ru'⟩:=r.get e;have:ay.toArray[m]=u':=(by have:=ze.mp e';simpa using this.2);rw[this];exact BB ru'<|fl m w e
 have hs:sizeLine=16777216:=yd;refine call_meets PySem.F.slot_list_index {_,ho,rfl} PySem.F.entry_list_index (PySem.F.args_list_index_2 _ _) (SeqAt.list_indexAt a ay.toArray n dd sl u (He y) j (by simp;lia) (by lia) ?_ ?_) {ho,λw hw=>mn ru fy r fx w<|by simpa using hw,{.int j,H,I.tok _,{_,rfl},q}};rw[at' j _ z hj];exact hit;intro m hm hmj;have hmx:m<xs.length:=by lia
 rw[at' m hm _<|zg hmx];exact Y2 m _ hmj<|zg hmx
def Up:R2:=λx y H Q=>∃z n,x=.str z/\y=.int n/\MulOk z n/\Q (.str<|PySem.Txt.mul z n) H
theorem BV:hG X (binaryOp .Mult) Up:=by intro pins s σ H x y v u Q I rx ry h;obtain⟨z,n,rfl,rfl,hm,q⟩:=h;obtain⟨t,rfl⟩:=rx;obtain⟨t',rfl⟩:=ry;exact SB.mul hm λt'' k=>{.str _,H,I.tok k,{_,rfl},q}
def J6(w:World)(K:Frag)(a:Addr)(kvs:List<|Str×V):Prop:=(a==sysModules)=false/\∃(o:Obj)(es:Array DictEntry)(ep:Nat),K.lookup a=some o/\o.ExactDict/\o.data=.dict es ep/\Paired (λ(e:DictEntry)(kv:Str×V)=>e.hash=hashStr w kv.1/\(∃t,e.key=.str kv.1 t)/\RelV kv.2 e.val) es.toList kvs/\(kvs.map Prod.fst).Nodup
theorem rf(z:Str):∀kvs:List (Str×V),gs (kvs.map λp=>((.inr p.1:Key),p.2)) (.inr z)=kvs.lookup z
 |[]=>rfl
 | (x,v)::r=>by
  rw[zu,yf];by_cases e:z=x;subst e;rw[qS rfl];simp;have e1:(z==x)=false:=by simpa using e
  rw[qU λq=>e (yK q).symm,e1];exact rf z r
section
variable{X:Cx}{pins:List (Addr×Obj)}{σ:St}{H:Hp}{s:Shared}{a:Addr}{kvs:List (Str×V)}
theorem BW(I:Inv X pins σ H s)(d:J6 X.w X.K a kvs):(a==sysModules)=false/\∃vs,KV (kvs.map λp=>((.inr p.1:Key),p.2)) vs/\s.heap.DictOf (aH X.prog X.w) a vs:=by
 obtain⟨ns,o,es,ep,hk,hx,hd,hp,hn⟩:=d;have all:∀(es:List DictEntry)(kvs:List (Str×V)),Paired (λ(e:DictEntry)(kv:Str×V)=>e.hash=hashStr X.w kv.1/\(∃t,e.key=.str kv.1 t)/\RelV kv.2 e.val) es kvs->∃vs:List (Key×Value),KV (kvs.map λp=>((.inr p.1:Key),p.2)) vs/\Pairs (aH X.prog X.w) es vs/\vs.map (·.1)=kvs.map (λp=>(.inr p.1:Key))/\∀e∈es,∃k,(aH X.prog X.w).is k e.key=true/\e.hash=(aH X.prog X.w).hash k:=by intro es kvs hp;induction hp with|nil=>exact{[],.nil,.nil,rfl,by simp}|@cons e kv WN kvs' h t ih=>obtain⟨vs,k1,k2,k3,k4⟩:=ih;obtain⟨h1,⟨tk,h2⟩,h3⟩:=h;have hi:(aH X.prog X.w).is (.inr kv.1) e.key=true:=(by rw[h2];exact jo _ _ _ _);refine{(.inr kv.1,e.val)::vs,.cons ⟨rfl,h3⟩ k1,.cons hi rfl k2,by rw[zu,zu,k3],λe' he=>?_};rcases zi.mp he with rfl|he;exact{.inr kv.1,hi,h1};exact k4 e' he
 obtain⟨vs,k1,k2,k3,k4⟩:=all _ _ hp;refine{ns,vs,k1,o,es,ep,I.oP a o hk,hx,hd,λe he=>k4 e<|by simpa using he,k2,?_};rw[k3];have:(kvs.map λp=>(.inr p.1:Key))=(kvs.map Prod.fst).map Sum.inr:=by rw[zG];rfl
 rw[this];exact List.Pairwise.map _ (λx y h q=>h<|yK q) hn
theorem HJ{w:World}{K:Frag}(hw:X.w=w)(hK:X.K=K):hG X (compareOp .In) (λx y H Q=>∃z a kvs,x=.str z/\y=.ref a/\J6 w K a kvs/\Q (.bl (kvs.lookup z).isSome) H):=by subst hw hK;intro pins s σ H x y v u Q I rx ry h;obtain⟨z,a,kvs,rfl,rfl,d,q⟩:=h;cases ry;obtain⟨ns,vs,rel,dd⟩:=BW I d;refine wpAny_in_of (jt (k:=.inr z) rx) ns dd.mapOf ?_;rw[<-(rel.val<|.inr z).nN,rf];exact{.bl _,H,I.tok _,rfl,q}
def Uq(w:World)(K:Frag):V->List V->Hp->VK->Prop:=λx vs H Q=>∃a z kvs,x=.ref a/\vs=[.str z]/\J6 w K a kvs/\Q ((kvs.lookup z).getD .av) H
theorem Lv{w:World}{K:Frag}(hw:X.w=w)(hK:X.K=K):R4 X "dict.get" (Uq w K):=by subst hw hK;intro pins s σ H x vs v us Q I rx rv h;obtain⟨a,z,kvs,rfl,rfl,d,q⟩:=h;cases rx;obtain⟨u,rfl,ru⟩:=rv.one;obtain⟨ns,vs,rel,dd⟩:=BW I d;refine call_meetsIn yx dd.typeIs PySem.F.entry_dict_get (PySem.F.args_dict_get_2 _ _) (meets_dict_get (aH X.prog X.w) a (jt (k:=.inr z) ru) ns) {_,dd.mapOf,_,H,I.tok _,?_,q};rw[<-rf];exact(rel.val<|.inr z).getD rfl
theorem HK{w:World}{K:Frag}{o e:Expr}{apos aO:Pos}{td ty:TE}(hw:X.w=w)(hK:X.K=K)(ho:PE X o td)(he:PE X e ty)(m:M1 X o "get" apos e aO):PE X (.Call (.Attribute o "get" apos) [e] [] aO) (λσ H Q=>td σ H λx H1=>∃a kvs,x=.ref a/\J6 w K a kvs/\ty σ H1 λy H2=>∃z,y=.str z/\Q ((kvs.lookup z).getD .av) H2):=by subst hw hK;intro pins s σ H Q I h;refine wpAny_Call_method m.base m.GJ m.line PySem.F.plainAttrs_dict yx PySem.F.type_dict_get<|br (ho pins s σ H _ I h) λu s1 ⟨x,H1,I1,rx,a,kvs,ex,d,q1⟩=>?_;subst ex;obtain rfl:u=Value.ref a:=rx;obtain⟨ns,vs,rel,dd⟩:=BW I1 d;obtain⟨ob,_,_,h1,h2,_⟩:=id dd;refine{dd.typeIs,λb q=>by cases q;exact⟨ob,h1,h2.2.1⟩,?_};rw[m.trees];refine Calls.callWith_builtin rfl<|Calls.evalArgs_plain<|yF<|br (he pins s1 σ H1 _ I1 q1) λiv s2 ⟨y,H2,I2,ry,z,ey,q2⟩=>Calls.spliced_nil ?_;subst ey;exact Lv rfl rfl pins s2 σ H2 (.ref a) [.str z] _ [iv] Q I2 rfl (.cons ry .nil) ⟨a,z,kvs,rfl,rfl,d,q2⟩
end
theorem HL:bootBuiltins "min"= some (.builtin "min"):=by trivial
def ZS3(n l0 l1 l2:Nat)(i:Nat)(h:Heap):Prop:=IsZip h (n+5) (n+3) (n+4) .none/\mx h (n+3) #[.ref n,.ref<|n+1,.ref<|n+2]/\(∃arr:Array Value,arr.size=3/\mx h (n+4) arr)/\h.IsTupleIter n l0 i/\h.IsTupleIter (n+1) l1 i/\h.IsTupleIter (n+2) l2 i
noncomputable abbrev Lw(h:Heap)(l0:Addr):Heap:=(h).push {cls:=.type "tuple_iterator",data:=.fields #[.ref l0,.int 0 0]}
noncomputable abbrev Lx(h:Heap)(l0 l1:Addr):Heap:=(Lw h l0).push {cls:=.type "tuple_iterator",data:=.fields #[.ref l1,.int 0 0]}
noncomputable abbrev Lz(h:Heap)(l0 l1 l2:Addr):Heap:=(Lx h l0 l1).push {cls:=.type "tuple_iterator",data:=.fields #[.ref l2,.int 0 0]}
noncomputable abbrev LA(h:Heap)(l0 l1 l2:Addr):Heap:=(Lz h l0 l1 l2).push {cls:=.type "tuple",data:=.seq #[.ref h.objs.size,.ref (Lw h l0).objs.size,.ref (Lx h l0 l1).objs.size]}
noncomputable abbrev LB(h:Heap)(l0 l1 l2:Addr):Heap:=(LA h l0 l1 l2).push {cls:=.type "tuple",data:=.seq #[.none,.none,.none]}
noncomputable abbrev x6(h:Heap)(l0 l1 l2:Addr):Heap:=(LB h l0 l1 l2).push {cls:=.type "zip",data:=.fields #[.none,.bool false,.bool false,.ref (Lz h l0 l1 l2).objs.size,.ref (LA h l0 l1 l2).objs.size]}
theorem BX(l0 l1 l2:Addr)(BP BQ Sa:Array Value):Meets (Builtin.«zip.__new__» {[.type "zip",.ref l0,.ref l1,.ref l2],[]}) (λ_ R s=>s.heap.IsTuple l0 BP/\s.heap.IsTuple l1 BQ/\s.heap.IsTuple l2 Sa/\R (.ok<|.ret<|.ref (LB s.heap l0 l1 l2).objs.size) {s with heap:=x6 s.heap l0 l1 l2}):=.of_wp λprog w A R s h=>by obtain⟨hp,g,d,tk,os⟩:=s;obtain⟨t0,t1,t2,h⟩:=h;have Y1:=sub_zip;have L0:Heap.IsTuple (Shared.heap ⟨hp,g,d,tk,os⟩) l0 BP:=t0;have L1:Heap.IsTuple (Shared.heap {hp.push {cls:=.type "tuple_iterator",data:=.fields #[.ref l0,.int 0 0]},g,d,tk,os}) l1 BQ:=Heap.IsTuple.push (t1) _;have L2:Heap.IsTuple (Shared.heap {(hp.push {cls:=.type "tuple_iterator",data:=.fields #[.ref l0,.int 0 0]}).push {cls:=.type "tuple_iterator",data:=.fields #[.ref l1,.int 0 0]},g,d,tk,os}) l2 Sa:=Heap.IsTuple.push (Heap.IsTuple.push (t2) _) _;wp_walk using wpAny_pyIter_tuple L0,wpAny_pyIter_tuple L1,wpAny_pyIter_tuple L2;exact{_,rfl,h}
theorem BY(a0 a1 a2:Value):checkTypeCall "zip" {[a0,a1,a2],[]}=pure ():=by kernel_rfl
theorem BZ(a0 a1 a2:Value):checkBuiltinCall "zip.__new__" {[.type "zip",a0,a1,a2],[]}=pure ():=by kernel_rfl
theorem Qc(x a0 a1 a2:Value):argsOk "object.__init__" {[x,a0,a1,a2],[]}:=by unfold argsOk;rw[signature?_of (id:="object.__init__") (n:=['_','_','t','i','n','i','_','_']) (o:=['t','c','e','j','b','o']) (by kernel_rfl) F.owner_object];kernel_rfl
theorem B4(t0:s.heap.IsTuple l0 BP)(t1:s.heap.IsTuple l1 BQ)(t2:s.heap.IsTuple l2 Sa) (h:∀h',ZS3 s.heap.objs.size l0 l1 l2 0 h'->(∀c o,s.heap.get? c=some o->h'.get? c=some o)->Q (.ref<|s.heap.objs.size+5) {s with heap:=h'}):wpAny (model prog w) A (call (.type "zip") [.ref l0,.ref l1,.ref l2]) Q E s:=by
 refine callType_new F.called_zip (by decide) (BY _ _ _) (BZ _ _ _) (λobj=>Qc obj _ _ _) F.entry_zip_new (BX l0 l1 l2 BP BQ Sa) {t0,t1,t2,?_};have z1:(Lw s.heap l0).objs.size=s.heap.objs.size+1:=yb ..;have z2:(Lx s.heap l0 l1).objs.size=s.heap.objs.size+2:=by rw[yb,z1]
 have z3:(Lz s.heap l0 l1 l2).objs.size=s.heap.objs.size+3:=by rw[yb,z2]
 have z4:(LA s.heap l0 l1 l2).objs.size=s.heap.objs.size+4:=by rw[yb,z3]
 have z5:(LB s.heap l0 l1 l2).objs.size=s.heap.objs.size+5:=by rw[yb,z4]
 have z6:(x6 s.heap l0 l1 l2).objs.size=s.heap.objs.size+6:=by rw[yb,z5]
 have g0:(x6 s.heap l0 l1 l2).get? (s.heap).objs.size=some _:=za _<|za _<|za _<|za _<|za _<|zk _ rfl;have g1:(x6 s.heap l0 l1 l2).get? (Lw s.heap l0).objs.size=some _:=za _<|za _<|za _<|za _<|zk _ rfl;have g2:(x6 s.heap l0 l1 l2).get? (Lx s.heap l0 l1).objs.size=some _:=za _<|za _<|za _<|zk _ rfl;have g3:(x6 s.heap l0 l1 l2).get? (Lz s.heap l0 l1 l2).objs.size=some _:=za _<|za _<|zk _ rfl;have g4:(x6 s.heap l0 l1 l2).get? (LA s.heap l0 l1 l2).objs.size=some _:=za _<|zk _ rfl;have g5:(x6 s.heap l0 l1 l2).get? (LB s.heap l0 l1 l2).objs.size=some _:=zk _ rfl;show _/\_;rw[z3,z4,z5]at g5;rw[z4]at g4;rw[z1,z2,z3]at g3;rw[z1]at g1;rw[z2]at g2;rw[z5];exact{{_,g5,rfl},h _ {g5,g3,!⟨g4⟩,{_,g0,rfl,rfl},{_,g1,rfl,rfl},{_,g2,rfl,rfl}} λc o x=>za _<|za _<|za _<|za _<|za _<|za _ x}
theorem Vals.three(h:Vals [x,y,z] us):∃u v w,us=[u,v,w]/\RelV x u/\RelV y v/\RelV z w:=by cases h with|cons r h=>cases h with|cons q h=>cases h with|cons p h=>cases h;exact{_,_,_,rfl,r,q,p}
section
variable{X:Cx}
def LC:V->List V->Hp->VK->Prop:=λx vs H Q=>∃z y,x=.str z/\vs=[.str y]/\Q (.bl<|PySem.Txt.startswith z y) H
theorem tO:R4 X "str.startswith" LC:=by intro pins s σ H x vs v us Q I rx rv h;obtain⟨z,y,rfl,rfl,q⟩:=h;obtain⟨t,rfl⟩:=rx;obtain⟨u,rfl,ru⟩:=rv.one;obtain⟨t',rfl⟩:=ru;exact PySem.SC.startswith {.bl _,H,I,rfl,q}
end
end L2
namespace L2
open PySem PySem.Spec PyProof.Rows PySem.SeqAt
end L2
namespace L2
open PySem PySem.Spec PyProof.Rows
theorem vH(l:Addr)(items:Array Value)(n:Nat)(b:Addr)(rh:Array Value)(n2:Nat)(sl:Array<|Option Value)(Sb:¬(!items.isEmpty&&Builtin.List.listTooLong (items.size+rh.size))=true)(hs1:items.size<=sizeLine)(xJ:items.size+rh.size<=sizeLine+1): Meets (Builtin.«list.extend» {[.ref l,.ref b],[]}) (λ_ R s=>s.heap.get? l=some {cls:=.type "list",dict:=none,data:=.seq items n,slots:=#[]}/\s.heap.get? b=some {cls:=.type "tuple",dict:=none,data:=.seq rh n2,slots:=sl}/\R (.ok<|.ret Value.none) {s with heap:=s.heap.update l<|Obj.mapSeq λx=>x++rh,toks:=s.toks}):=.of_wp λprog w A R s h=>by
 obtain⟨hp,g,d,tk,os⟩:=s;obtain⟨hl,hb,h⟩:=h;have f1:=AutoSeq1.idx_int;have f2:=AutoSeq1.sub_tuple_tuple;have f3:=AutoSeq1.sub_list_list;have f4:=AutoSeq1.sub_tuple_list;have f5:=AutoSeq1.sub_list_tuple;have Y3:(items++rh).size<=sizeLine+1:=by rw[Array.size_append];exact xJ
 wp_walk using (wpAny_updateSeq hl rfl (hz:=hs1) (_hz':=Y3)),AutoSeq1.wpAny_loadPart' hl,AutoSeq1.wpAny_loadPart' hb;exact{_,rfl,h}
section
variable{X:Cx}
def HM:V->List V->Hp->VK->Prop:=λx vs H Q=>∃l b xs zs,x=.ref l/\vs=[.ref b]/\H l=some (.lst xs)/\H b=some (.tup zs)/\xs.length+zs.length<=sizeLine/\Q .av (upd H l<|.lst<|xs++zs)
theorem B6:WY X "list.extend" HM:=by
 intro pins s σ H x vs v us Q I rx rv h;obtain⟨l,b,xs,zs,rfl,rfl,hH,hB,hz,q⟩:=h;cases rx;obtain⟨u,rfl,ru⟩:=rv.one;cases ru;obtain⟨z,ay,n,r,hl,e⟩:=I.Fc hH;obtain⟨z2,pX,r2,⟨c2,d2,dt2,J2⟩,e2,ec,ed,n2,en⟩:=(show bt X.prog X.w H s.heap b (.tup zs) from I.aM b _ hB);dsimp only at ec ed en;subst ec ed en;have PC:=r2.length;have hsz:ay.toArray.size+pX.toArray.size<=sizeLine:=by rw[zq,zq];lia
 have Ur:¬(!ay.toArray.isEmpty&&Builtin.List.listTooLong (ay.toArray.size+pX.toArray.size))=true:=by rw[Hg hsz,Bool.and_false];exact zd
 refine call_meets F.slot_list_extend {_,e,rfl} F.entry_list_extend (F.args_list_extend_2 _ _) (vH l ay.toArray n b pX.toArray n2 J2 Ur (by rw[zq];lia)<|by lia) {e,e2,?_};refine{.av,_,I.KY (its':=ay++pX) hH e (by simp) (r.append r2) ?_,rfl,q};rw[zx];lia
end
set_option genInjectivity true in
set_option genSizeOfSpec true in
inductive D where
 |av|bl (b:Bool)|int (i:Int)|str (x:Str)|tup (ds:List D)|jn (ds:List D)|kt (ds:List D)|ref (a:Addr)|ty (n:String)
def Y4(K:Frag)(a:Addr)(xs:List V):Prop:=∃(o:Obj)(ay:Array Value)(n:Nat),K.lookup a=some o/\o.cls=.type "tuple"/\o.data=.seq ay n/\ay.size<=sizeLine/\Vals xs ay.toList
def NH(K:Frag)(H:Hp)(a:Addr)(xs:List V):Prop:=(∃o,H a=some (.lK o<|.lst xs))\/∃(o:Obj)(ay:Array Value)(n:Nat),K.lookup a=some o/\o.cls=.type "list"/\o.dict=none/\o.data=.seq ay n/\ay.size<=sizeLine/\Vals xs ay.toList
theorem NH.sq{K:Frag}{H:Hp}{a:Addr}{xs:List V}(h:NH K H a xs):kh K H a xs:=by rcases h with h|h;exact .inl<|.inr h;exact .inr h
structure Kp(K:Frag)(H H':Hp):Prop where
 t:∀a xs,H a=some (.tup xs)->H' a=some (.tup xs)
 r:∀a xs,NH K H a xs->NH K H' a xs
 f:∀a o u,H a=some (.lK o u)->H' a=some (.lK o u)
theorem Kp.refl{K:Frag}(H:Hp):Kp K H H:={λ_ _ h=>h,λ_ _ h=>h,λ_ _ _ h=>h}
theorem Kp.trans{K:Frag}{H H1 H2:Hp}(a:Kp K H H1)(b:Kp K H1 H2):Kp K H H2:={λp xs h=>b.t p xs<|a.t p xs h,λp xs h=>b.r p xs<|a.r p xs h,λp o u h=>b.f p o u<|a.f p o u h}
theorem Kp.of{K:Frag}{H H':Hp}(h:∀b o,H b=some o->H' b=some o\/(∀xs,o≠.tup xs)/\∀u v,o≠.lK u v):Kp K H H' where
 t:=λa xs q=>(h _ _ q).resolve_right λz=>z.1 _ rfl
 r:=λa xs q=>by
  rcases q with⟨o,q⟩|q
  ·exact .inl {o,(h _ _ q).resolve_right λz=>z.2 _ _ rfl}
  ·exact .inr q
 f:=λa o u q=>(h _ _ q).resolve_right λz=>z.2 _ _ rfl
theorem Kp.new{K:Frag}{H:Hp}{a:Addr}{o:HO}(h:H a=none):Kp K H (upd H a o):=.of λb u e=>.inl<|by rw[aw<|aF e h];exact e
theorem Kp.put{K:Frag}{H:Hp}{a:Addr}{o u:HO}(h:H a=some o)(h1:∀xs,o≠.tup xs)(h2:∀u v,o≠.lK u v):Kp K H (upd H a u):=.of λb v e=>by by_cases q:b=a;subst q;rw[h]at e;cases e;exact .inr ⟨h1,h2⟩;exact .inl<|by rw[aw q];exact e
mutual
def Rv(K:Frag)(H:Hp):D->V->Prop|.av,v=>v=.av|.bl b,v=>v=.bl b|.int i,v=>v=.int i|.str z,v=>v=.str z|.tup ds,v=>∃a xs,v=.ref a/\H a=some (.tup xs)/\RvAll K H ds xs|.jn ds,v=>∃a xs,v=.ref a/\NH K H a xs/\RvAll K H ds xs|.kt ds,v=>∃a xs,v=.ref a/\Y4 K a xs/\RvAll K H ds xs|.ref a,v=>v=.ref a|.ty n,v=>v=.ty n
def RvAll(K:Frag)(H:Hp):List D->List V->Prop|[],xs=>xs=[]|d::ds,xs=>∃y ys,xs=y::ys/\Rv K H d y/\RvAll K H ds ys
end
section
variable{K:Frag}{H H':Hp}
theorem fI:Rv K H .av .av:=by simp only[Rv]
theorem bY(b:Bool):Rv K H (.bl b) (.bl b):=by simp only[Rv]
theorem aP(i:Int):Rv K H (.int i) (.int i):=by simp only[Rv]
theorem dQ(z:Str):Rv K H (.str z) (.str z):=by simp only[Rv]
theorem gL(a:Addr):Rv K H (.ref a) (.ref a):=by simp only[Rv]
theorem Us(n:String):Rv K H (.ty n) (.ty n):=by simp only[Rv]
theorem NI(h:Y4 K a xs)(t:RvAll K H ds xs):Rv K H (.kt ds) (.ref a):=by simp only[Rv];exact⟨a,xs,rfl,h,t⟩
theorem jy(h:H a=some (.tup xs))(t:RvAll K H ds xs):Rv K H (.tup ds) (.ref a):=by simp only[Rv];exact⟨a,xs,rfl,h,t⟩
theorem HN(h:NH K H a xs)(t:RvAll K H ds xs):Rv K H (.jn ds) (.ref a):=by simp only[Rv];exact⟨a,xs,rfl,h,t⟩
theorem Rv.av(h:Rv K H .av v):v=.av:=by simpa only[Rv]using h
theorem Rv.bl(h:Rv K H (.bl b) v):v=.bl b:=by simpa only[Rv]using h
theorem Rv.int(h:Rv K H (.int i) v):v=.int i:=by simpa only[Rv]using h
theorem Rv.str(h:Rv K H (.str z) v):v=.str z:=by simpa only[Rv]using h
theorem Rv.ref(h:Rv K H (.ref a) v):v=.ref a:=by simpa only[Rv]using h
theorem Rv.ty(h:Rv K H (.ty n) v):v=.ty n:=by simpa only[Rv]using h
theorem Rv.kt(h:Rv K H (.kt ds) v):∃a xs,v=.ref a/\Y4 K a xs/\RvAll K H ds xs:=by simpa only[Rv]using h
theorem Rv.tup(h:Rv K H (.tup ds) v):∃a xs,v=.ref a/\H a=some (.tup xs)/\RvAll K H ds xs:=by simpa only[Rv]using h
theorem Rv.jn(h:Rv K H (.jn ds) v):∃a xs,v=.ref a/\NH K H a xs/\RvAll K H ds xs:=by simpa only[Rv]using h
theorem bC:RvAll K H [] []:=by simp only[RvAll]
theorem aQ(h:Rv K H d x)(t:RvAll K H ds xs):RvAll K H (d::ds) (x::xs):=by simp only[RvAll];exact⟨x,xs,rfl,h,t⟩
theorem RvAll.nil(h:RvAll K H [] xs):xs=[]:=by simpa only[RvAll]using h
theorem RvAll.cons(h:RvAll K H (d::ds) xs):∃y ys,xs=y::ys/\Rv K H d y/\RvAll K H ds ys:=by simpa only[RvAll]using h
mutual
theorem Rv.ts(s:Kp K H H'):∀(d:D){v:V},Rv K H d v->Rv K H' d v|.av,v,h=>by simpa only[Rv]using h|.bl b,v,h=>by simpa only[Rv]using h|.int i,v,h=>by simpa only[Rv]using h|.str z,v,h=>by simpa only[Rv]using h|.tup ds,v,h=>(by obtain⟨a,xs,rfl,e,t⟩:=h.tup;exact jy (s.t _ _ e)<|RvAll.ts s ds t)|.jn ds,v,h=>(by obtain⟨a,xs,rfl,e,t⟩:=h.jn;exact HN (s.r _ _ e)<|RvAll.ts s ds t)|.kt ds,v,h=>(by obtain⟨a,xs,rfl,e,t⟩:=h.kt;exact NI e<|RvAll.ts s ds t)|.ref a,v,h=>by simpa only[Rv]using h|.ty n,v,h=>by simpa only[Rv]using h
theorem RvAll.ts(s:Kp K H H'):∀(ds:List D){xs:List V},RvAll K H ds xs->RvAll K H' ds xs|[],xs,h=>by rw[h.nil];exact bC|d::ds,xs,h=>by obtain⟨y,ys,rfl,h1,h2⟩:=h.cons;exact aQ (Rv.ts s d h1)<|RvAll.ts s ds h2
end
theorem RvAll.len:∀{ds:List D}{xs:List V},RvAll K H ds xs->xs.length=ds.length|[],xs,h=>by rw[h.nil];rfl|d::ds,xs,h=>by obtain⟨y,ys,rfl,_,h2⟩:=h.cons;rw[zS,zS,h2.len]
theorem RvAll.get:∀{ds:List D}{xs:List V}{i:Nat}{d:D},RvAll K H ds xs->ds[i]?=some d->∃v,xs[i]?=some v/\Rv K H d v|[],xs,i,d,h,e=>by simp at e|d0::ds,xs,0,d,h,e=>(by obtain⟨y,ys,rfl,h1,h2⟩:=h.cons;simp at e;subst e;exact⟨y,rfl,h1⟩)|d0::ds,xs,i+1,d,h,e=>by obtain⟨y,ys,rfl,h1,h2⟩:=h.cons;obtain⟨v,e1,e2⟩:=h2.get (i:=i) (by simpa using e);exact{v,by simpa using e1,e2}
theorem RvAll.app:∀{ds es:List D}{xs ys:List V},RvAll K H ds xs->RvAll K H es ys->RvAll K H (ds++es) (xs++ys)|[],es,xs,ys,h,k=>by rw[h.nil];exact k|d::ds,es,xs,ys,h,k=>by obtain⟨y,zs,rfl,h1,h2⟩:=h.cons;exact aQ h1<|h2.app k
theorem RvAll.take:∀{ds:List D}{xs:List V}(n:Nat),RvAll K H ds xs->RvAll K H (ds.take n) (xs.take n)|[],xs,n,h=>by rw[h.nil];simp only[List.take_nil];exact bC|d::ds,xs,0,h=>by simp only[List.take_zero];exact bC|d::ds,xs,n+1,h=>by obtain⟨y,zs,rfl,h1,h2⟩:=h.cons;exact aQ h1<|h2.take n
theorem RvAll.drop:∀{ds:List D}{xs:List V}(n:Nat),RvAll K H ds xs->RvAll K H (ds.drop n) (xs.drop n)|[],xs,n,h=>by rw[h.nil];simp only[List.drop_nil];exact bC|d::ds,xs,0,h=>h|d::ds,xs,n+1,h=>by obtain⟨y,zs,rfl,h1,h2⟩:=h.cons;exact h2.drop n
theorem RvAll.set:∀{ds:List D}{xs:List V}{d:D}{v:V}(n:Nat),RvAll K H ds xs->Rv K H d v->RvAll K H (ds.set n d) (xs.set n v)|[],xs,d,v,n,h,r=>by rw[h.nil];exact bC|d0::ds,xs,d,v,0,h,r=>(by obtain⟨y,zs,rfl,h1,h2⟩:=h.cons;exact aQ r h2)|d0::ds,xs,d,v,n+1,h,r=>by obtain⟨y,zs,rfl,h1,h2⟩:=h.cons;exact aQ h1<|h2.set n r
theorem RvAll.erase:∀{ds:List D}{xs:List V}(n:Nat),RvAll K H ds xs->RvAll K H (ds.eraseIdx n) (xs.eraseIdx n)|[],xs,n,h=>by rw[h.nil];exact bC|d::ds,xs,0,h=>(by obtain⟨y,zs,rfl,h1,h2⟩:=h.cons;exact h2)|d::ds,xs,n+1,h=>by obtain⟨y,zs,rfl,h1,h2⟩:=h.cons;exact aQ h1<|h2.erase n
theorem RvAll.dropLast:∀{ds:List D}{xs:List V},RvAll K H ds xs->RvAll K H ds.dropLast xs.dropLast|[],xs,h=>by rw[h.nil];exact bC|[d],xs,h=>(by obtain⟨y,zs,rfl,h1,h2⟩:=h.cons;rw[h2.nil];exact bC)|d::e::ds,xs,h=>by obtain⟨y,zs,rfl,h1,h2⟩:=h.cons;obtain⟨y2,zs2,rfl,h3,h4⟩:=id h2.cons;exact aQ h1<|RvAll.dropLast h2
theorem RvAll.bools:∀{bs:List Bool}{xs:List V},RvAll K H (bs.map D.bl) xs->xs=bs.map V.bl|[],xs,h=>h.nil|b::bs,xs,h=>by obtain⟨y,ys,rfl,h1,h2⟩:=h.cons;rw[h1.bl,h2.bools];rfl
theorem RvAll.ints:∀{bs:List Int}{xs:List V},RvAll K H (bs.map D.int) xs->xs=bs.map V.int|[],xs,h=>h.nil|b::bs,xs,h=>by obtain⟨y,ys,rfl,h1,h2⟩:=h.cons;rw[h1.int,h2.ints];rfl
theorem RvAll.strs:∀{bs:List Str}{xs:List V},RvAll K H (bs.map D.str) xs->xs=bs.map V.str|[],xs,h=>h.nil|b::bs,xs,h=>by obtain⟨y,ys,rfl,h1,h2⟩:=h.cons;rw[h1.str,h2.strs];rfl
theorem DL:∀(bs:List Int),RvAll K H (bs.map D.int) (bs.map V.int)|[]=>bC|b::bs=>aQ (aP b)<|DL bs
theorem vI:∀(bs:List Str),RvAll K H (bs.map D.str) (bs.map V.str)|[]=>bC|b::bs=>aQ (dQ b)<|vI bs
def bQ{κ:Type}(K:Frag)(H:Hp):List (κ×D)->List (κ×V)->Prop:=Paired λp q=>p.1=q.1/\Rv K H p.2 q.2
theorem bQ.ts(s:Kp K H H'):∀{ks:List (κ×D)}{vs:List (κ×V)},bQ K H ks vs->bQ K H' ks vs|_,_,.nil=>.nil|_,_,.cons r t=>.cons {r.1,Rv.ts s _ r.2}<|bQ.ts s t
theorem bQ.look(h:bQ K H ks vs)(f:Str):(∀d,ks.lookup f=some d->∃v,vs.lookup f=some v/\Rv K H d v)/\(ks.lookup f=none->vs.lookup f=none):=by induction h with|nil=>(exact{λd e=>(by cases e),λ_=>rfl})|@cons a b l m r t ih=>obtain⟨k,d⟩:=a;obtain⟨k',v⟩:=b;obtain⟨rfl,r⟩:=r;simp only[yf];cases q:f==k with|true=>(exact{λd' e=>{v,rfl,(by cases e;exact r)},λe=>(by cases e)})|false=>exact ih
end
set_option genInjectivity true in
set_option genSizeOfSpec true in
inductive Ce where
 |lst (ds:List D)|cB (kvs:List<|Key×D)|ins (c:Addr) (fs:List<|Str×D)|well|exc (c:Addr)|tab (q:Str)
def DM(H:Hp)(q:Str)(ps:Array Value):Prop:=TriplesOk ps.toList/\∀pos cv,codeAmong pos ps.toList=some cv->∃c o vs t,cv=.ref c/\H c=some (.lK o<|.own 0)/\o.data=.fields vs/\vs[1]?=some (.str q t)
abbrev au:=Addr->Option Ce
noncomputable def au.set(S:au)(a:Addr)(c:Ce):au:=λb=>if b=a then some c else S b
theorem aa{S:au}{a:Addr}{c:Ce} : S.set a c a=some c:=by unfold au.set;rw[if_pos rfl]
theorem ag{S:au}{a b:Addr}{c:Ce}(h:b≠a):S.set a c b=S b:=by unfold au.set;rw[if_neg h]
theorem bf{S:au}{a:Addr}{c e:Ce} : (S.set a c).set a e=S.set a e:=by funext b;unfold au.set;split<;>rfl
theorem gZ{S:au}{a b:Addr}{c:Ce}(h:S a=some c)(h':S b=none):a≠b:=by intro e;subst e;rw[h]at h';cases h'
def Rc(K:Frag)(H:Hp)(a:Addr):Ce->Prop|.lst ds=>∃xs,H a=some (.lst xs)/\RvAll K H ds xs|.cB kvs=>∃vs,H a=some (.dK vs)/\bQ K H kvs vs|.ins c fs=>∃dx vs,H a=some (.ins c dx vs)/\bQ K H fs vs|.well=>∃x y z:Int,H a=some (.lst [.int x,.int y,.int z])|.exc c=>H a=some (YT a<|.ref c)|.tab q=>∃ps,H a=some (.qk ps)/\DM H q ps
def Rs(K:Frag)(S:au)(H:Hp):Prop:=∀a c,S a=some c->Rc K H a c
section
variable{K:Frag}{H H':Hp}{S:au}{a b:Addr}{c:Ce}
theorem Rc.has(h:Rc K H a c):∃o,H a=some o/\(∀xs,o≠.tup xs)/\∀u v,o≠.lK u v:=by cases c with|lst ds=>(obtain⟨xs,e,_⟩:=h;exact{_,e,λ_=>nofun,λ_ _=>nofun})|cB ds=>(obtain⟨xs,e,_⟩:=h;exact{_,e,λ_=>nofun,λ_ _=>nofun})|ins c fs=>(obtain⟨dx,vs,e,_⟩:=h;exact{_,e,λ_=>nofun,λ_ _=>nofun})|well=>(obtain⟨x,y,z,e⟩:=h;exact{_,e,λ_=>nofun,λ_ _=>nofun})|exc c=>exact{_,h,λ_=>nofun,λ_ _=>nofun}|tab q=>obtain⟨ps,e,_⟩:=h;exact{_,e,λ_=>nofun,λ_ _=>nofun}
theorem Rc.keep(h:Rc K H a c)(e:∀o,H a=some o->H' a=some o)(s:Kp K H H'):Rc K H' a c:=by cases c with|lst ds=>(obtain⟨xs,e1,r⟩:=h;exact{xs,e _ e1,RvAll.ts s _ r})|cB ds=>(obtain⟨xs,e1,r⟩:=h;exact{xs,e _ e1,r.ts s})|ins c fs=>(obtain⟨dx,vs,e1,r⟩:=h;exact{dx,vs,e _ e1,r.ts s})|well=>(obtain⟨x,y,z,e1⟩:=h;exact{x,y,z,e _ e1})|exc c=>exact e _ h|tab q=>obtain⟨ps,e1,r,r2⟩:=h;exact{ps,e _ e1,r,λpos cv z=>by obtain⟨c,o,vs,t,z1,z2,z3⟩:=r2 pos cv z;exact{c,o,vs,t,z1,s.f _ _ _ z2,z3}}
theorem Rs.fresh(h:Rs K S H)(e:H a=none):S a=none:=by cases q:S a with|none=>rfl|some c=>obtain⟨o,e1,_⟩:=(h a c q).has;rw[e]at e1;cases e1
theorem Rs.new(h:Rs K S H)(e:H a=none){o:HO}(r:Rc K (upd H a o) a c):Rs K (S.set a c) (upd H a o):=λb x hb=>by by_cases q:b=a;subst q;rw[aa]at hb;cases hb;exact r;rw[ag q]at hb;exact(h b x hb).keep (λo e1=>by rw[aw q];exact e1)<|Kp.new e
theorem Rs.grow(h:Rs K S H)(e:H a=none):Rs K S (upd H a o):=λb x hb=>by obtain⟨u,e1,_⟩:=(h b x hb).has;have q:b≠a:=aF e1 e;exact(h b x hb).keep (λo e1=>by rw[aw q];exact e1)<|Kp.new e
theorem Rs.gM(h:Rs K S H)(ha:S a=some e):Kp K H (upd H a o):=by obtain⟨u,e1,n1,n2⟩:=(h a e ha).has;exact Kp.put e1 n1 n2
theorem Rs.put(h:Rs K S H){e:Ce}(ha:S a=some e){o:HO}(r:Rc K (upd H a o) a c):Rs K (S.set a c) (upd H a o):=λb x hb=>by by_cases q:b=a;subst q;rw[aa]at hb;cases hb;exact r;rw[ag q]at hb;exact(h b x hb).keep (λo e1=>by rw[aw q];exact e1)<|h.gM ha
theorem Rs.lst(h:Rs K S H)(e:S a=some (.lst ds)):∃xs,H a=some (.lst xs)/\RvAll K H ds xs:=h a _ e
theorem Rs.cB(h:Rs K S H)(e:S a=some (.cB ds)):∃xs,H a=some (.dK xs)/\bQ K H ds xs:=h a _ e
theorem Rs.ins{c:Addr}{fs:List<|Str×D}(h:Rs K S H)(e:S a=some (.ins c fs)):∃dx vs,H a=some (.ins c dx vs)/\bQ K H fs vs:=h a _ e
end
abbrev KD:=D->au->Prop
abbrev KX:=Addr->au->Prop
abbrev SD:=List<|Option D
def iB(K:Frag)(H:Hp):SD->St->Prop:=Paired λ(o:Option D)(u:Option V)=>∀d,o=some d->∃v,u=some v/\Rv K H d v
section
variable{K:Frag}{H H':Hp}
theorem iB.ts(s:Kp K H H'):∀{σ:SD}{τ:St},iB K H σ τ->iB K H' σ τ|_,_,.nil=>.nil|_,_,.cons r t=>.cons (λd e=>by obtain⟨v,e1,r1⟩:=r d e;exact{v,e1,Rv.ts s _ r1})<|iB.ts s t
theorem iB.get:∀{σ:SD}{τ:St}{i:Nat}{d:D},iB K H σ τ->σ[i]?=some (some d)->∃v,τ[i]?=some (some v)/\Rv K H d v|_,_,i,d,.nil,e=>by simp at e|_,_,0,d,.cons r t,e=>(by simp at e;obtain⟨v,e1,r1⟩:=r d e;exact{v,by simp[e1],r1})|_,_,i+1,d,.cons r t,e=>by obtain⟨v,e1,r1⟩:=iB.get (i:=i) t (by simpa using e);exact{v,by simpa using e1,r1}
theorem iB.set:∀{σ:SD}{τ:St}(i:Nat){d:D}{v:V},iB K H σ τ->Rv K H d v->iB K H (σ.set i<|some d) (τ.set i<|some v)|_,_,i,d,v,.nil,r=>.nil|_,_,0,d,v,.cons r t,q=>(.cons (λd' e=>by cases e;exact⟨v,rfl,q⟩) t)|_,_,i+1,d,v,.cons r t,q=>.cons r<|iB.set i t q
theorem rj:∀(n:Nat)(τ:St),τ.length=n->iB K H (List.replicate n none) τ|0,[],_=>.nil|n+1,_::τ,h=>.cons (λd e=>by cases e)<|rj n τ<|by simpa using h
theorem rl:∀{ds:List D}{vs:List V},RvAll K H ds vs->iB K H (ds.map some) (vs.map some)|[],vs,h=>by rw[h.nil];exact .nil|d::ds,vs,h=>by obtain⟨y,ys,rfl,h1,h2⟩:=h.cons;exact .cons (λd' e=>by cases e;exact⟨y,rfl,h1⟩)<|rl h2
theorem iB.app:∀{σ aG:SD}{τ Se:St},iB K H σ τ->iB K H aG Se->iB K H (σ++aG) (τ++Se)|_,_,_,_,.nil,h=>h|_,_,_,_,.cons r t,h=>.cons r<|iB.app t h
end
structure Rdy(Y:Cx)(E:St->XK)(b:Bool):Prop where
 call:∀p2 τ H s e s',Inv Y p2 τ H s->fH Y.prog Y.w Y.mg Y.stack H s (E τ) e s'->Y.xe e s'
 own:b=true->∀p2 τ H s h' a cls args,Inv Y p2 τ H s->Heap.MadeExcOf s.heap h' a cls args->E τ cls none H->Y.xe (.ref a) {s with heap:=h'}
 loop:b=true->PassesOwn (model Y.prog Y.w) Y.A Y.env Y.xe
structure Ev(X:Cx)(b:Bool) where
 pn:List (Addr×Obj)
 xe:Value->Shared->Prop
 E:St->XK
 ok:Rdy {X with pn:=pn,xe:=xe} E b
noncomputable abbrev Ev.cx{X:Cx}{b:Bool}(y:Ev X b):Cx:={X with pn:=y.pn,xe:=y.xe}
def Cn(K:Frag)(H:Hp)(R:KD)(Q:VK):Prop:=∀d S v H',R d S->Rv K H' d v->Rs K S H'->Kp K H H'->Q v H'
def DN(K:Frag)(H:Hp)(Z:KX)(e:XK):Prop:=∀C S H',Z C S->Rs K S H'->Kp K H H'->e (.ref C) none H'
theorem Cn.kp{K:Frag}{H H1:Hp}{R:KD}{Q:VK}(h:Cn K H R Q)(k:Kp K H H1):Cn K H1 R Q:=λd S v H' r v1 s1 k1=>h d S v H' r v1 s1<|k.trans k1
theorem DN.kp{K:Frag}{H H1:Hp}{Z:KX}{e:XK}(h:DN K H Z e)(k:Kp K H H1):DN K H1 Z e:=λC S H' r s1 k1=>h C S H' r s1<|k.trans k1
abbrev TD:=SD->au->KD->KX->Prop
def T(K:Frag)(E:St->XK)(t:TD):TE:=λτ H Q=>∃σ S R Z,iB K H σ τ/\Rs K S H/\t σ S R Z/\Cn K H R Q/\DN K H Z (E τ)
structure DE(K:Frag)(X:Cx)(e:Expr)(t:TD):Prop where
 of:∀{b:Bool}(y:Ev X b),PE y.cx e<|T K y.E t
abbrev my:=SD->au->(Bool->au->Prop)->KX->Prop
def W4(K:Frag)(H:Hp)(R:Bool->au->Prop)(Q:Bool->Hp->Prop):Prop:=∀b S H',R b S->Rs K S H'->Kp K H H'->Q b H'
theorem W4.kp{K:Frag}{H H1:Hp}{R:Bool->au->Prop}{Q:Bool->Hp->Prop}(h:W4 K H R Q)(k:Kp K H H1):W4 K H1 R Q:=λd S H' r s1 k1=>h d S H' r s1<|k.trans k1
def Tt(K:Frag)(E:St->XK)(t:my):TT:=λτ H Q=>∃σ S R Z,iB K H σ τ/\Rs K S H/\t σ S R Z/\W4 K H R Q/\DN K H Z (E τ)
structure DT(K:Frag)(X:Cx)(e:Expr)(t:my):Prop where
 of:∀{b:Bool}(y:Ev X b),PT y.cx e<|Tt K y.E t
abbrev jh:=SD->au->(List D->au->Prop)->KX->Prop
def CnA(K:Frag)(H:Hp)(R:List D->au->Prop)(Q:List V->Hp->Prop):Prop:=∀ds S vs H',R ds S->RvAll K H' ds vs->Rs K S H'->Kp K H H'->Q vs H'
def Ta(K:Frag)(E:St->XK)(t:jh):TA:=λτ H Q=>∃σ S R Z,iB K H σ τ/\Rs K S H/\t σ S R Z/\CnA K H R Q/\DN K H Z (E τ)
structure DA(K:Frag)(X:Cx)(es:List Expr)(t:jh):Prop where
 of:∀{b:Bool}(y:Ev X b),PA y.cx es<|Ta K y.E t
theorem PE.mono{t t':TE}(h:PE X e t)(i:∀τ H Q,t' τ H Q->t τ H Q):PE X e t':=λpins s τ H Q I q=>h pins s τ H Q I<|i τ H Q q
theorem PT.mono{t t':TT}(h:PT X e t)(i:∀τ H Q,t' τ H Q->t τ H Q):PT X e t':=λpins s τ H Q I q=>h pins s τ H Q I<|i τ H Q q
theorem PA.mono{t t':TA}(h:PA X e t)(i:∀τ H Q,t' τ H Q->t τ H Q):PA X e t':=λpos pins s τ H Q I q=>h pos pins s τ H Q I<|i τ H Q q
section
variable{K:Frag}{X:Cx}
inductive Ut (i:Nat) (σ:SD) (S:au) (R:KD):Prop where
 |mk (d:D) (h:σ[i]?=some (some d)) (r:R d S)
def Uu(i:Nat):TD:=λσ S R _=>Ut i σ S R
inductive Sf (x:D) (S:au) (R:Bool->au->Prop):Prop where
 |mk (b:Bool) (h:x=.bl b) (r:R b S)
def dC(d:D):TD:=λ_ S R _=>R d S
theorem dv(i:Nat)(hN:autoParam (X.N[i]?=some x) qQJ)(hv:OL X.env.scope x:=by first|exact Or.inl rfl|exact Or.inr (Or.inl rfl)|exact Or.inr (Or.inr rfl))(hd:autoParam ((x==("__debug__": Str))=false) qQZ) (sZ:autoParam ((x==("__classdict__": Str))=false) qQZ):DE K X (.Name x pos) (Uu i):=⟨λy=>(OQ (X:=y.cx) hN hv hd sZ).mono <| by rintro τ H Q ⟨σ,S,R,Z,aB,hS,⟨d,e,r⟩,hR,_⟩;exact by obtain⟨v,e1,rv⟩:=aB.get e;exact{v,e1,hR d S v H r rv hS<|Kp.refl _}⟩
theorem DE.const(h:∀Y:Cx,Y.env=X.env->Y.mg=X.mg->PE Y e (tC v))(r:∀H,Rv K H d v):DE K X e (dC d):=⟨λy=>(h y.cx rfl rfl).mono <| by rintro τ H Q ⟨σ,S,R,Z,aB,hS,q,hR,_⟩;exact hR d S v H q (r H) hS<|Kp.refl _⟩
theorem di:DE K X (.Constant (.int i) j pos) (dC<|.int i):=.const (λ_ _ _=>OR) λ_=>aP i
theorem ds:DE K X (.Constant (.str i) j pos) (dC<|.str i):=.const (λ_ _ _=>OT) λ_=>dQ i
theorem db:DE K X (.Constant (.bool i) j pos) (dC<|.bl i):=.const (λ_ _ _=>Nn) λ_=>bY i
theorem dn:DE K X (.Constant .none j pos) (dC .av):=.const (λ_ _ _=>OS) λ_=>fI
theorem dg(hm:X.mg x=some u)(r:RelV v u)(rd:∀H,Rv K H d v)(hg:autoParam (Gl X x) qQJ)(hd:autoParam ((x==("__debug__": Str))=false) qQZ):DE K X (.Name x pos) (dC d):=.const (λY e1 e2=>Dw (X:=Y) (u:=u) (show Y.env.kindOf x=_ by rw[e1];exact hg) (by rw[e2];exact hm) r hd) rd
theorem s9(hm:X.mg x=none)(hv:bootBuiltins x=some (.type n))(hg:autoParam (Gl X x) qQJ)(hn:autoParam (x≠"__name__") qQZ)(hd:autoParam ((x==("__debug__": Str))=false) qQZ):DE K X (.Name x pos) (dC<|.ty n):=.const (λY e1 e2=>Kq (X:=Y) (v:=.ty n) (show Y.env.kindOf x=_ by rw[e1];exact hg) (by rw[e2];exact hm) hv rfl hn hd) λ_=>Us n
def LD:jh:=λ_ S R _=>R [] S
def NJ(t:TD)(u:jh):jh:=λσ S R Z=>t σ S (λd S1=>u σ S1 (λds S2=>R (d::ds) S2) Z) Z
theorem an:DA K X [] LD:=⟨λy=>(Bx (X:=y.cx)).mono <| by rintro τ H Q ⟨σ,S,R,Z,aB,hS,q,hR,_⟩;exact hR [] S [] H q bC hS<|Kp.refl _⟩
theorem ac{t:TD}(h:DE K X e t)(hr:DA K X es u)(hp:autoParam (isPlain e=true) qQJ):DA K X (e::es) (NJ t u):=
 ⟨λy=>(YO (h.of y) (hr.of y) hp).mono <| by rintro τ H Q ⟨σ,S,R,Z,aB,hS,q,hR,hZ⟩;exact
  ⟨σ,S,_,Z,aB,hS,q,λd S1 x H1 r1 v1 s1 k1=>⟨σ,S1,_,Z,aB.ts k1,s1,r1,λds S2 xs H2 r2 v2 s2 k2=>hR (d::ds) S2 (x::xs) H2 r2 (aQ (Rv.ts k2 _ v1) v2) s2<|k1.trans k2,hZ.kp k1⟩,hZ⟩⟩
abbrev uE:=D->D->au->KD->Prop
theorem al{x:Str}{pos:Pos}(i:Nat)(hr:DA K X es u)(hN:autoParam (X.N[i]?=some x) qQJ)(hv:OL X.env.scope x:=by first|exact Or.inl rfl|exact Or.inr (Or.inl rfl)|exact Or.inr (Or.inr rfl))(hd:autoParam ((x==("__debug__": Str))=false) qQZ) (sZ:autoParam ((x==("__classdict__": Str))=false) qQZ):DA K X (.Name x pos::es) (NJ (Uu i) u):=ac (dv i hN hv hd sZ) hr rfl
def Lr(K:Frag)(r:uE):R2:=λx y H Q=>∃d e S R,Rv K H d x/\Rv K H e y/\Rs K S H/\r d e S R/\Cn K H R Q
def oX(K:Frag)(f:Value->Value->Sem Value)(r:uE):Prop:=∀X:Cx,X.K=K->X.A.units+64<cLine->hG X f (Lr K r)
def Qd(r:uE)(ta tb:TD):TD:=λσ S R Z=>ta σ S (λx S1=>tb σ S1 (λy S2=>r x y S2 R) Z) Z
theorem T.op(h:T K E (Qd r ta tb) τ H Q):R1 (Lr K r) (T K E ta) (T K E tb) τ H Q:=by obtain⟨σ,S,R,Z,aB,hS,q,hR,hZ⟩:=h;exact{σ,S,_,Z,aB,hS,q,λd S1 x H1 r1 v1 s1 k1=>{σ,S1,_,Z,aB.ts k1,s1,r1,λe S2 y H2 r2 v2 s2 k2=>{d,e,S2,R,Rv.ts k2 _ v1,v2,s2,r2,hR.kp<|k1.trans k2},hZ.kp k1},hZ}
theorem bo(ho:oX K (binaryOp op) r)(hu:X.A.units+64<cLine)(ha:DE K X a ta)(hb:DE K X b tb)(hK:autoParam (X.K=K) qQJ):DE K X (.BinOp a op b pos) (Qd r ta tb):=⟨λy=>(Tj (ho y.cx hK hu) (ha.of y)<|hb.of y).mono λ_ _ _ h=>h.op⟩
theorem cm(ho:oX K (compareOp op) r)(hu:X.A.units+64<cLine)(ha:DE K X a ta)(hb:DE K X b tb)(hm:autoParam (behindInMarks op b=false) qQ2)(hK:autoParam (X.K=K) qQJ):DE K X (.Compare a [op] [b] pos) (Qd r ta tb):=⟨λy=>(DC (ho y.cx hK hu) (ha.of y) (hb.of y) hm).mono λ_ _ _ h=>h.op⟩
def dB(t:TD):my:=λσ S R Z=>t σ S (λx S1=>Sf x S1 R) Z
theorem Tt.b{t:TD}(h:Tt K E (dB t) τ H Q):T K E t τ H λx H'=>∃k,x=.bl k/\Q k H':=by obtain⟨σ,S,R,Z,aB,hS,q,hR,hZ⟩:=h;exact{σ,S,_,Z,aB,hS,q,by rintro d S1 x H1 ⟨b,e,r1⟩ v1 s1 k1;exact by subst e;exact{b,v1.bl,hR b S1 H1 r1 s1 k1},hZ}
theorem Tt.bop(h:Tt K E (dB<|Qd r ta tb) τ H Q):G8 (R1 (Lr K r) (T K E ta)<|T K E tb) τ H Q:=h.b.op
theorem bu(ho:oX K (compareOp op) r)(hu:X.A.units+64<cLine)(ha:DE K X a ta)(hb:DE K X b tb)(hm:autoParam (behindInMarks op b=false) qQ2)(hK:autoParam (X.K=K) qQJ):DT K X (.Compare a [op] [b] pos) (dB<|Qd r ta tb):=⟨λy=>(KC (ho y.cx hK hu) (ha.of y) (hb.of y) hm).mono λ_ _ _ h=>h.bop⟩
theorem tv{t:TD}(h:DE K X e t)(he:autoParam (∀whole,isTrue e X.env whole=(do let v <-whole;standAt e.pos;holding [v] (truthy v))) qQ0):DT K X e (dB t):=⟨λy=>(OU (X:=y.cx) (h.of y) he).mono λ_ _ _ h=>h.b⟩
def B7(r r':uE)(ta tb tc:TD):TD:=λσ S R Z=>ta σ S (λx S1=>tb σ S1 (λy S2=>r x y S2 λz S3=>Sf z S3 λk S3=>if k=true then tc σ S3 (λw S4=>r' y w S4 R) Z else R (.bl false) S3) Z) Z
theorem T.chain(h:T K E (B7 r r' ta tb tc) τ H Q):Bq (Lr K r) (Lr K r') (T K E ta) (T K E tb) (T K E tc) τ H Q:=by obtain⟨σ,S,R,Z,aB,hS,q,hR,hZ⟩:=h;refine{σ,S,_,Z,aB,hS,q,λd S1 x H1 r1 v1 s1 k1=>{σ,S1,_,Z,aB.ts k1,s1,r1,λe S2 y H2 r2 v2 s2 k2=>{d,e,S2,_,Rv.ts k2 _ v1,v2,s2,r2,λz S3 v H3 r3 v3 s3 k3=>?_},hZ.kp k1},hZ};obtain⟨k,rfl,r3⟩:=r3;refine{k,v3.bl,?_};cases k with|true=>rw[if_pos rfl]at r3⊢;exact{σ,S3,_,Z,((aB.ts k1).ts k2).ts k3,s3,r3,λw S4 wv H4 r4 v4 s4 k4=>{e,w,S4,R,Rv.ts (k3.trans k4) _ v2,v4,s4,r4,hR.kp<|((k1.trans k2).trans k3).trans k4},hZ.kp<|(k1.trans k2).trans k3}|false=>rw[if_neg zd]at r3⊢;exact hR _ S3 _ H3 r3 (bY false) s3<|(k1.trans k2).trans k3
theorem cc(ho:oX K (compareOp op) r)(Bl:oX K (compareOp EZ) r')(hu:X.A.units+64<cLine)(ha:DE K X a ta)(hb:DE K X b tb)(hc:DE K X c tc) (hm:autoParam (lastMarks [op,EZ] [b,c]=false) qQ2) (hK:autoParam (X.K=K) qQJ):DE K X (.Compare a [op,EZ] [b,c] pos) (B7 r r' ta tb tc):=⟨λy=>(G9 (ho y.cx hK hu) (Bl y.cx hK hu) (ha.of y) (hb.of y) (hc.of y) hm).mono λ_ _ _ h=>h.chain⟩
theorem W5(ho:oX K (compareOp op) r)(Bl:oX K (compareOp EZ) r')(hu:X.A.units+64<cLine)(ha:DE K X a ta)(hb:DE K X b tb)(hc:DE K X c tc) (hm:autoParam (lastMarks [op,EZ] [b,c]=false) qQ2) (hK:autoParam (X.K=K) qQJ):DT K X (.Compare a [op,EZ] [b,c] pos) (dB<|B7 r r' ta tb tc):=⟨λy=>(G_ (ho y.cx hK hu) (Bl y.cx hK hu) (ha.of y) (hb.of y) (hc.of y) hm).mono λ_ _ _ h=>h.b.chain⟩
def Uv(ta tb:TD):TD:=λσ S R Z=>ta σ S (λx S1=>Sf x S1 λc S1=>if c=true then tb σ S1 R Z else R (.bl false) S1) Z
def Y5(ta tb:TD):TD:=λσ S R Z=>ta σ S (λx S1=>Sf x S1 λc S1=>if c=true then R (.bl true) S1 else tb σ S1 R Z) Z
def Uw(ta:TD):TD:=λσ S R Z=>ta σ S (λx S1=>Sf x S1 λc S1=>R (.bl<|!c) S1) Z
theorem J_{t:TD}(h:DE K X a t):DE K X (.BoolOp op [a] pos) t:=⟨λy=>OW<|h.of y⟩
theorem tP{a b:Expr}{rest:List Expr}{ta tb:TD}{pos:Pos}(ha:DE K X a ta)(hb:DE K X (.BoolOp .And (b::rest) pos) tb):DE K X (.BoolOp .And (a::b::rest) pos) (Uv ta tb):=
 ⟨λy=>(OX (ha.of y)<|hb.of y).mono <| by rintro τ H Q ⟨σ,S,R,Z,aB,hS,q,hR,hZ⟩;exact
  ⟨σ,S,_,Z,aB,hS,q,by
   rintro d S1 x H1 ⟨c,e,r1⟩ v1 s1 k1
   subst e
   refine{c,v1.bl,?_}
   cases c with
   |true=>rw[if_pos rfl]at r1⊢;exact{σ,S1,R,Z,aB.ts k1,s1,r1,hR.kp k1,hZ.kp k1}
   |false=>rw[if_neg zd]at r1⊢;exact hR _ S1 _ H1 r1 (bY false) s1 k1,hZ⟩⟩
theorem eor{a b:Expr}{rest:List Expr}{ta tb:TD}{pos:Pos}(ha:DE K X a ta)(hb:DE K X (.BoolOp .Or (b::rest) pos) tb):DE K X (.BoolOp .Or (a::b::rest) pos) (Y5 ta tb):=
 ⟨λy=>(SW (ha.of y)<|hb.of y).mono <| by rintro τ H Q ⟨σ,S,R,Z,aB,hS,q,hR,hZ⟩;exact
  ⟨σ,S,_,Z,aB,hS,q,by
   rintro d S1 x H1 ⟨c,e,r1⟩ v1 s1 k1
   subst e
   refine{c,v1.bl,?_}
   cases c with
   |false=>rw[if_neg zd]at r1⊢;exact{σ,S1,R,Z,aB.ts k1,s1,r1,hR.kp k1,hZ.kp k1}
   |true=>rw[if_pos rfl]at r1⊢;exact hR _ S1 _ H1 r1 (bY true) s1 k1,hZ⟩⟩
theorem Ux(ha:DE K X a ta):DE K X (.UnaryOp .Not a pos) (Uw ta):=
 ⟨λy=>(OY<|ha.of y).mono <| by rintro τ H Q ⟨σ,S,R,Z,aB,hS,q,hR,hZ⟩;exact
  ⟨σ,S,_,Z,aB,hS,q,by rintro d S1 x H1 ⟨c,e,r1⟩ v1 s1 k1;exact by subst e;exact⟨c,v1.bl,hR _ S1 _ H1 r1 (bY _) s1 k1⟩,hZ⟩⟩
def Y6(t:my):my:=λσ S R Z=>t σ S (λc S1=>R (!c) S1) Z
def Y7(t u:my):my:=λσ S R Z=>t σ S (λc S1=>if c=true then u σ S1 R Z else R false S1) Z
def dOr(t u:my):my:=λσ S R Z=>t σ S (λc S1=>if c=true then R true S1 else u σ S1 R Z) Z
theorem cI{t:my}(ha:DT K X a t):DT K X (.UnaryOp .Not a pos) (Y6 t):=⟨λy=>(OV<|ha.of y).mono <| by rintro τ H Q ⟨σ,S,R,Z,aB,hS,q,hR,hZ⟩;exact{σ,S,_,Z,aB,hS,q,λc S1 H1 r1 s1 k1=>hR _ S1 H1 r1 s1 k1,hZ}⟩
structure DW(K:Frag)(X:Cx)(e:Expr)(t:my):Prop where
 of:∀{b:Bool}(y:Ev X b),PW y.cx e<|Tt K y.E t
theorem PW.mono{t t':TT}(h:PW X e t)(i:∀τ H Q,t' τ H Q->t τ H Q):PW X e t':=λwh pins s τ H Q I q=>h wh pins s τ H Q I<|i τ H Q q
theorem twd{t:my}(h:DW K X e t):DT K X e t:=⟨λy=>(h.of y).pt⟩
theorem tw1{t:my}(h:DT K X a t):DW K X (.BoolOp op [a] pos) t:=⟨λy=>by cases op with|And=>exact pw_and1 (h.of y)|Or=>exact pw_or1<|h.of y⟩
theorem twand{a b:Expr}{rest:List Expr}{t u:my}{pos:Pos}(ha:DT K X a t)(hb:DW K X (.BoolOp .And (b::rest) pos) u):DW K X (.BoolOp .And (a::b::rest) pos) (Y7 t u):=
 ⟨λy=>(pw_and (ha.of y)<|hb.of y).mono <| by rintro τ H Q ⟨σ,S,R,Z,aB,hS,q,hR,hZ⟩;exact
  ⟨σ,S,_,Z,aB,hS,q,λc S1 H1 r1 s1 k1=>by
   cases c with
   |true=>rw[if_pos rfl]at r1⊢;exact{σ,S1,R,Z,aB.ts k1,s1,r1,hR.kp k1,hZ.kp k1}
   |false=>rw[if_neg zd]at r1⊢;exact hR _ S1 H1 r1 s1 k1,hZ⟩⟩
theorem twor{a b:Expr}{rest:List Expr}{t u:my}{pos:Pos}(ha:DT K X a t)(hb:DW K X (.BoolOp .Or (b::rest) pos) u):DW K X (.BoolOp .Or (a::b::rest) pos) (dOr t u):=
 ⟨λy=>(pw_or (ha.of y)<|hb.of y).mono <| by rintro τ H Q ⟨σ,S,R,Z,aB,hS,q,hR,hZ⟩;exact
  ⟨σ,S,_,Z,aB,hS,q,λc S1 H1 r1 s1 k1=>by
   cases c with
   |false=>rw[if_neg zd]at r1⊢;exact{σ,S1,R,Z,aB.ts k1,s1,r1,hR.kp k1,hZ.kp k1}
   |true=>rw[if_pos rfl]at r1⊢;exact hR _ S1 H1 r1 s1 k1,hZ⟩⟩
def Y8(t:my)(ta tb:TD):TD:=λσ S R Z=>t σ S (λc S1=>if c=true then ta σ S1 R Z else tb σ S1 R Z) Z
theorem LF{t:my}(hc:DT K X c t)(ha:DE K X a ta)(hb:DE K X b tb):DE K X (.IfExp c a b pos) (Y8 t ta tb):=
 ⟨λy=>(GX (hc.of y) (ha.of y)<|hb.of y).mono <| by rintro τ H Q ⟨σ,S,R,Z,aB,hS,q,hR,hZ⟩;exact
  ⟨σ,S,_,Z,aB,hS,q,λc S1 H1 r1 s1 k1=>by
   cases c with
   |true=>rw[if_pos rfl]at r1⊢;exact{σ,S1,R,Z,aB.ts k1,s1,r1,hR.kp k1,hZ.kp k1}
   |false=>rw[if_neg zd]at r1⊢;exact{σ,S1,R,Z,aB.ts k1,s1,r1,hR.kp k1,hZ.kp k1},hZ⟩⟩
def Y9(t:jh):TD:=λσ S R Z=>t σ S (λds S1=>ds.length<=sizeLine/\∀p,S1 p=none->R (.ref p) (S1.set p<|.lst ds)) Z
def Y_(t:jh):TD:=λσ S R Z=>t σ S (λds S1=>ds.length<=sizeLine/\R (.tup ds) S1) Z
theorem cy{t:jh}(h:DA K X es t):DE K X (.List es pos) (Y9 t):=
 ⟨λy=>(Pn<|h.of y).mono <| by rintro τ H Q ⟨σ,S,R,Z,aB,hS,q,hR,hZ⟩;exact
  ⟨σ,S,_,Z,aB,hS,q,by rintro ds S1 xs H1 ⟨hl,r1⟩ v1 s1 k1;exact⟨by rw[v1.len];exact hl,λp hp=>hR _ _ _ _ (r1 p<|s1.fresh hp) (gL p) (s1.new hp ⟨xs,aE,RvAll.ts (.new hp) _ v1⟩)<|k1.trans<|.new hp⟩,hZ⟩⟩
theorem ck{t:jh}(h:DA K X es t):DE K X (.Tuple es x1 pos) (Y_ t):=
 ⟨λy=>(Pm<|h.of y).mono <| by rintro τ H Q ⟨σ,S,R,Z,aB,hS,q,hR,hZ⟩;exact
  ⟨σ,S,_,Z,aB,hS,q,by rintro ds S1 xs H1 ⟨hl,r1⟩ v1 s1 k1;exact⟨by rw[v1.len];exact hl,λp hp=>hR _ _ _ _ r1 (jy aE<|RvAll.ts (.new hp) _ v1) (s1.grow hp)<|k1.trans<|.new hp⟩,hZ⟩⟩
def Za:TD:=λ_ S R _=>∀p,S p=none->R (.ref p) (S.set p<|.cB [])
theorem Uy:DE K X (.Dict [] [] pos) Za:=⟨λy=>(Hm (X:=y.cx)).mono <| by rintro τ H Q ⟨σ,S,R,Z,aB,hS,q,hR,hZ⟩ p hp;exact hR _ _ _ _ (q p<|hS.fresh hp) (gL p) (hS.new hp {[],aE,.nil})<|.new hp⟩
def Lc(K:Frag)(r:List D->au->KD->Prop):List V->Hp->VK->Prop:=λxs H Q=>∃ds S R,RvAll K H ds xs/\Rs K S H/\r ds S R/\Cn K H R Q
def i6(K:Frag)(f:Value)(r:List D->au->KD->Prop):Prop:=∀X:Cx,X.K=K->X.calm=true->fg X f (Lc K r)
def W6(r:List D->au->KD->Prop)(t:jh):TD:=λσ S R Z=>t σ S (λds S1=>r ds S1 R) Z
theorem T.cb{t:jh}(h:T K E (W6 r t) τ H Q):Ym (Lc K r) (Ta K E t) τ H Q:=by obtain⟨σ,S,R,Z,aB,hS,q,hR,hZ⟩:=h;exact{σ,S,_,Z,aB,hS,q,λds S1 xs H1 r1 v1 s1 k1=>{ds,S1,R,v1,s1,r1,hR.kp k1},hZ}
theorem cb{x:Str}{id:String}{r:List D->au->KD->Prop}{e:Expr}{es:List Expr}{t:jh}{p pos:Pos}(hc:i6 K (.builtin id) r)(hm:X.mg x=none)(hv:bootBuiltins x=some (.builtin id))(ha:DA K X (e::es) t)(hg:autoParam (Gl X x) qQJ) (hn:autoParam (x≠"__name__") qQZ) (pW:autoParam ((x==("__debug__": Str))=false) qQZ) (he:autoParam (starEach (e::es) X.env=(false,eval e X.env)::starEach es X.env) qQJ) (dO:autoParam ((backTo pos<|starEach es X.env).any (·.1)=false) qQJ) (hK:autoParam (X.K=K) qQJ) (hC:autoParam (X.calm=true) qQJ): DE K X (.Call (.Name x p) (e::es) [] pos) (W6 r t):=⟨λy=>(xN (X:=y.cx) (hc _ hK hC) hg hm hv (ha.of y) hn pW he dO).mono λ_ _ _ h=>h.cb⟩
theorem ct{x:Str}{id:String}{r:List D->au->KD->Prop}{e:Expr}{es:List Expr}{t:jh}{p pos:Pos}(hc:i6 K (.type id) r)(hm:X.mg x=none)(hv:bootBuiltins x=some (.type id))(ha:DA K X (e::es) t)(hg:autoParam (Gl X x) qQJ) (hn:autoParam (x≠"__name__") qQZ) (pW:autoParam ((x==("__debug__": Str))=false) qQZ) (he:autoParam (starEach (e::es) X.env=(false,eval e X.env)::starEach es X.env) qQJ) (dO:autoParam ((backTo pos<|starEach es X.env).any (·.1)=false) qQJ) (hK:autoParam (X.K=K) qQJ) (hC:autoParam (X.calm=true) qQJ): DE K X (.Call (.Name x p) (e::es) [] pos) (W6 r t):=⟨λy=>(uu (X:=y.cx) (hc _ hK hC) hg hm hv (ha.of y) hn pW he dO).mono λ_ _ _ h=>h.cb⟩
end
section
variable{K:Frag}
theorem Cn.now(h:Cn K H R Q)(hS:Rs K S H)(r:R d S)(rv:Rv K H d v):Q v H:=h d S v H r rv hS<|.refl _
theorem Cn.new{H:Hp}{R:KD}{Q:VK}{S:au}{p:Addr}{ds:List D}{xs:List V}(h:Cn K H R Q)(hS:Rs K S H)(hp:H p=none)(r:S p=none->R (.ref p) (S.set p<|.lst ds))(rv:RvAll K H ds xs):Q (.ref p) (upd H p<|.lst xs):=h _ _ _ _ (r<|hS.fresh hp) (gL p) (hS.new hp {xs,aE,RvAll.ts (.new hp) _ rv})<|.new hp
theorem Cn.Uz{H:Hp}{R:KD}{Q:VK}{S:au}{p:Addr}{ds:List D}{xs:List V}(h:Cn K H R Q)(hS:Rs K S H)(hp:H p=none)(r:R (.tup ds) S)(rv:RvAll K H ds xs):Q (.ref p) (upd H p<|.tup xs):=h _ _ _ _ r (jy aE<|RvAll.ts (.new hp) _ rv) (hS.grow hp)<|.new hp
theorem Cn.put{H:Hp}{R:KD}{Q:VK}{S:au}{p:Addr}{ds es:List D}{xs:List V}{d:D}{v:V}(h:Cn K H R Q)(hS:Rs K S H)(hp:S p=some (.lst es))(r:R d<|S.set p<|.lst ds)(rd:Rv K H d v)(rv:RvAll K H ds xs):Q v (upd H p<|.lst xs):=h _ _ _ _ r (Rv.ts (hS.gM hp) _ rd) (hS.put hp {xs,aE,RvAll.ts (hS.gM hp) _ rv})<|hS.gM hp
def uF(S:au):D->List D->Prop|.ref a,ds=>S a=some (.lst ds)|.jn es,ds=>es=ds|_,_=>False
theorem uF.at{H:Hp}{S:au}{d:D}{ds:List D}{v:V}(h:uF S d ds)(hS:Rs K S H)(r:Rv K H d v):∃a xs,v=.ref a/\kh K H a xs/\RvAll K H ds xs:=by cases d with|ref a=>(obtain⟨xs,e,q⟩:=hS.lst h;exact{a,xs,r.ref,.of e,q})|jn es=>(have h:es=ds:=h;subst h;obtain⟨a,xs,e,q,t⟩:=r.jn;exact⟨a,xs,e,q.sq,t⟩)|_=>exact h.elim
def Zb:uE:=λx y S R=>match x,y with|.int i,.int j=>R (.int<|i+j) S|.str a,.str b=>a.length+b.length<=sizeLine/\R (.str<|a++b) S|.tup a,.tup b=>a.length+b.length<=sizeLine/\R (.tup<|a++b) S|.ref a,.ref b=>∃xs ys,S a=some (.lst xs)/\S b=some (.lst ys)/\xs.length+ys.length<=sizeLine/\∀p,S p=none->R (.ref p) (S.set p<|.lst<|xs++ys)|_,_=>False
theorem UA:oX K (binaryOp .Add) Zb:=by rintro X hK hu pins s σ H x y v u Q I rx ry ⟨d,e,S,R,r1,r2,hS,h,hR⟩;subst hK;cases d with|int i=>(cases e with|int j=>exact G6 pins s σ H x y v u Q I rx ry {i,j,r1.int,r2.int,hR.now hS h<|aP _}|_=>exact h.elim)|str i=>(cases e with|str j=>exact qO pins s σ H x y v u Q I rx ry {i,j,r1.str,r2.str,h.1,hR.now hS h.2<|dQ _}|_=>exact h.elim)|tup i=>(cases e with|tup j=>(obtain⟨a,xs,rfl,q1,t1⟩:=r1.tup;obtain⟨b,ys,rfl,q2,t2⟩:=r2.tup;refine Lj pins s σ H _ _ v u Q I rx ry {a,b,xs,ys,rfl,rfl,.of q1,.of q2,by rw[t1.len,t2.len];exact h.1,λe=>?_,λ_ e=>?_,λ_ _ p hp=>hR.Uz hS hp h.2<|t1.app t2};subst e;have:i=[]:=List.length_eq_zero_iff.mp t1.len.symm;subst this;exact hR.now hS h.2<|jy q2 t2;subst e;have:j=[]:=List.length_eq_zero_iff.mp t2.len.symm;subst this;exact hR.now hS h.2<|by rw[List.append_nil];exact jy q1 t1)|_=>exact h.elim)|ref a=>(cases e with|ref b=>(obtain⟨xs,ys,e1,e2,hl,q⟩:=h;obtain⟨vs,h1,t1⟩:=hS.lst e1;obtain⟨ws,h2,t2⟩:=hS.lst e2;exact Hi pins s σ H x y v u Q I rx ry {a,b,vs,ws,r1.ref,r2.ref,h1,h2,by rw[t1.len,t2.len];exact hl,λp hp=>hR.new hS hp (q p)<|t1.app t2})|_=>exact h.elim)|_=>exact h.elim
def Zc:uE:=λx y S R=>match x,y with|.int i,.int j=>R (.int<|i-j) S|_,_=>False
theorem rm:oX K (binaryOp .Sub) Zc:=by rintro X hK hu pins s σ H x y v u Q I rx ry ⟨d,e,S,R,r1,r2,hS,h,hR⟩;cases d<;>cases e<;>first|exact False.elim h|exact Pc pins s σ H x y v u Q I rx ry {_,_,r1.int,r2.int,hR.now hS h<|aP _}
def Zd:uE:=λx y S R=>match x,y with|.int i,.int j=>Kz i j/\R (.int<|i*j) S|.str z,.int n=>MulOk z n/\R (.str<|PySem.Txt.mul z n) S|_,_=>False
theorem mz:oX K (binaryOp .Mult) Zd:=by rintro X hK hu pins s σ H x y v u Q I rx ry ⟨d,e,S,R,r1,r2,hS,h,hR⟩;cases d<;>cases e<;>first|exact False.elim h|exact Pd pins s σ H x y v u Q I rx ry {_,_,r1.int,r2.int,h.1,hR.now hS h.2<|aP _}|exact BV pins s σ H x y v u Q I rx ry {_,_,r1.str,r2.int,h.1,hR.now hS h.2<|dQ _}
def Ze:uE:=λx y S R=>match x,y with|.int i,.int j=>0<j/\R (.int<|i%j) S|_,_=>False
theorem bw:oX K (binaryOp .Mod) Ze:=by rintro X hK hu pins s σ H x y v u Q I rx ry ⟨d,e,S,R,r1,r2,hS,h,hR⟩;cases d<;>cases e<;>first|exact False.elim h|exact Pe pins s σ H x y v u Q I rx ry {_,_,r1.int,r2.int,h.1,hR.now hS h.2<|aP _}
def UB:uE:=λx y S R=>match x,y with|.int i,.int j=>NB i j/\R (.int<|i/j) S|_,_=>False
theorem bR:oX K (binaryOp .FloorDiv) UB:=by rintro X hK hu pins s σ H x y v u Q I rx ry ⟨d,e,S,R,r1,r2,hS,h,hR⟩;cases d<;>cases e<;>first|exact False.elim h|exact Hu pins s σ H x y v u Q I rx ry {_,_,r1.int,r2.int,h.1,hR.now hS h.2<|aP _}
def Zg:uE:=λx y S R=>match x,y with|.int i,.int j=>Tr i j/\R (.int<|i^j.toNat) S|_,_=>False
theorem mB:oX K (binaryOp .Pow) Zg:=by rintro X hK hu pins s σ H x y v u Q I rx ry ⟨d,e,S,R,r1,r2,hS,h,hR⟩;cases d<;>cases e<;>first|exact False.elim h|exact Pf pins s σ H x y v u Q I rx ry {_,_,r1.int,r2.int,h.1,hR.now hS h.2<|aP _}
def HP(f:Int->Int->Bool)(g:Str->Str->Bool):uE:=λx y S R=>match x,y with|.int i,.int j=>R (.bl<|f i j) S|.str i,.str j=>R (.bl<|g i j) S|_,_=>False
theorem DP(h1:∀X:Cx,hG X (compareOp op)<|Kx λi j=>.bl<|f i j) (h2:∀X:Cx,hG X (compareOp op) λx y H Q=>∃i j,x=.str i/\y=.str j/\Q (.bl<|g i j) H):oX K (compareOp op) (HP f g):=by rintro X hK hu pins s σ H x y v u Q I rx ry ⟨d,e,S,R,r1,r2,hS,h,hR⟩;cases d<;>cases e<;>first|exact False.elim h|exact h1 X pins s σ H x y v u Q I rx ry {_,_,r1.int,r2.int,hR.now hS h<|bY _}|exact h2 X pins s σ H x y v u Q I rx ry {_,_,r1.str,r2.str,hR.now hS h<|bY _}
theorem x8:oX K (compareOp .Lt) (HP (λi j=>decide<|i<j) λi j=>uz i j):=DP (λ_=>Tu) λ_=>EX
theorem jz:oX K (compareOp .LtE) (HP (λi j=>decide<|i<=j) λi j=>GK i j):=DP (λ_=>Tv) λ_=>Fl
theorem rn:oX K (compareOp .Gt) (HP (λi j=>decide<|j<i) λi j=>uz j i):=DP (λ_=>Tw) λ_=>Fn
theorem Zh:oX K (compareOp .GtE) (HP (λi j=>decide<|j<=i) λi j=>GK j i):=DP (λ_=>Tx) λ_=>Fm
noncomputable def ah:D->Bool|.av=>true|_=>false
theorem x9(r:Rv K H d v):decide (v=.av)=ah d:=by cases d with|av=>rw[r.av];rfl|bl b=>rw[r.bl];rfl|int b=>rw[r.int];rfl|str b=>rw[r.str];rfl|ref b=>rw[r.ref];rfl|ty b=>rw[r.ty];rfl|tup b=>(obtain⟨a,xs,rfl,_⟩:=r.tup;rfl)|jn b=>(obtain⟨a,xs,rfl,_⟩:=r.jn;rfl)|kt b=>obtain⟨a,xs,rfl,_⟩:=r.kt;rfl
def Zi:uE:=λx y S R=>match y with|.av=>R (.bl<|ah x) S|_=>False
def UC:uE:=λx y S R=>match y with|.av=>R (.bl<|!ah x) S|_=>False
theorem iE:oX K (compareOp .Is) Zi:=by rintro X hK hu pins s σ H x y v u Q I rx ry ⟨d,e,S,R,r1,r2,hS,h,hR⟩;cases e<;>first|exact False.elim h|exact Ph pins s σ H x y v u Q I rx ry {r2.av,by rw[x9 r1];exact hR.now hS h<|bY _}
theorem nR:oX K (compareOp .IsNot) UC:=by rintro X hK hu pins s σ H x y v u Q I rx ry ⟨d,e,S,R,r1,r2,hS,h,hR⟩;cases e<;>first|exact False.elim h|exact KA pins s σ H x y v u Q I rx ry {r2.av,by rw[x9 r1];exact hR.now hS h<|bY _}
mutual
def Dp(S:au):D->PyData->Prop|.av,p=>p=.none|.bl b,p=>p=.bool b|.int i,p=>p=.int i|.str z,p=>p=.str z|.tup ds,p=>∃ps,p=.tuple ps/\DpAll S ds ps|.jn ds,p=>∃ps,p=.list ps/\DpAll S ds ps|.kt _,_=>False|.ref _,_=>False|.ty _,_=>False
def DpAll(S:au):List D->List PyData->Prop|[],ps=>ps=[]|d::ds,ps=>∃q qs,ps=q::qs/\Dp S d q/\DpAll S ds qs
end
mutual
theorem Dp.dt:∀(d:D){p:PyData}{v:V},Dp S d p->Rv K H d v->Dt K H p v|.av,p,v,h,r=>by simp only[Dp]at h;subst h;simp only[Dt];exact r.av|.bl b,p,v,h,r=>by simp only[Dp]at h;subst h;simp only[Dt];exact r.bl|.int b,p,v,h,r=>by simp only[Dp]at h;subst h;simp only[Dt];exact r.int|.str b,p,v,h,r=>by simp only[Dp]at h;subst h;simp only[Dt];exact r.str|.tup ds,p,v,h,r=>(by simp only[Dp]at h;obtain⟨ps,rfl,h⟩:=h;obtain⟨a,xs,rfl,q,t⟩:=r.tup;simp only[Dt];exact{a,xs,rfl,.of q,DpAll.dt ds h t})|.jn ds,p,v,h,r=>(by simp only[Dp]at h;obtain⟨ps,rfl,h⟩:=h;obtain⟨a,xs,rfl,q,t⟩:=r.jn;simp only[Dt];exact{a,xs,rfl,q.sq,DpAll.dt ds h t})|.kt a,p,v,h,r=>by simp only[Dp]at h|.ref a,p,v,h,r=>by simp only[Dp]at h|.ty a,p,v,h,r=>by simp only[Dp]at h
theorem DpAll.dt:∀(ds:List D){ps:List PyData}{vs:List V},DpAll S ds ps->RvAll K H ds vs->DtAll K H ps vs|[],ps,vs,h,r=>by simp only[DpAll]at h;subst h;rw[r.nil];simp only[DtAll]|d::ds,ps,vs,h,r=>by simp only[DpAll]at h;obtain⟨q,qs,rfl,h1,h2⟩:=h;obtain⟨y,ys,rfl,r1,r2⟩:=r.cons;simp only[DtAll];exact{y,ys,rfl,Dp.dt d h1 r1,DpAll.dt ds h2 r2}
end
def Dl(S:au):D->PyData->Prop|.ref a,p=>∃ds ps,S a=some (.lst ds)/\p=.list ps/\DpAll S ds ps|d,p=>Dp S d p
theorem Dl.dt(h:Dl S d p)(hS:Rs K S H)(r:Rv K H d v):Dt K H p v:=by cases d with|ref a=>(obtain⟨ds,ps,e,rfl,h⟩:=h;obtain⟨xs,e1,t⟩:=hS.lst e;rw[r.ref];simp only[Dt];exact{a,xs,rfl,.of e1,DpAll.dt ds h t})|_=>exact Dp.dt _ h r
def Fx(neg:Bool):uE:=λx y S R=>match x,y with|.int i,.int j=>(R (.bl<|if neg then !decide (i=j) else decide (i=j)) S)|.str i,.str j=>(R (.bl<|if neg then !decide (i=j) else decide (i=j)) S)|x,y=>∃p q,Dl S x p/\Dl S y q/\p.canLay0=true/\q.canLay0=true/\(p.depth<=64\/q.depth<=64)/\R (.bl<|if neg then !PyData.eqv p q else PyData.eqv p q) S
theorem HQ(h:Fx neg x y S R):(∃i j,x=.int i/\y=.int j/\R (.bl<|if neg then !decide (i=j) else decide (i=j)) S)\/(∃i j,x=.str i/\y=.str j/\R (.bl<|if neg then !decide (i=j) else decide (i=j)) S)\/∃p q,Dl S x p/\Dl S y q/\p.canLay0=true/\q.canLay0=true/\(p.depth<=64\/q.depth<=64)/\R (.bl<|if neg then !PyData.eqv p q else PyData.eqv p q) S:=by cases x<;>cases y<;>first|exact .inl {_,_,rfl,rfl,h}|exact .inr (.inl {_,_,rfl,rfl,h})|exact .inr (.inr h)
theorem bz:oX K (compareOp .Eq) (Fx false):=by
 rintro X hK hu pins s σ H x y v u Q I rx ry ⟨d,e,S,R,r1,r2,hS,h,hR⟩;subst hK;rcases HQ h with⟨i,j,rfl,rfl,h⟩|⟨i,j,rfl,rfl,h⟩|⟨p,q,h1,h2,c1,c2,dp,h⟩;cases r1.int;cases r2.int;refine Nu pins s σ H _ _ v u Q I rx ry {rfl,?_};have e:decide (V.int i=V.int j)=decide (i=j):=by simp
 rw[e];exact hR.now hS h<|bY _;cases r1.str;cases r2.str;refine Nu pins s σ H _ _ v u Q I rx ry {rfl,?_};have e:decide (V.str i=V.str j)=decide (i=j):=by simp
 rw[e];exact hR.now hS h<|bY _;exact HB hu pins s σ H x y v u Q I rx ry {p,q,h1.dt hS r1,h2.dt hS r2,c1,c2,dp,hR.now hS h<|bY _}
theorem lP:oX K (compareOp .NotEq) (Fx true):=by
 rintro X hK hu pins s σ H x y v u Q I rx ry ⟨d,e,S,R,r1,r2,hS,h,hR⟩;subst hK;rcases HQ h with⟨i,j,rfl,rfl,h⟩|⟨i,j,rfl,rfl,h⟩|⟨p,q,h1,h2,c1,c2,dp,h⟩;cases r1.int;cases r2.int;refine Nv pins s σ H _ _ v u Q I rx ry {rfl,?_};have e:decide (V.int i=V.int j)=decide (i=j):=by simp
 rw[e];exact hR.now hS h<|bY _;cases r1.str;cases r2.str;refine Nv pins s σ H _ _ v u Q I rx ry {rfl,?_};have e:decide (V.str i=V.str j)=decide (i=j):=by simp
 rw[e];exact hR.now hS h<|bY _;exact HC hu pins s σ H x y v u Q I rx ry {p,q,h1.dt hS r1,h2.dt hS r2,c1,c2,dp,hR.now hS h<|bY _}
noncomputable def bZ(kvs:List<|Key×D)(k:Key):Option D:=(kvs.find? λkv=>decide<|kv.1=k).map (·.2)
noncomputable def dput(kvs:List<|Key×D)(k:Key)(v:D):List (Key×D):=if (kvs.any λkv=>decide<|kv.1=k)=true then kvs.map (λkv=>if kv.1=k then (kv.1,v) else kv) else kvs++[(k,v)]
noncomputable def x_(kvs:List<|Key×D)(k:Key):List (Key×D):=kvs.filter λkv=>decide<|kv.1≠k
theorem bQ.val(h:bQ K H ks vs)(k:Key):(∀d,bZ ks k=some d->∃v,gs vs k=some v/\Rv K H d v)/\(bZ ks k=none->gs vs k=none):=by induction h with|nil=>(exact{λd e=>(by cases e),λ_=>rfl})|@cons a b l m r t ih=>obtain⟨k',d⟩:=a;obtain⟨k'',v⟩:=b;obtain⟨e0,r⟩:=r;dsimp only at e0;subst e0;unfold bZ gs;simp only[ya];by_cases q:k'=k;rw[zC q];exact{λd' e=>{v,rfl,(by cases e;exact r)},λe=>(by cases e)};rw[zB q];exact ih
theorem bQ.any(h:bQ K H ks vs)(k:Key):(ks.any λkv=>decide<|kv.1=k)=(vs.any λkv=>decide<|kv.1=k):=by induction h with|nil=>rfl|cons r t ih=>rw[yR,yR,ih,r.1]
theorem bQ.len(h:bQ K H ks vs):vs.length=ks.length:=(yG h).symm
theorem bQ.app:∀{ks ls:List (κ×D)}{vs ws:List (κ×V)},bQ K H ks vs->bQ K H ls ws->bQ K H (ks++ls) (vs++ws)|_,_,_,_,.nil,h=>h|_,_,_,_,.cons r t,h=>.cons r<|bQ.app t h
theorem bQ.PD(h:bQ K H ks vs)(k:Key)(rd:Rv K H d v):bQ K H (ks.map λkv=>if kv.1=k then (kv.1,d) else kv) (vs.map λkv=>if kv.1=k then (kv.1,v) else kv):=by induction h with|nil=>exact .nil|@cons a b l m r t ih=>refine .cons ?_ ih;dsimp only;by_cases q:b.1=k;rw[if_pos q,if_pos<|r.1.trans q];exact⟨r.1,rd⟩;rw[if_neg q,if_neg λz=>q<|r.1.symm.trans z];exact r
theorem bQ.put(h:bQ K H ks vs)(k:Key)(rd:Rv K H d v):bQ K H (dput ks k d) (putK vs k v):=by unfold dput putK;rw[h.any k];split;exact h.PD k rd;exact h.app<|.cons ⟨rfl,rd⟩ .nil
theorem bQ.drop(h:bQ K H ks vs)(k:Key):bQ K H (x_ ks k) (oU vs k):=by unfold x_ oU;induction h with|nil=>exact .nil|@cons a b l m r t ih=>rw[List.filter_cons,List.filter_cons,r.1];by_cases q:b.1=k;rw[if_neg<|by simp[q],if_neg<|by simp[q]];exact ih;rw[if_pos<|by simp[q],if_pos<|by simp[q]];exact .cons r ih
noncomputable def B8:D->Option Key|.int i=>some (.inl i)|.str z=>some (.inr z)|_=>none
theorem nS(h:B8 d=some k)(r:Rv K H d v):v=kV k:=by cases d with|int i=>(cases h;exact r.int)|str i=>(cases h;exact r.str)|_=>cases h
noncomputable def kY:D->Bool|.av=>true|.bl _=>true|.int _=>true|.str _=>true|_=>false
noncomputable def mC:D->V|.av=>.av|.bl b=>.bl b|.int i=>.int i|.str z=>.str z|.ref a=>.ref a|.ty n=>.ty n|_=>.av
theorem rq(h:kY d=true)(r:Rv K H d v):v=mC d/\hU v=true:=by cases d with|av=>(cases r.av;exact⟨rfl,rfl⟩)|bl b=>(cases r.bl;exact⟨rfl,rfl⟩)|int b=>(cases r.int;exact⟨rfl,rfl⟩)|str b=>(cases r.str;exact⟨rfl,rfl⟩)|_=>cases h
theorem mD:∀{ds:List D}{vs:List V},ds.all kY=true->RvAll K H ds vs->vs=ds.map mC/\vs.all hU=true|[],vs,_,r=>by rw[r.nil];exact⟨rfl,rfl⟩|d::ds,vs,h,r=>by obtain⟨y,ys,rfl,r1,r2⟩:=r.cons;rw[List.all_cons,zM]at h;obtain⟨e1,f1⟩:=rq h.1 r1;obtain⟨e2,f2⟩:=mD h.2 r2;refine{by rw[e1,e2];rfl,?_};rw[List.all_cons,f1,f2];rfl
def inD(neg:Bool):uE:=λx y S R=>match y with|.str j=>(∃i,x=.str i/\R (.bl<|if neg then !(!(Builtin.Str.occurrences j i 0 j.length 1).isEmpty) else !(Builtin.Str.occurrences j i 0 j.length 1).isEmpty) S)|.kt ds=>(kY x=true/\ds.all kY=true/\R (.bl<|if neg then !BC (mC x) (ds.map mC) else BC (mC x) (ds.map mC)) S)|.tup ds=>(kY x=true/\ds.all kY=true/\R (.bl<|if neg then !BC (mC x) (ds.map mC) else BC (mC x) (ds.map mC)) S)|.ref a=>((∃ds,S a=some (.lst ds)/\kY x=true/\ds.all kY=true/\R (.bl<|if neg then !BC (mC x) (ds.map mC) else BC (mC x) (ds.map mC)) S)\/∃kvs k,S a=some (.cB kvs)/\B8 x=some k/\R (.bl<|if neg then !(bZ kvs k).isSome else (bZ kvs k).isSome) S)|_=>False
theorem vJ(hS:Rs K S H)(e:S a=some (.cB kvs)):∃o,pY H a (kV k) o/\o.isSome=(bZ kvs k).isSome/\∀d,bZ kvs k=some d->∃v,o=some v/\Rv K H d v:=by obtain⟨vs,e1,t⟩:=hS.cB e;refine{_,pY.k e1,?_,λd h=>(t.val k).1 d h};cases q:bZ kvs k with|none=>rw[(t.val k).2 q];rfl|some d=>obtain⟨v,e2,_⟩:=(t.val k).1 d q;rw[e2];rfl
theorem yY:oX K (compareOp .In) (inD false):=by rintro X hK hu pins s σ H x y v u Q I rx ry ⟨d,e,S,R,r1,r2,hS,h,hR⟩;subst hK;cases e with|str j=>(obtain⟨i,rfl,h⟩:=h;exact EY pins s σ H x y v u Q I rx ry {i,j,r1.str,r2.str,hR.now hS h<|bY _})|tup ds=>(obtain⟨f1,f2,h⟩:=h;obtain⟨a,xs,rfl,q,t⟩:=r2.tup;obtain⟨e1,g1⟩:=rq f1 r1;obtain⟨e2,g2⟩:=mD f2 t;subst e1 e2;exact nM pins s σ H _ _ v u Q I rx ry {a,_,rfl,.inr<|.of q,g1,g2,hR.now hS h<|bY _})|kt ds=>(obtain⟨f1,f2,h⟩:=h;obtain⟨a,xs,rfl,q,t⟩:=r2.kt;obtain⟨e1,g1⟩:=rq f1 r1;obtain⟨e2,g2⟩:=mD f2 t;subst e1 e2;exact nM pins s σ H _ _ v u Q I rx ry {a,_,rfl,.inr<|.inr q,g1,g2,hR.now hS h<|bY _})|ref a=>(cases r2.ref;rcases h with⟨ds,e,f1,f2,h⟩|⟨kvs,k,e,hk,h⟩;obtain⟨xs,e1,t⟩:=hS.lst e;obtain⟨e2,g1⟩:=rq f1 r1;obtain⟨e3,g2⟩:=mD f2 t;subst e2 e3;exact nM pins s σ H _ _ v u Q I rx ry {a,_,rfl,.inl<|.of e1,g1,g2,hR.now hS h<|bY _};cases nS hk r1;cases ry;obtain⟨o,g,e1,_⟩:=vJ (k:=k) hS e;refine Yx (by lia) I g rx λs' I'=>{.bl o.isSome,H,I',rfl,?_};rw[e1];exact hR.now hS h<|bY _)|_=>exact h.elim
def IxD(K:Frag)(r:uE):Prop:=∀X:Cx,X.K=K->X.A.units+64<cLine->TK X (Lr K r)
inductive W7 (ds:List D) (i:Int) (S:au) (R:KD):Prop where
 |mk (d:D) (h:jm ds i=some d) (r:R d S)
inductive Zj (a:Addr) (i:Int) (S:au) (R:KD):Prop where
 |mk (ds:List D) (d:D) (e:S a=some (.lst ds)) (h:jm ds i=some d) (r:R d S)
def ixD:uE:=λx y S R=>match x,y with|.tup ds,.int i=>W7 ds i S R|.kt ds,.int i=>W7 ds i S R|.jn ds,.int i=>W7 ds i S R|.str z,.int i=>∃c,z.length<=sizeLine/\jm z.cps.toList i=some c/\R (.str ⟨#[c]⟩) S|.ref a,.int i=>Zj a i S R|.ref a,.str z=>∃kvs d,S a=some (.cB kvs)/\bZ kvs (.inr z)=some d/\R d S|_,_=>False
theorem RvAll.at{H:Hp}{ds:List D}{xs:List V}{i:Int}{d:D}(h:RvAll K H ds xs)(e:jm ds i=some d):∃v,jm xs i=some v/\Rv K H d v:=by unfold jm at e⊢;rw[h.len];cases q:GI ds.length i with|none=>(rw[q]at e;cases e)|some j=>rw[q]at e;exact h.get e
theorem Zk:IxD K ixD:=by rintro X hK hu value slice pins s σ H x y v u Q I rx ry ⟨d,e,S,R,r1,r2,hS,h,hR⟩ hs;subst hK;cases d with|tup ds=>(cases e with|int i=>(obtain⟨d,e,h⟩:=h;obtain⟨a,xs,rfl,q,t⟩:=r1.tup;obtain⟨z,e1,r⟩:=t.at e;exact Hd value slice pins s σ H _ _ v u Q I rx ry {a,xs,i,z,rfl,r2.int,.of q,e1,hR.now hS h r} hs)|_=>exact h.elim)|kt ds=>(cases e with|int i=>(obtain⟨d,e,h⟩:=h;obtain⟨a,xs,rfl,q,t⟩:=r1.kt;obtain⟨z,e1,r⟩:=t.at e;exact Hd value slice pins s σ H _ _ v u Q I rx ry {a,xs,i,z,rfl,r2.int,.inr q,e1,hR.now hS h r} hs)|_=>exact h.elim)|jn ds=>(cases e with|int i=>(obtain⟨d,e,h⟩:=h;obtain⟨a,xs,rfl,q,t⟩:=r1.jn;obtain⟨z,e1,r⟩:=t.at e;exact DH value slice pins s σ H _ _ v u Q I rx ry {a,xs,i,z,rfl,r2.int,q.sq,e1,hR.now hS h r} hs)|_=>exact h.elim)|str w=>(cases e with|int i=>(obtain⟨c,e0,e,h⟩:=h;exact Pr value slice pins s σ H _ _ v u Q I rx ry {w,i,c,r1.str,r2.int,e0,e,hR.now hS h<|dQ _} hs)|_=>exact h.elim)|ref a=>(cases e with|int i=>(obtain⟨ds,d,e,e1,h⟩:=h;obtain⟨xs,e2,t⟩:=hS.lst e;obtain⟨z,e3,r⟩:=t.at e1;exact DH value slice pins s σ H _ _ v u Q I rx ry {a,xs,i,z,r1.ref,r2.int,.of e2,e3,hR.now hS h r} hs)|str w=>(obtain⟨kvs,d,e,e1,h⟩:=h;cases r1.ref;cases r2.str;cases rx;obtain⟨o,g,_,e2⟩:=vJ (k:=.inr w) hS e;obtain⟨z,rfl,r⟩:=e2 d e1;exact tail_any (xQ I g) PySem.F.slot_dict_getitem.lookup (Fe (by lia) I g ry λw' s' I' qQ=>{z,H,I',qQ,hR.now hS h r}) hs)|_=>exact h.elim)|_=>exact h.elim
theorem ix(hu:X.A.units+64<cLine)(ha:DE K X a ta)(hb:DE K X b tb)(hs:DF b:=by exact λ_ _=>rfl)(hK:autoParam (X.K=K) qQJ):DE K X (.Subscript a b pos) (Qd ixD ta tb):=⟨λy=>(TL (Zk y.cx hK hu) (ha.of y) (hb.of y) hs).mono λ_ _ _ h=>h.op⟩
end
section
variable{K:Frag}{X:Cx}
abbrev Sh:=SD->au->(Option Int->au->Prop)->KX->Prop
def To(K:Frag)(E:St->XK)(t:Sh):TO:=λτ H Q=>∃σ S R Z,iB K H σ τ/\Rs K S H/\t σ S R Z/\(∀o S' H',R o S'->Rs K S' H'->Kp K H H'->Q o H')/\DN K H Z (E τ)
structure DO(K:Frag)(X:Cx)(e:Option Expr)(t:Sh):Prop where
 of:∀{b:Bool}(y:Ev X b),PO y.cx e<|To K y.E t
theorem PO.mono{t t':TO}(h:PO X e t)(i:∀τ H Q,t' τ H Q->t τ H Q):PO X e t':=λpins s τ H Q I q=>h pins s τ H Q I<|i τ H Q q
def UD:Sh:=λ_ S R _=>R none S
inductive UE (d:D) (S:au) (R:Option Int->au->Prop):Prop where
 |mk (i:Int) (h:d=.int i) (r:R (some i) S)
def UG(t:TD):Sh:=λσ S R Z=>t σ S (λd S1=>UE d S1 R) Z
theorem o0:DO K X none UD:=⟨λy=>(KP (X:=y.cx)).mono <| by rintro τ H Q ⟨σ,S,R,Z,aB,hS,q,hR,hZ⟩;exact hR _ S H q hS<|.refl _⟩
theorem o1{t:TD}(h:DE K X e t):DO K X (some e) (UG t):=⟨λy=>(KQ<|h.of y).mono <| by rintro τ H Q ⟨σ,S,R,Z,aB,hS,q,hR,hZ⟩;exact{σ,S,_,Z,aB,hS,q,by rintro d S1 x H1 ⟨i,e,r1⟩ v1 s1 k1;exact by subst e;exact{i,v1.int,hR _ S1 H1 r1 s1 k1},hZ}⟩
noncomputable def dP{α:Type}(xs:List α)(lo hi:Option Int):List α:=(xs.drop<|HT.sIx xs.length 0 lo).take<|HT.sIx xs.length xs.length hi-HT.sIx xs.length 0 lo
theorem RvAll.cut{H:Hp}{ds:List D}{xs:List V}(h:RvAll K H ds xs)(lo hi:Option Int):RvAll K H (dP ds lo hi) (E_ xs lo hi):=by unfold dP E_;rw[h.len];exact(h.drop _).take _
def Zl(te:TD):TD:=λσ S R Z=>te σ S (λx S1=>∃i,x=.int i/\R (.int (-i)) S1) Z
theorem HR(he:DE K X e te):DE K X (.UnaryOp .USub e pos) (Zl te):=⟨λy=>(Tp Pg<|he.of y).mono <| by rintro τ H Q ⟨σ,S,R,Z,aB,hS,q,hR,hZ⟩;exact{σ,S,_,Z,aB,hS,q,by rintro d S1 x H1 ⟨i,e,r1⟩ v1 s1 k1;exact by subst e;exact{i,v1.int,hR _ S1 _ H1 r1 (aP _) s1 k1},hZ}⟩
def Zm(T:String)(S:au):D->Prop|.str _=>T ="str"|.ref a=>T ="list"/\∃ds,S a=some (.lst ds)|.jn _=>T ="list"|_=>False
theorem NK{H:Hp}{S:au}{T:String}{d:D}{v:V}(h:Zm T S d)(hS:Rs K S H)(r:Rv K H d v):WX K T v H:=by cases d with|str z=>rw[r.str];exact h|ref a=>(obtain⟨e,ds,h⟩:=h;obtain⟨xs,e1,_⟩:=hS.lst h;rw[r.ref];exact .inl {e,xs,.of e1})|jn ds=>(obtain⟨a,xs,rfl,q,_⟩:=r.jn;exact .inl ⟨h,xs,q.sq⟩)|_=>exact h.elim
abbrev GN:=D->List D->au->KD->Prop
def Lm(K:Frag)(r:GN):V->List V->Hp->VK->Prop:=λx xs H Q=>∃d ds S R,Rv K H d x/\RvAll K H ds xs/\Rs K S H/\r d ds S R/\Cn K H R Q
def NL(K:Frag)(id:String)(r:GN):Prop:=∀X:Cx,X.K=K->R4 X id (Lm K r)
def dBM(T:String)(r:GN)(to:TD)(t:jh):TD:=λσ S R Z=>to σ S (λx S1=>Zm T S1 x/\t σ S1 (λds S2=>r x ds S2 R) Z) Z
def Zn(T:String)(r:GN)(to:TD):TD:=λσ S R Z=>to σ S (λx S1=>Zm T S1 x/\r x [] S1 R) Z
theorem bm{o e:Expr}{es:List Expr}{T id:String}{name:Str}{r:GN}{to:TD}{t:jh}{apos aO:Pos}(pa:PlainAttrs T)(slot:Slot T name id)(Px:typeOf (.builtin id)=pure (.type "method_descriptor"))(hm:NL K id r)(ho:DE K X o to)(ha:DA K X (e::es) t) (mq:autoParam (attributeBase o name X.env (eval o X.env)=eval o X.env) qQJ) (Py:autoParam (((backTo aO<|starEach (e::es) X.env).all (λx=>!x.1)&&(backToKw aO<|keywordEach [] X.env).all (λx=>x.1.isSome)&&decide ((e::es).length+([]:List Keyword).length+(if ([]:List Keyword).isEmpty then 0 else 1)<30))=true) qQJ) (qR:autoParam ((apos.endLine==aO.line)=true) qQJ) (hs:autoParam (starEach (e::es) X.env=(false,eval e X.env)::starEach es X.env) qQJ) (BD:autoParam ((backTo aO<|starEach es X.env).any (·.1)=false) qQJ) (hK:autoParam (X.K=K) qQJ): DE K X (.Call (.Attribute o name apos) (e::es) [] aO) (dBM T r to t):=by
 subst hK
 exact⟨λy=>(TN (X:=y.cx) pa slot Px (hm _ rfl) (ho.of y) (ha.of y) mq Py qR hs BD).mono <| by rintro τ H Q ⟨σ,S,R,Z,aB,hS,q,hR,hZ⟩;exact
  ⟨σ,S,_,Z,aB,hS,q,by rintro d S1 x H1 ⟨h1,r1⟩ v1 s1 k1;exact⟨NK h1 s1 v1,σ,S1,_,Z,aB.ts k1,s1,r1,λds S2 xs H2 r2 v2 s2 k2=>⟨d,ds,S2,R,Rv.ts k2 _ v1,v2,s2,r2,hR.kp<|k1.trans k2⟩,hZ.kp k1⟩,hZ⟩⟩
theorem bm0{o:Expr}{T id:String}{name:Str}{r:GN}{to:TD}{apos aO:Pos}(pa:PlainAttrs T)(slot:Slot T name id)(Px:typeOf (.builtin id)=pure (.type "method_descriptor"))(hm:NL K id r)(ho:DE K X o to) (mq:autoParam (attributeBase o name X.env (eval o X.env)=eval o X.env) qQJ) (qR:autoParam ((apos.endLine==aO.line)=true) qQJ) (hK:autoParam (X.K=K) qQJ): DE K X (.Call (.Attribute o name apos) [] [] aO) (Zn T r to):=by
 subst hK
 exact⟨λy=>(Pw (X:=y.cx) pa slot Px (hm _ rfl) (ho.of y) mq qR).mono <| by rintro τ H Q ⟨σ,S,R,Z,aB,hS,q,hR,hZ⟩;exact
  ⟨σ,S,_,Z,aB,hS,q,by rintro d S1 x H1 ⟨h1,r1⟩ v1 s1 k1;exact⟨NK h1 s1 v1,d,[],S1,R,v1,bC,s1,r1,hR.kp k1⟩,hZ⟩⟩
theorem RvAll.one(h:RvAll K H [d] xs):∃v,xs=[v]/\Rv K H d v:=by obtain⟨y,ys,rfl,h1,h2⟩:=h.cons;rw[h2.nil];exact⟨y,rfl,h1⟩
inductive UH (x:D) (ds:List D) (S:au) (R:KD):Prop where
 |mk (a:Addr) (es:List D) (d:D) (e1:x=.ref a) (e2:ds=[d]) (e3:S a=some (.lst es)) (e4:es.length<sizeLine) (r:R .av<|S.set a<|.lst<|es++[d])
def LG:GN:=λx ds S R=>UH x ds S R
theorem bF:NL K "list.append" LG:=by rintro X hK pins s σ H x xs v us Q I rx rs ⟨d,ds,S,R,r1,r2,hS,⟨a,es,y,e1,e2,e3,hl,h⟩,hR⟩;subst e1 e2;obtain⟨w0,rfl,q2⟩:=r2.one;obtain⟨zs,e4,t⟩:=hS.lst e3;exact Fd pins s σ H x _ v us Q I rx rs {a,zs,w0,r1.ref,rfl,e4,by rw[t.len];exact hl,hR.put hS e3 h fI<|t.app<|aQ q2 bC}
def Zo:GN:=λx ds S R=>∃a es d,x=.ref a/\ds=[]/\S a=some (.lst es)/\es[es.length-1]?=some d/\R d (S.set a<|.lst es.dropLast)
theorem UI:NL K "list.pop" Zo:=by rintro X hK pins s σ H x xs v us Q I rx rs ⟨d,ds,S,R,r1,r2,hS,⟨a,es,y,e1,e2,e3,hl,h⟩,hR⟩;subst e1 e2;obtain⟨zs,e4,t⟩:=hS.lst e3;obtain⟨w,e5,r⟩:=t.get hl;exact Pz pins s σ H x _ v us Q I rx rs {a,zs,w,r1.ref,r2.nil,e4,by rw[t.len];exact e5,hR.put hS e3 h r t.dropLast}
def Qe:GN:=λx ds S R=>∃a es i k d,x=.ref a/\ds=[.int i]/\S a=some (.lst es)/\-(2^63)<=i/\i<2^63/\seqIndex? i es.length=some k/\es[k]?=some d/\R d (S.set a<|.lst<|es.eraseIdx k)
theorem LH:NL K "list.pop" Qe:=by rintro X hK pins s σ H x xs v us Q I rx rs ⟨d,ds,S,R,r1,r2,hS,⟨a,es,i,k,y,e1,e2,e3,h1,h2,h3,h4,h⟩,hR⟩;subst e1 e2;obtain⟨w0,rfl,q2⟩:=r2.one;obtain⟨zs,e4,t⟩:=hS.lst e3;obtain⟨w,e5,r⟩:=t.get h4;exact Hh pins s σ H x _ v us Q I rx rs {a,zs,i,k,w,r1.ref,by rw[q2.int],e4,h1,h2,by rw[t.len];exact h3,e5,hR.put hS e3 h r<|t.erase k}
def LI:GN:=λx ds S R=>∃(es:List D)(d:D)(j:Nat),ds=[d]/\uF S x es/\kY d=true/\es.all kY=true/\(∃z,es[j]?=some z/\eqV (mC z) (mC d)=true)/\(∀m u,m<j->es[m]?=some u->eqV (mC u) (mC d)=false)/\R (.int j) S
theorem HS:NL K "list.index" LI:=by rintro X hK pins s σ H x xs v us Q I rx rs ⟨d,ds,S,R,r1,r2,hS,⟨es,y,j,e2,e3,f1,f2,⟨z,e4,e5⟩,h4,h⟩,hR⟩;subst hK e2;obtain⟨w0,rfl,q2⟩:=r2.one;obtain⟨a,zs,rfl,q,t⟩:=e3.at hS r1;obtain⟨g1,g2⟩:=rq f1 q2;obtain⟨g3,g4⟩:=mD f2 t;subst g1 g3;refine Fw pins s σ H _ _ v us Q I rx rs {a,_,_,mC z,j,rfl,rfl,q,g2,g4,by rw[zf,e4];rfl,e5,λm u hm e=>?_,hR.now hS h<|aP _};rw[zf]at e;cases q2:es[m]? with|none=>(rw[q2]at e;cases e)|some u'=>rw[q2]at e;cases e;exact h4 m u' hm q2
def LJ:GN:=λx ds S R=>∃z y,x=.str z/\ds=[.str y]/\R (.bl<|PySem.Txt.startswith z y) S
theorem HU:NL K "str.startswith" LJ:=by rintro X hK pins s σ H x xs v us Q I rx rs ⟨d,ds,S,R,r1,r2,hS,⟨z,y,e1,e2,h⟩,hR⟩;subst e1 e2;obtain⟨w0,rfl,q2⟩:=r2.one;exact tO pins s σ H _ _ v us Q I rx rs {z,y,r1.str,by rw[q2.str],hR.now hS h<|bY _}
def UJ(S:au)(R:KD):D->Prop|.str z=>z.length<=sizeLine/\R (.int z.length) S|.tup es=>R (.int es.length) S|.kt es=>R (.int es.length) S|.jn es=>R (.int es.length) S|.ref a=>(∃es,S a=some (.lst es)/\R (.int es.length) S)\/∃kvs,S a=some (.cB kvs)/\R (.int kvs.length) S|_=>False
inductive UK (ds:List D) (S:au) (R:KD):Prop where
 |mk (x:D) (h:ds=[x]) (r:UJ S R x)
def Zp:List D->au->KD->Prop:=λds S R=>UK ds S R
theorem bj:i6 K (.builtin "len") Zp:=by rintro X hK hc pins s σ H xs us Q I rx ⟨ds,S,R,r,hS,⟨x,e,h⟩,hR⟩;subst hK e;obtain⟨w,rfl,r'⟩:=r.one;cases x with|str z=>(cases r'.str;exact jq pins s σ H _ us Q I rx {_,_,rfl,⟨h.1,rfl⟩,hR.now hS h.2<|aP _})|tup es=>(obtain⟨a,xs,rfl,q,t⟩:=r'.tup;exact jq pins s σ H _ us Q I rx {_,_,rfl,.inr {xs,.of q,t.len.symm},hR.now hS h<|aP _})|kt es=>(obtain⟨a,xs,rfl,q,t⟩:=r'.kt;exact jq pins s σ H _ us Q I rx {_,_,rfl,.inr {xs,.inr q,t.len.symm},hR.now hS h<|aP _})|jn es=>(obtain⟨a,xs,rfl,q,t⟩:=r'.jn;exact jq pins s σ H _ us Q I rx {_,_,rfl,.inl ⟨xs,q.sq,t.len.symm⟩,hR.now hS h<|aP _})|ref a=>(cases r'.ref;rcases h with⟨es,e,h⟩|⟨kvs,e,h⟩;obtain⟨xs,e1,t⟩:=hS.lst e;exact jq pins s σ H _ us Q I rx {_,_,rfl,.inl {xs,.of e1,t.len.symm},hR.now hS h<|aP _};obtain⟨xs,e1,t⟩:=hS.cB e;exact Fj pins s σ H _ us Q I rx {a,xs,rfl,e1,by rw[t.len];exact hR.now hS h<|aP _})|_=>exact h.elim
def Qf(S:au):D->Kd->Prop|.av,k=>k=.av|.bl _,k=>k=.bl|.int _,k=>k=.int|.str _,k=>k=.str|.ref a,k=>(k=.lst/\∃ds,S a=some (.lst ds))\/(k=.cB/\∃ds,S a=some (.cB ds))|.tup _,k=>k=.tup|_,_=>False
theorem UL(h:Qf S d k)(hS:Rs K S H)(r:Rv K H d v):q8 H v k:=by cases d with|av=>(cases h;rw[r.av];exact .av)|bl b=>(cases h;rw[r.bl];exact .bl b)|int b=>(cases h;rw[r.int];exact .int b)|str b=>(cases h;rw[r.str];exact .str b)|tup b=>(cases h;obtain⟨a,xs,rfl,q,_⟩:=r.tup;exact .tup q)|ref a=>(rw[r.ref];rcases h with⟨rfl,ds,h⟩|⟨rfl,ds,h⟩;obtain⟨xs,e,_⟩:=hS.lst h;exact .lst e;obtain⟨xs,e,_⟩:=hS.cB h;exact .cB e)|_=>exact h.elim
inductive UM (ds:List D) (S:au) (R:KD):Prop where
 |mk (x:D) (n:String) (k:Kd) (g:Kd->Bool) (e:ds=[x,.ty n]) (a:xW n=some g) (b:Qf S x k) (r:R (.bl<|g k) S)
def Zr:List D->au->KD->Prop:=λds S R=>UM ds S R
theorem RvAll.two(h:RvAll K H [d,e] xs):∃v u,xs=[v,u]/\Rv K H d v/\Rv K H e u:=by obtain⟨y,ys,rfl,h1,h2⟩:=h.cons;obtain⟨u,rfl,h3⟩:=h2.one;exact⟨y,u,rfl,h1,h3⟩
theorem c_:i6 K (.builtin "isinstance") Zr:=by rintro X hK hc pins s σ H xs us Q I rx ⟨ds,S,R,r,hS,⟨x,n,k,g,e,h1,h2,h⟩,hR⟩;subst hK e;obtain⟨v,u,rfl,r1,r2⟩:=r.two;rw[r2.ty]at rx;exact HA pins s σ H _ us Q I rx {v,n,k,g,rfl,h1,UL h2 hS r1,hR.now hS h<|bY _}
inductive UN (ds:List D) (S:au) (f:List Bool->Bool) (R:KD):Prop where
 |mk (x:D) (bs:List Bool) (e:ds=[x]) (h:uF S x<|bs.map D.bl) (r:R (.bl<|f bs) S)
def UO:List D->au->KD->Prop:=λds S R=>UN ds S (λbs=>bs.all id) R
theorem kZ:i6 K (.builtin "all") UO:=by rintro X hK hc pins s σ H xs us Q I rx ⟨ds,S,R,r,hS,⟨x,bs,e,h1,h⟩,hR⟩;subst hK e;obtain⟨v,rfl,r1⟩:=r.one;obtain⟨a,zs,rfl,q,t⟩:=h1.at hS r1;rw[t.bools]at q;exact tJ hc pins s σ H _ us Q I rx {a,bs,rfl,q,hR.now hS h<|bY _}
def Zs:List D->au->KD->Prop:=λds S R=>∃(x:D)(bs:List Bool),ds=[x]/\uF S x (bs.map D.bl)/\R (.bl<|bs.any id) S
theorem UP:i6 K (.builtin "any") Zs:=by rintro X hK hc pins s σ H xs us Q I rx ⟨ds,S,R,r,hS,⟨x,bs,e,h1,h⟩,hR⟩;subst hK e;obtain⟨v,rfl,r1⟩:=r.one;obtain⟨a,zs,rfl,q,t⟩:=h1.at hS r1;rw[t.bools]at q;exact tK hc pins s σ H _ us Q I rx {a,bs,rfl,q,hR.now hS h<|bY _}
def intD:List D->au->KD->Prop:=λds S R=>(∃i,ds=[.int i]/\R (.int i) S)\/∃k,ds=[.bl k]/\R (.int<|if k then 1 else 0) S
theorem HV:i6 K (.type "int") intD:=by rintro X hK hc pins s σ H xs us Q I rx ⟨ds,S,R,r,hS,h,hR⟩;rcases h with⟨i,rfl,h⟩|⟨k,rfl,h⟩;obtain⟨v,rfl,r1⟩:=r.one;exact uk pins s σ H _ us Q I rx<|.inl {i,by rw[r1.int],hR.now hS h<|aP _};obtain⟨v,rfl,r1⟩:=r.one;exact uk pins s σ H _ us Q I rx<|.inr {k,by rw[r1.bl],hR.now hS h<|aP _}
inductive UQ (ds:List D) (S:au) (R:KD):Prop where
 |mk (x:D) (es:List D) (e:ds=[x]) (h:uF S x es\/x=.tup es) (r:R (.tup es) S)
def Qg:List D->au->KD->Prop:=λds S R=>UQ ds S R
theorem km:i6 K (.type "tuple") Qg:=by rintro X hK hc pins s σ H xs us Q I rx ⟨ds,S,R,r,hS,⟨x,es,e,h1,h⟩,hR⟩;subst hK e;obtain⟨v,rfl,r1⟩:=r.one;rcases h1 with h1|rfl;obtain⟨a,zs,rfl,q,t⟩:=h1.at hS r1;exact kW pins s σ H _ us Q I rx {a,zs,rfl,.inl {q,λp hp=>hR.Uz hS hp h t}};obtain⟨a,zs,rfl,q,t⟩:=r1.tup;exact kW pins s σ H _ us Q I rx {a,zs,rfl,.inr {.of q,hR.now hS h<|jy q t}}
def minD(f:Int->Int->Bool):List D->au->KD->Prop:=λds S R=>∃i j,ds=[.int i,.int j]/\R (.int<|if f j i then j else i) S
theorem NM:i6 K (.builtin "min") (minD λa b=>decide<|a<b):=by rintro X hK hc pins s σ H xs us Q I rx ⟨ds,S,R,r,hS,⟨i,j,e,h⟩,hR⟩;subst e;obtain⟨v,u,rfl,r1,r2⟩:=r.two;refine E3 hc pins s σ H _ us Q I rx {i,j,by rw[r1.int,r2.int],?_};have:=hR.now hS h<|aP _;simpa using this
theorem UR:i6 K (.builtin "max") (minD λa b=>decide<|b<a):=by rintro X hK hc pins s σ H xs us Q I rx ⟨ds,S,R,r,hS,⟨i,j,e,h⟩,hR⟩;subst e;obtain⟨v,u,rfl,r1,r2⟩:=r.two;refine E1 hc pins s σ H _ us Q I rx {i,j,by rw[r1.int,r2.int],?_};have:=hR.now hS h<|aP _;simpa using this
end
abbrev kI:=List D->au->KD->KX->Prop
def qv(K:Frag)(sp:kI):Sp:=λvs H Q e=>∃ds S R Z,RvAll K H ds vs/\Rs K S H/\sp ds S R Z/\Cn K H R Q/\DN K H Z e
section
variable{K:Frag}{X:Cx}{k:Nat}{f C:Addr}{fd:FuncData}{ps:List Str}{sp:Sp}{pV:List V}{ds:List Value}{x m:Str}{p pos apos:Pos}{e o:Expr}{es:List Expr}{b:Bool}{y:Ev X b}
theorem vK(F:bK X.prog X.w X.K X.mg X.base (fH X.prog X.w X.mg) k f fd ps sp)(hr:bV k X.A)(hb:Binds X.K fd ps ds)(hd:Vals pV ds) (I:Inv y.cx p2 σ H s) (r:Vals vs us) (h:sp (vs++pV) H Q<|y.E σ):wpAny (model X.prog X.w) X.A (call (.ref f) us) (EP y.cx p2 σ Q) y.xe s:=by
 have r2:Vals (vs++pV) (us++ds):=r.append hd;have hl:(us++ds).length=ps.length:=by rw[<-r2.length];exact F.len _ _ _ _ h
 refine wpAny_call<|yU (F.run X.A X.stack s H {us,[]} (us++ds) (vs++pV) Q (y.E σ) hr I.TB (hb s us I.oP hl) r2 h) λres s' hq=>?_;cases res with|error e=>exact y.ok.call p2 σ H s e s' I hq|ok fl=>cases fl with|ret u=>exact I.after hq|next=>exact False.elim hq|brk=>exact False.elim hq|cont=>exact False.elim hq
theorem HW{t:TA}(F:bK X.prog X.w X.K X.mg X.base (fH X.prog X.w X.mg) k f fd ps sp)(hr:bV k X.A)(hg:Gl X x)(hm:X.mg x=some (.ref f))(hk:keepIn X.K (.ref f)=true)(hb:Binds X.K fd ps ds)(hd:Vals pV ds) (ha:PA y.cx (e::es) t) (pW:(x==("__debug__": Str))=false) (he:starEach (e::es) X.env=(false,eval e X.env)::starEach es X.env) (dO:(backTo pos<|starEach es X.env).any (·.1)=false): PE y.cx (.Call (.Name x p) (e::es) [] pos) (λσ H Q=>t σ H λvs H1=>sp (vs++pV) H1 Q<|y.E σ):=by intro p2 s σ H Q I h;refine wpAny_Call_Name_kw<|qm I hg hm ?_ pW;refine callWith_K (h₀:=X.base) I.ok.mod.RZ hk (br (ha pos p2 s σ H _ I h) λus s1 ⟨vs,H1,I1,r,q⟩=>{I1.oP,?_}) he dO;exact vK F hr hb hd I1 r q
theorem HX{pl:Sem Bool}{ta:TE}{t:TA}(he:PE y.cx o ta)(c:qr X.K C)(hm:Meth X.K C m f)(F:bK X.prog X.w X.K X.mg X.base (fH X.prog X.w X.mg) k f fd ps sp)(hr:bV k X.A)(hb:Binds X.K fd ps ds)(hd:Vals pV ds)(ha:PA y.cx (e::es) t)
  (xI:starEach (e::es) X.env=(false,eval e X.env)::starEach es X.env) (dO:(backTo pos<|starEach es X.env).any (·.1)=false)
  (ht:eval (.Call (.Attribute o m apos) (e::es) [] pos) X.env=(do
   let ov <-eval o X.env
   standAt apos.atName
   let (f,first) <-holding [ov] (getMethod ov m pl)
   callWith pos f first (backTo pos<|starEach (e::es) X.env) (backToKw pos<|keywordEach [] X.env))):
  PE y.cx (.Call (.Attribute o m apos) (e::es) [] pos) (λσ H Q=>ta σ H λx H1=>∃a dx fs,x=.ref a/\H1 a=some (.ins C dx fs)/\fs.lookup m=none/\t σ H1 λvs H2=>sp (x::(vs++pV)) H2 Q<|y.E σ):=by
 intro p2 s σ H Q I h
 refine methodCall_KW (pl:=pl) (br (he p2 s σ H _ I h) λu s1 ⟨x,H1,I1,rx,a,dx,fs,ex,ea,l,q⟩=>?_) ht
 subst ex
 obtain rfl:u=Value.ref a:=rx
 refine qP I1 ea c hm l ?_
 refine callWith_K (first:=[.ref a]) (h₀:=X.base) I.ok.mod.RZ hm.kp (br (ha pos p2 s1 σ H1 _ I1 q) λus s2 ⟨vs,H2,I2,r,q2⟩=>{I2.oP,?_}) xI dO
 exact vK (us:=.ref a::us) (vs:=.ref a::vs) F hr hb hd I2 (.cons rfl r) q2
theorem Fy(he:PE y.cx o ta)(c:qr X.K C)(hm:Meth X.K C m f)(F:bK X.prog X.w X.K X.mg X.base (fH X.prog X.w X.mg) k f fd ps sp)(hr:bV k X.A)(hb:Binds X.K fd ps ds)(hd:Vals pV ds)
  (ht:eval (.Call (.Attribute o m apos) [] [] pos) X.env=(do
   let ov <-eval o X.env
   standAt apos.atName
   let (f,first) <-holding [ov] (getMethod ov m pl)
   callWith pos f first (backTo pos<|starEach [] X.env) (backToKw pos<|keywordEach [] X.env))):
  PE y.cx (.Call (.Attribute o m apos) [] [] pos) (λσ H Q=>ta σ H λx H1=>∃a dx fs,x=.ref a/\H1 a=some (.ins C dx fs)/\fs.lookup m=none/\sp (x::pV) H1 Q (y.E σ)):=by
 intro p2 s σ H Q I h
 refine methodCall_KW (pl:=pl) (br (he p2 s σ H _ I h) λu s1 ⟨x,H1,I1,rx,a,dx,fs,ex,ea,l,q⟩=>?_) ht
 subst ex
 obtain rfl:u=Value.ref a:=rx
 refine qP I1 ea c hm l ?_
 exact PySem.W.callWith_K0 (first:=[.ref a]) I1.oP hm.kp<|vK (us:=[.ref a]) (vs:=[.ref a]) F hr hb hd I1 (.cons rfl .nil) q
theorem Fz(M:Mk X.K C f)(F:bK X.prog X.w X.K X.mg X.base (fH X.prog X.w X.mg) k f fd ps sp)(hr:bV (k+1) X.A)(hb:Binds X.K fd ps ds)(hd:Vals pV ds) (I:Inv y.cx p2 σ H s) (r:Vals vs us) (h:∀x dx,H x=none->H dx=none->dx≠x->sp (.ref x::(vs++pV)) (upd (upd H dx<|.own x) x<|.ins C dx []) (λv H2=>v=.av/\Q (.ref x) H2) (y.E σ)): wpAny (model X.prog X.w) X.A (call (.ref C) us) (EP y.cx p2 σ Q) y.xe s:=by
 have hq:=h (s.heap.objs.size+1) s.heap.objs.size (I.aM.fresh<|yT _) (I.aM.fresh<|zp _)<|zE<|Nat.lt_succ_self _;have I2:=Inv.made (C:=C) I;have r2:Vals (V.ref (s.heap.objs.size+1)::(vs++pV)) (Value.ref (s.heap.objs.size+1)::(us++ds)):=.cons rfl<|r.append hd;have hl:(Value.ref (s.heap.objs.size+1)::us++ds).length=ps.length:=by have e:=r2.length;rw[F.len _ _ _ _ hq]at e;exact e.symm
 refine wpAny_call<|Hb (f:=f) I.oP M.makes M.init (beq_iff_eq.mp M.fn)<|yU (F.run _ X.stack _ _ {Value.ref (s.heap.objs.size+1)::us,[]} (Value.ref (s.heap.objs.size+1)::(us++ds)) _ _ (y.E σ) (hr.make C us []) (I2.TB.make C us []) (hb _ (Value.ref (s.heap.objs.size+1)::us) I2.oP hl) r2 hq) λr s' GO=>?_;cases r with|error e=>exact y.ok.call p2 σ _ _ e s' I2 GO|ok fl=>cases fl with|ret u=>(obtain⟨v,H',I3,rv,ev,q3⟩:=I2.after GO;subst ev;exact{rv,{V.ref<|s.heap.objs.size+1,H',I3,rfl,q3}})|next=>exact False.elim GO|brk=>exact False.elim GO|cont=>exact False.elim GO
theorem HY{t:TA}(M:Mk X.K C f)(F:bK X.prog X.w X.K X.mg X.base (fH X.prog X.w X.mg) k f fd ps sp)(hr:bV (k+1) X.A)(hg:Gl X x)(hm:X.mg x=some (.ref C))(hb:Binds X.K fd ps ds)(hd:Vals pV ds) (ha:PA y.cx (e::es) t) (pW:(x==("__debug__": Str))=false) (he:starEach (e::es) X.env=(false,eval e X.env)::starEach es X.env) (dO:(backTo pos<|starEach es X.env).any (·.1)=false): PE y.cx (.Call (.Name x p) (e::es) [] pos) (λσ H Q=>t σ H λvs H1=>∀x dx,H1 x=none->H1 dx=none->dx≠x->sp (.ref x::(vs++pV)) (upd (upd H1 dx<|.own x) x<|.ins C dx []) (λv H2=>v=.av/\Q (.ref x) H2) (y.E σ)):=by intro p2 s σ H Q I h;refine wpAny_Call_Name_kw<|qm I hg hm ?_ pW;refine callWith_K (h₀:=X.base) I.ok.mod.RZ M.kp (br (ha pos p2 s σ H _ I h) λus s1 ⟨vs,H1,I1,r,q⟩=>{I1.oP,?_}) he dO;exact Fz M F hr hb hd I1 r q
end
section
variable{K:Frag}{X:Cx}{k:Nat}{f C:Addr}{fd:FuncData}{ps:List Str}{sp:kI}{yZ:List D}{pV:List V}{ds:List Value}{x m:Str}{p pos apos:Pos}{e o:Expr}{es:List Expr}
structure Qh(K:Frag)(yZ:List D)(pV:List V)(ds:List Value):Prop where
 v:Vals pV ds
 d:∀H,RvAll K H yZ pV
theorem d0:Qh K [] [] []:={.nil,λ_=>bC}
theorem d1:Qh K [.av] [.av] [.none]:={.cons rfl .nil,λ_=>aQ fI bC}
theorem d3:Qh K [.av,.av,.av] [.av,.av,.av] [.none,.none,.none]:={.cons rfl<|.cons rfl<|.cons rfl .nil,λ_=>aQ fI<|aQ fI<|aQ fI bC}
def NN(sp:kI)(yZ:List D)(t:jh):TD:=λσ S R Z=>t σ S (λds S1=>sp (ds++yZ) S1 R Z) Z
theorem cf{t:jh}(F:bK X.prog X.w K X.mg X.base (fH X.prog X.w X.mg) k f fd ps<|qv K sp)(hr:bV k X.A)(hm:X.mg x=some (.ref f))(hk:keepIn K (.ref f)=true)(hb:Binds K fd ps ds)(hd:Qh K yZ pV ds)(ha:DA K X (e::es) t) (hg:autoParam (Gl X x) qQJ) (pW:autoParam ((x==("__debug__": Str))=false) qQZ) (he:autoParam (starEach (e::es) X.env=(false,eval e X.env)::starEach es X.env) qQJ) (dO:autoParam ((backTo pos<|starEach es X.env).any (·.1)=false) qQJ) (hK:autoParam (X.K=K) qQJ): DE K X (.Call (.Name x p) (e::es) [] pos) (NN sp yZ t):=by
 subst hK
 exact⟨λy=>(HW F hr hg hm hk hb hd.v (ha.of y) pW he dO).mono <| by rintro τ H Q ⟨σ,S,R,Z,aB,hS,q,hR,hZ⟩;exact
  ⟨σ,S,_,Z,aB,hS,q,λes S1 xs H1 r1 v1 s1 k1=>⟨es++yZ,S1,R,Z,v1.app<|hd.d _,s1,r1,hR.kp k1,hZ.kp k1⟩,hZ⟩⟩
inductive MeR (C:Addr) (m:Str) (x:D) (S:au) (p:Prop):Prop where
 |mk (a:Addr) (fs:List<|Str×D) (e1:x=.ref a) (e2:S a=some (.ins C fs)) (e3:fs.lookup m=none) (r:p)
def DQ(C:Addr)(m:Str)(sp:kI)(yZ:List D)(ta:TD)(t:jh):TD:=λσ S R Z=>ta σ S (λx S1=>MeR C m x S1<|t σ S1 (λds S2=>sp (x::(ds++yZ)) S2 R Z) Z) Z
theorem Zt{t:jh}(he:DE K X o ta)(c:qr K C)(hm:Meth K C m f)(F:bK X.prog X.w K X.mg X.base (fH X.prog X.w X.mg) k f fd ps<|qv K sp)(hr:bV k X.A)(hb:Binds K fd ps ds)(hd:Qh K yZ pV ds)(ha:DA K X (e::es) t)
  (xI:autoParam (starEach (e::es) X.env=(false,eval e X.env)::starEach es X.env) qQJ) (dO:autoParam ((backTo pos<|starEach es X.env).any (·.1)=false) qQJ)
  (ht:autoParam (eval (.Call (.Attribute o m apos) (e::es) [] pos) X.env=(do
   let ov <-eval o X.env
   standAt apos.atName
   let (f,first) <-holding [ov] (getMethod ov m pl)
   callWith pos f first (backTo pos<|starEach (e::es) X.env) (backToKw pos<|keywordEach [] X.env))) qQJ) (hK:autoParam (X.K=K) qQJ):
  DE K X (.Call (.Attribute o m apos) (e::es) [] pos) (DQ C m sp yZ ta t):=by
 subst hK
 exact⟨λy=>(HX (he.of y) c hm F hr hb hd.v (ha.of y) xI dO ht).mono <| by rintro τ H Q ⟨σ,S,R,Z,aB,hS,q,hR,hZ⟩;exact
  ⟨σ,S,_,Z,aB,hS,q,by
   rintro d S1 x H1 ⟨a,fs,e1,e2,e3,r1⟩ v1 s1 k1
   subst e1
   obtain⟨dx,vs,e4,t4⟩:=s1.ins e2
   exact{a,dx,vs,v1.ref,e4,(t4.look m).2 e3,σ,S1,_,Z,aB.ts k1,s1,r1,λes S2 xs H2 r2 v2 s2 k2=>{_,S2,R,Z,aQ (Rv.ts k2 _ v1)<|v2.app<|hd.d _,s2,r2,hR.kp<|k1.trans k2,hZ.kp<|k1.trans k2},hZ.kp k1},hZ⟩⟩
theorem US(he:DE K X o ta)(c:qr K C)(hm:Meth K C m f)(F:bK X.prog X.w K X.mg X.base (fH X.prog X.w X.mg) k f fd ps<|qv K sp)(hr:bV k X.A)(hb:Binds K fd ps ds)(hd:Qh K yZ pV ds)
  (ht:autoParam (eval (.Call (.Attribute o m apos) [] [] pos) X.env=(do
   let ov <-eval o X.env
   standAt apos.atName
   let (f,first) <-holding [ov] (getMethod ov m pl)
   callWith pos f first (backTo pos<|starEach [] X.env) (backToKw pos<|keywordEach [] X.env))) qQJ) (hK:autoParam (X.K=K) qQJ):
  DE K X (.Call (.Attribute o m apos) [] [] pos) (DQ C m sp yZ ta LD):=by
 subst hK
 exact⟨λy=>(Fy (he.of y) c hm F hr hb hd.v ht).mono <| by rintro τ H Q ⟨σ,S,R,Z,aB,hS,q,hR,hZ⟩;exact
  ⟨σ,S,_,Z,aB,hS,q,by
   rintro d S1 x H1 ⟨a,fs,e1,e2,e3,r1⟩ v1 s1 k1
   subst e1
   obtain⟨dx,vs,e4,t4⟩:=s1.ins e2
   exact{a,dx,vs,v1.ref,e4,(t4.look m).2 e3,_,S1,R,Z,aQ v1<|hd.d _,s1,r1,hR.kp k1,hZ.kp k1},hZ⟩⟩
def UT(C:Addr)(sp:kI)(yZ:List D)(t:jh):TD:=λσ S R Z=>t σ S (λds S1=>∀x,S1 x=none->sp (.ref x::(ds++yZ)) (S1.set x<|.ins C []) (λd S2=>d=.av/\R (.ref x) S2) Z) Z
theorem mk{t:jh}(M:Mk K C f)(F:bK X.prog X.w K X.mg X.base (fH X.prog X.w X.mg) k f fd ps<|qv K sp)(hr:bV (k+1) X.A)(hm:X.mg x=some (.ref C))(hb:Binds K fd ps ds)(hd:Qh K yZ pV ds)(ha:DA K X (e::es) t) (hg:autoParam (Gl X x) qQJ) (pW:autoParam ((x==("__debug__": Str))=false) qQZ) (he:autoParam (starEach (e::es) X.env=(false,eval e X.env)::starEach es X.env) qQJ) (dO:autoParam ((backTo pos<|starEach es X.env).any (·.1)=false) qQJ) (hK:autoParam (X.K=K) qQJ): DE K X (.Call (.Name x p) (e::es) [] pos) (UT C sp yZ t):=by
 subst hK
 exact⟨λy=>(HY M F hr hg hm hb hd.v (ha.of y) pW he dO).mono <| by rintro τ H Q ⟨σ,S,R,Z,aB,hS,q,hR,hZ⟩;exact
  ⟨σ,S,_,Z,aB,hS,q,λes S1 xs H1 r1 v1 s1 k1 x dx hx hdx ne=>by
   have LK:upd H1 dx (.own x) x=none:=by rw[aw ne.symm];exact hx
   have k2:Kp X.K H1 (upd (upd H1 dx<|.own x) x<|.ins C dx []):=(Kp.new hdx).trans<|Kp.new LK
   exact{_,_,_,Z,aQ (gL x)<|RvAll.ts k2 _<|v1.app<|hd.d _,(s1.grow hdx).new (c:=.ins C []) LK {dx,[],aE,.nil},r1 x<|s1.fresh hx,by rintro d S2 v H2 ⟨e,r2⟩ v2 s2 k3;exact by subst e;exact{v2.av,hR _ _ _ _ r2 (gL x) s2<|(k1.trans k2).trans k3},(hZ.kp k1).kp k2},hZ⟩⟩
inductive FlR (C:Addr) (f:Str) (x:D) (S:au) (R:KD):Prop where
 |mk (a:Addr) (fs:List<|Str×D) (d:D) (e1:x=.ref a) (e2:S a=some (.ins C fs)) (e3:fs.lookup f=some d) (r:R d S)
def Zu(C:Addr)(f:Str)(ta:TD):TD:=λσ S R Z=>ta σ S (λx S1=>FlR C f x S1 R) Z
theorem fl{f:Str}{ta:TD}(c:qr K C)(n:jr K C f)(he:DE K X e ta)(hb:autoParam (attributeBase e f X.env (eval e X.env)=eval e X.env) qQJ)(hK:autoParam (X.K=K) qQJ):DE K X (.Attribute e f pos) (Zu C f ta):=by
 subst hK
 exact⟨λy=>(Pk (X:=y.cx) (he.of y) hb).mono <| by rintro τ H Q ⟨σ,S,R,Z,aB,hS,q,hR,hZ⟩;exact
  ⟨σ,S,_,Z,aB,hS,q,by
   rintro d S1 x H1 ⟨a,fs,y,e1,e2,e3,r1⟩ v1 s1 k1
   subst e1
   obtain⟨dx,vs,e4,t4⟩:=s1.ins e2
   obtain⟨v,e5,r5⟩:=(t4.look f).1 y e3
   exact{a,C,dx,vs,v,v1.ref,e4,c,n,e5,(hR.kp k1).now s1 r1 r5},hZ⟩⟩
end
structure uG where
 nx:SD->au->Prop
 rt:KD
 bk:SD->au->Prop:=λ_ _=>False
 ct:SD->au->Prop:=λ_ _=>False
abbrev mE:=uG->SD->au->(SD->KX)->Prop
def NO(K:Frag)(H:Hp)(R:SD->au->Prop)(Q:St->Hp->Prop):Prop:=∀σ S τ H',R σ S->iB K H' σ τ->Rs K S H'->Kp K H H'->Q τ H'
structure W8(K:Frag)(H:Hp)(De:uG)(Dv:Ends):Prop where
 nx:NO K H De.nx Dv.nx
 rt:Cn K H De.rt Dv.rt
 bk:NO K H De.bk Dv.bk
 ct:NO K H De.ct Dv.ct
def y0(K:Frag)(H:Hp)(Z:SD->KX)(E:St->XK):Prop:=∀σ τ C S H',Z σ C S->iB K H' σ τ->Rs K S H'->Kp K H H'->E τ (.ref C) none H'
section
variable{K:Frag}{H H1:Hp}{De:uG}{Dv:Ends}{Z:SD->KX}{E:St->XK}{σ:SD}{τ:St}{S:au}
theorem NO.kp(h:NO K H R Q)(k:Kp K H H1):NO K H1 R Q:=λσ S τ H' r a b c=>h σ S τ H' r a b<|k.trans c
theorem W8.kp(h:W8 K H De Dv)(k:Kp K H H1):W8 K H1 De Dv:={h.nx.kp k,h.rt.kp k,h.bk.kp k,h.ct.kp k}
theorem y0.kp(h:y0 K H Z E)(k:Kp K H H1):y0 K H1 Z E:=λσ τ C S H' r a b c=>h σ τ C S H' r a b<|k.trans c
theorem y0.at(h:y0 K H Z E)(r:iB K H σ τ):DN K H (Z σ) (E τ):=λC S H' z s k=>h σ τ C S H' z (r.ts k) s k
theorem y0.on(h:y0 K H Z E)(k:Kp K H H1)(r:iB K H1 σ τ):DN K H1 (Z σ) (E τ):=(h.kp k).at r
end
def Tl(K:Frag)(E:St->XK)(t:mE):TS:=λDv τ H=>∃σ S De Z,iB K H σ τ/\Rs K S H/\t De σ S Z/\W8 K H De Dv/\y0 K H Z E
structure DS(K:Frag)(X:Cx)(b:Bool)(st:Stmt)(t:mE):Prop where
 of:∀y:Ev X b,PS y.cx st<|Tl K y.E t
structure GP(K:Frag)(X:Cx)(b:Bool)(st:List Stmt)(t:mE):Prop where
 of:∀y:Ev X b,Ds y.cx st<|Tl K y.E t
theorem PS.mono{t t':TS}(h:PS X e t)(i:∀D τ H,t' D τ H->t D τ H):PS X e t':=λpins s τ H D I q=>h pins s τ H D I<|i D τ H q
theorem Ds.mono{t t':TS}(h:Ds X e t)(i:∀D τ H,t' D τ H->t D τ H):Ds X e t':=λpins s τ H D I q=>h pins s τ H D I<|i D τ H q
section
variable{K:Frag}{X:Cx}{b:Bool}{pos:Pos}
def UU:mE:=λDe σ S _=>De.nx σ S
def Zv(t u:mE):mE:=λDe σ S Z=>t {De with nx:=λaG S'=>u De aG S' Z} σ S Z
theorem s0:GP K X b [] UU:=⟨λy=>(Kr (X:=y.cx)).mono <| by rintro D τ H ⟨σ,S,De,Z,aB,hS,q,hD,hZ⟩;exact hD.nx _ _ _ _ q aB hS<|.refl _⟩
theorem sc{st:Stmt}{r:List Stmt}{t u:mE}(h1:DS K X b st t)(h2:GP K X b r u):GP K X b (st::r) (Zv t u):=
 ⟨λy=>(GY (h1.of y)<|h2.of y).mono <| by rintro D τ H ⟨σ,S,De,Z,aB,hS,q,hD,hZ⟩;exact
  ⟨σ,S,_,Z,aB,hS,q,⟨λxw S1 Zw H1 r1 a b c=>⟨xw,S1,De,Z,a,b,r1,hD.kp c,hZ.kp c⟩,hD.rt,hD.bk,hD.ct⟩,hZ⟩⟩
theorem s1{st:Stmt}{t:mE}(h:DS K X b st t):GP K X b [st] t:=⟨λy=>Ks<|h.of y⟩
def UW(t:TD):mE:=λDe σ S Z=>t σ S (λ_ S1=>De.nx σ S1)<|Z σ
theorem se{t:TD}(h:DE K X e t)(hs:autoParam (swapsWith e none pos.line X.env=pure false) qQJ):DS K X b (.Expr e pos) (UW t):=⟨λy=>(Kt (X:=y.cx) (h.of y) hs).mono <| by rintro D τ H ⟨σ,S,De,Z,aB,hS,q,hD,hZ⟩;exact{σ,S,_,_,aB,hS,q,λd S1 v H1 r1 _ s1 k1=>hD.nx _ _ _ _ r1 (aB.ts k1) s1 k1,hZ.at aB}⟩
def Zx(t:TD):mE:=λDe σ S Z=>t σ S De.rt<|Z σ
theorem sr{t:TD}(h:DE K X e t):DS K X b (.Return (some e) pos) (Zx t):=⟨λy=>(OZ<|h.of y).mono <| by rintro D τ H ⟨σ,S,De,Z,aB,hS,q,hD,hZ⟩;exact{σ,S,_,_,aB,hS,q,hD.rt,hZ.at aB}⟩
def dIf(c:my)(t u:mE):mE:=λDe σ S Z=>c σ S (λb S1=>if b=true then t De σ S1 Z else u De σ S1 Z)<|Z σ
theorem si{t u:mE}(hc:DT K X c tc)(ha:GP K X b a t)(hb:GP K X b a' u):DS K X b (.If c a a' pos) (dIf tc t u):=
 ⟨λy=>(S9 (hc.of y) (ha.of y)<|hb.of y).mono <| by rintro D τ H ⟨σ,S,De,Z,aB,hS,q,hD,hZ⟩;exact
  ⟨σ,S,_,_,aB,hS,q,λc S1 H1 r1 s1 k1=>by
   cases c with
   |true=>rw[if_pos rfl]at r1⊢;exact{σ,S1,De,Z,aB.ts k1,s1,r1,hD.kp k1,hZ.kp k1}
   |false=>rw[if_neg zd]at r1⊢;exact{σ,S1,De,Z,aB.ts k1,s1,r1,hD.kp k1,hZ.kp k1},hZ.at aB⟩⟩
abbrev y1:=D->SD->au->(SD->au->Prop)->Prop
def Tg(K:Frag)(g:y1):TG:=λv τ H Q=>∃d σ S R,Rv K H d v/\iB K H σ τ/\Rs K S H/\g d σ S R/\NO K H R Q
structure DG(K:Frag)(X:Cx)(e:Expr)(g:y1):Prop where
 of:∀Y:Cx,Y.K=X.K->Y.N=X.N->Y.env=X.env->Y.fn=X.fn->Y.calm=X.calm->PG Y e (Tg K g)
theorem PG.mono{t t':TG}(h:PG X e t)(i:∀v τ H Q,t' v τ H Q->t v τ H Q):PG X e t':=λpins s τ H v u Q I r q=>h pins s τ H v u Q I r<|i v τ H Q q
def W9(i:Nat):y1:=λd σ S R=>R (σ.set i<|some d) S
theorem gn(hN:X.N.Nodup)(hi:autoParam (X.N[i]?=some x) qQJ)(hx:autoParam (Loc X.env.scope x) qJ1)(hf:autoParam (X.fn x=true\/X.env.scope.names.lookup x=some .local) qQ8):DG K X (.Name x pos) (W9 i):=⟨λY _ e2 e3 e4 _=>(qo (X:=Y) (by rw[e2];exact hN) (by rw[e2];exact hi) (by rw[e3];exact hx)<|by rw[e3,e4];exact hf).mono <| by rintro v τ H Q ⟨d,σ,S,R,rv,aB,hS,q,hR⟩;exact hR _ S _ H q (aB.set i rv) hS<|.refl _⟩
abbrev FC:=List D->SD->au->(SD->au->Prop)->Prop
def Tgs(K:Frag)(g:FC):Np:=λvs τ H Q=>∃ds σ S R,RvAll K H ds vs/\iB K H σ τ/\Rs K S H/\g ds σ S R/\NO K H R Q
structure W_(K:Frag)(X:Cx)(es:List Expr)(g:FC):Prop where
 of:∀Y:Cx,Y.K=X.K->Y.N=X.N->Y.env=X.env->Y.fn=X.fn->Y.calm=X.calm->Nq Y es (Tgs K g)
theorem Nq.mono{t t':Np}(h:Nq X e t)(i:∀v τ H Q,t' v τ H Q->t v τ H Q):Nq X e t':=λpins s τ H v u Q I r q=>h pins s τ H v u Q I r<|i v τ H Q q
def NP:FC:=λds σ S R=>ds=[]/\R σ S
def B9(g:y1)(u:FC):FC:=λds σ S R=>∃d r,ds=d::r/\g d σ S λxw S1=>u r xw S1 R
theorem g0:W_ K X [] NP:=⟨λY _ _ _ _ _=>(Dx (X:=Y)).mono <| by rintro vs τ H Q ⟨ds,σ,S,R,rv,aB,hS,⟨e,q⟩,hR⟩;exact by subst e;exact{rv.nil,hR _ _ _ _ q aB hS<|.refl _}⟩
theorem gc(h1:DG K X e g)(h2:W_ K X es u)(hs:autoParam (∀env:Env,(assignEach (e::es) env).map (·.2)=assign e env::(assignEach es env).map (·.2)) qQ0):W_ K X (e::es) (B9 g u):=⟨λY a b c d f=>(qJ (h1.of Y a b c d f) (h2.of Y a b c d f)<|hs _).mono <| by rintro vs τ H Q ⟨ds,σ,S,R,rv,aB,hS,⟨d,r,e,q⟩,hR⟩;subst e;obtain⟨y,ys,e1,r1,r2⟩:=rv.cons;exact{y,ys,e1,d,σ,S,_,r1,aB,hS,q,λxw S1 Zw H1 q1 a b c=>{r,xw,S1,R,RvAll.ts c _ r2,a,b,q1,hR.kp c}}⟩
def NQ(n:Nat)(g:FC):y1:=λd σ S R=>∃ds,d=.tup ds/\ds.length=n/\g ds σ S R
theorem gt(h:W_ K X es g)(hn:autoParam (∀env:Env,(assignEach es env).length=n) qQ0)(xI:autoParam (∀env:Env,(assignEach es env).findIdx? (·.1)=none) qQ0)(hK:autoParam (X.K=K) qQJ)(hc:autoParam (X.calm=true) qQJ):DG K X (.Tuple es j pos) (NQ n g):=⟨λY a b c d f=>(GZ (X:=Y) (by rw[f];exact hc) (h.of Y a b c d f) (hn _)<|xI _).mono <| by rintro v τ H Q ⟨d,σ,S,R,rv,aB,hS,⟨ds,e,hl,q⟩,hR⟩;subst e;obtain⟨p,xs,e1,e2,t⟩:=rv.tup;exact{p,xs,e1,.of e2,by rw[t.len];exact hl,ds,σ,S,R,t,aB,hS,q,hR}⟩
def UX(i:Nat)(t:TD):mE:=λDe σ S Z=>t σ S (λd S1=>De.nx (σ.set i<|some d) S1)<|Z σ
theorem b_{t:TD}(hN:X.N.Nodup)(h:DE K X e t)(hi:autoParam (X.N[i]?=some x) qQJ)(hx:autoParam (Loc X.env.scope x) qJ1)(hs:autoParam (swapsWith e (some<|.Name x pos') pos.line X.env=pure false) qQJ) (hf:autoParam (X.fn x=true\/X.env.scope.names.lookup x=some .local) qQ8):DS K X b (.Assign [.Name x pos'] e pos) (UX i t):=⟨λy=>(O5 (X:=y.cx) (i:=i) hN hi hx (h.of y) hs hf).mono <| by rintro D τ H ⟨σ,S,De,Z,aB,hS,q,hD,hZ⟩;exact{σ,S,_,_,aB,hS,q,λd S1 v H1 r1 v1 s1 k1=>hD.nx _ _ _ _ r1 ((aB.ts k1).set i v1) s1 k1,hZ.at aB}⟩
def Zy(t:TD)(g:y1):mE:=λDe σ S Z=>t σ S (λd S1=>g d σ S1 De.nx)<|Z σ
theorem sa{t:TD}(h:DE K X e t)(hg:DG K X tg g)(hs:autoParam (swapsWithSole [tg] e pos.line X.env=pure false) qQJ)(hw:autoParam (swappedStores [tg] e X.env=pure none) qQJ)(h1:autoParam ((assignEach [tg] X.env).map (·.2)=[assign tg X.env]) qQJ): DS K X b (.Assign [tg] e pos) (Zy t g):=⟨λy=>(G0 (X:=y.cx) (h.of y) (hg.of _ rfl rfl rfl rfl rfl) hs hw h1).mono <| by rintro D τ H ⟨σ,S,De,Z,aB,hS,q,hD,hZ⟩;exact{σ,S,_,_,aB,hS,q,λd S1 v H1 r1 v1 s1 k1=>{d,σ,S1,_,v1,aB.ts k1,s1,r1,hD.nx.kp k1},hZ.at aB}⟩
def Zz(td ty tv:TD):mE:=λDe σ S Z=>tv σ S (λv S1=>td σ S1 (λx S2=>ty σ S2 (λy S3=>∃a kvs k,x=.ref a/\S3 a=some (.cB kvs)/\B8 y=some k/\kvs.length<sizeLine/\De.nx σ (S3.set a<|.cB<|dput kvs k v))<|Z σ)<|Z σ)<|Z σ
theorem sd{o i value:Expr}{td ty tv:TD}{pos':Pos}(hu:X.A.units+64<cLine)(ho:DE K X o td)(hi:DE K X i ty)(hv:DE K X value tv)(hs:autoParam (swapsWith value (some<|.Subscript o i pos') pos.line X.env=pure false) qQJ):DS K X b (.Assign [.Subscript o i pos'] value pos) (Zz td ty tv):=
 ⟨λy=>(K0 (X:=y.cx) (by show X.A.units+1<cLine;lia) (ho.of y) (hi.of y) (hv.of y) hs).mono <| by rintro D τ H ⟨σ,S,De,Z,aB,hS,q,hD,hZ⟩;exact
  ⟨σ,S,_,_,aB,hS,q,λv S1 vv H1 r1 v1 s1 k1=>⟨σ,S1,_,_,aB.ts k1,s1,r1,λx S2 xv H2 r2 v2 s2 k2=>⟨σ,S2,_,_,aB.ts<|k1.trans k2,s2,r2,by
   rintro y S3 yv H3 ⟨a,kvs,k,e1,e2,e3,hl,r3⟩ v3 s3 k3
   subst e1
   obtain⟨vs,e4,t⟩:=s3.cB e2
   have kk:=s3.gM (o:=.dK<|putK vs k vv) e2
   refine{a,_,(Rv.ts k3 _ v2).ref,by rw[nS e3 v3];exact Hk.k e4<|by rw[t.len];exact hl,?_}
   exact hD.nx _ _ _ _ r3 (aB.ts<|((k1.trans k2).trans k3).trans kk) (s3.put (c:=.cB _) e2 {_,aE,(t.put k<|Rv.ts (k2.trans k3) _ v1).ts kk})<|((k1.trans k2).trans k3).trans kk,hZ.on (k1.trans k2)<|aB.ts<|k1.trans k2⟩,hZ.on k1<|aB.ts k1⟩,hZ.at aB⟩⟩
end
section
variable{X:Cx}{pins:List (Addr×Obj)}{σ:St}{H:Hp}{s:Shared}{A:Around}{E:Value->Shared->Prop}{a:Addr}{kvs:List (Key×V)}{k:Key}{u:Value}
theorem Qi(I:Inv X pins σ H s)(e:H a=some (.dK kvs))(ry:RelV (kV k) u)(rz:RelV z r)(hl:kvs.length<sizeLine) (h1:∀v w' s',gs kvs k=some v->Inv X pins σ H s'->RelV v w'->Q w' s') (h2:gs kvs k=none->∀s',Inv X pins σ (upd H a<|.dK<|putK kvs k z) s'->Q r s'): wpAny (model X.prog X.w) A (call (.builtin "dict.setdefault") [.ref a,u,r]) Q E s:=by
 obtain⟨zz,hd,vs,rel,dd⟩:=xP I.aM e;have hp:=js kvs k z;refine call_meetsIn PySem.F.slot_dict_setdefault dd.typeIs PySem.F.entry_dict_setdefault (PySem.F.args_dict_setdefault_3 _ _ _) (PySem.kt_meets_setdefault (aH X.prog X.w) a (jt ry) hd r) {vs,dd,by rw[<-rel.length];exact zz,λw' hw=>?_,λhn h' Hl hs=>?_};cases q:gs kvs k with|none=>(have:=gp.none_of (o:=valueAt vs k) (by rw[<-q];exact rel.val k);rw[this]at hw;cases hw)|some v=>obtain⟨w2,UY,rw2⟩:=gp.some_of (v:=v) (o:=valueAt vs k) (by rw[<-q];exact rel.val k);rw[UY]at hw;cases hw;exact h1 v _ _ q (I.tok _) rw2
 cases q:gs kvs k with|some v=>(obtain⟨w2,UY,rw2⟩:=gp.some_of (v:=v) (o:=valueAt vs k) (by rw[<-q];exact rel.val k);rw[UY]at hn;cases hn)|none=>have he:∃q,h'.get? a=some q:=(by obtain⟨q,_,_,hq,_⟩:=Hl;exact⟨q,hq⟩);exact h2 q _<|qu I (by rw[e];exact True.intro) hs he<|vo (by lia) hd (rel.put k rz) Hl
end
section
variable{X:Cx}{o e f:Expr}{apos aO:Pos}{td ty tx:TE}
def UZ(td ty tx:TE):TE:=λσ H Q=>td σ H λx H1=>∃a,x=.ref a/\R5 H1 a/\ty σ H1 λy H2=>tx σ H2 λz H3=>∃kvs k,H3 a=some (.dK kvs)/\y=kV k/\kvs.length<sizeLine/\(∀v,gs kvs k=some v->Q v H3)/\(gs kvs k=none->Q z (upd H3 a<|.dK<|putK kvs k z))
theorem HZ(ho:PE X o td)(he:PE X e ty)(hf:PE X f tx)(m:M2 X o "setdefault" apos e f aO):PE X (.Call (.Attribute o "setdefault" apos) [e,f] [] aO) (UZ td ty tx):=by intro pins s σ H Q I h;refine wpAny_Call_method m.base m.GJ m.line PySem.F.plainAttrs_dict PySem.F.slot_dict_setdefault PySem.F.type_dict_setdefault<|br (ho pins s σ H _ I h) λu s1 ⟨x,H1,I1,rx,a,ex,d,q1⟩=>?_;subst ex;obtain rfl:u=Value.ref a:=rx;obtain⟨t1,t2,_⟩:=vq I1 d;refine{t1,t2,?_};rw[m.trees];refine Calls.callWith_builtin rfl<|Calls.evalArgs_plain<|yF<|br (he pins s1 σ H1 _ I1 q1) λiv s2 ⟨y,H2,I2,ry,q2⟩=>yF<|br (hf pins s2 σ H2 _ I2 q2) λfv s3 ⟨z,H3,I3,rz,kvs,k,ea,ey,hl,q3,q4⟩=>Calls.spliced_nil ?_;subst ey;exact Qi I3 ea ry rz hl (λv w' s4 l I4 qQ=>{v,H3,I4,qQ,q3 v l}) λl s4 I4=>{z,_,I4,rz,q4 l}
end
section
variable{K:Frag}{X:Cx}{b:Bool}{o e f:Expr}{apos aO pos:Pos}{td ty tx:TD}
theorem vL(hS:Rs K S H)(e:S a=some (.cB kvs)):R5 H a:=by obtain⟨vs,e1,_⟩:=hS.cB e;exact .inl {vs,.inl e1}
def U0(td ty:TD):TD:=λσ S R Z=>td σ S (λx S1=>∃a kvs,x=.ref a/\S1 a=some (.cB kvs)/\ty σ S1 (λy S2=>∃kvs k,S2 a=some (.cB kvs)/\B8 y=some k/\R ((bZ kvs k).getD .av) S2) Z) Z
theorem H9(hS:Rs K S H)(e:S a=some (.cB kvs))(r:Rv K H d v):∃o,pY H a (kV k) o/\Rv K H ((bZ kvs k).getD d) (o.getD v):=by obtain⟨o,g,h1,h2⟩:=vJ (k:=k) hS e;refine{o,g,?_};cases q:bZ kvs k with|none=>(rw[q]at h1;cases o with|none=>exact r|some _=>cases h1)|some d'=>obtain⟨v',rfl,r'⟩:=h2 d' q;exact r'
theorem mg1(hu:X.A.units+64<cLine)(ho:DE K X o td)(he:DE K X e ty)(m:autoParam (M1 X o "get" apos e aO) qQ4):DE K X (.Call (.Attribute o "get" apos) [e] [] aO) (U0 td ty):=
 ⟨λy=>(Hq (X:=y.cx) (by show X.A.units+1<cLine;lia) (ho.of y) (he.of y) ⟨m.base,m.GJ,m.line,m.trees⟩).mono <| by rintro τ H Q ⟨σ,S,R,Z,aB,hS,q,hR,hZ⟩;exact
  ⟨σ,S,_,Z,aB,hS,q,by
   rintro x S1 xv H1 ⟨a,kvs,e1,e2,r1⟩ v1 s1 k1
   subst e1
   exact⟨a,v1.ref,vL s1 e2,σ,S1,_,Z,aB.ts k1,s1,r1,by
    rintro y S2 yv H2 ⟨kvs,k,e3,e4,r2⟩ v2 s2 k2
    obtain⟨o,g,r⟩:=H9 (k:=k) s2 e3 fI
    exact{o,by rw[nS e4 v2];exact g,(hR.kp<|k1.trans k2).now s2 r2 r},hZ.kp k1⟩,hZ⟩⟩
def U1(td ty tx:TD):TD:=λσ S R Z=>td σ S (λx S1=>∃a kvs,x=.ref a/\S1 a=some (.cB kvs)/\ty σ S1 (λy S2=>tx σ S2 (λz S3=>∃kvs k,S3 a=some (.cB kvs)/\B8 y=some k/\R ((bZ kvs k).getD z) S3) Z) Z) Z
theorem mg2(hu:X.A.units+64<cLine)(ho:DE K X o td)(he:DE K X e ty)(hf:DE K X f tx)(m:autoParam (M2 X o "get" apos e f aO) qQ4):DE K X (.Call (.Attribute o "get" apos) [e,f] [] aO) (U1 td ty tx):=
 ⟨λy=>(Hr (X:=y.cx) (by show X.A.units+1<cLine;lia) (ho.of y) (he.of y) (hf.of y) ⟨m.base,m.GJ,m.line,m.trees⟩).mono <| by rintro τ H Q ⟨σ,S,R,Z,aB,hS,q,hR,hZ⟩;exact
  ⟨σ,S,_,Z,aB,hS,q,by
   rintro x S1 xv H1 ⟨a,kvs,e1,e2,r1⟩ v1 s1 k1
   subst e1
   exact⟨a,v1.ref,vL s1 e2,σ,S1,_,Z,aB.ts k1,s1,r1,λy S2 yv H2 r2 v2 s2 k2=>⟨σ,S2,_,Z,aB.ts<|k1.trans k2,s2,r2,by
    rintro z S3 zv H3 ⟨kvs,k,e3,e4,r3⟩ v3 s3 k3
    obtain⟨o,g,r⟩:=H9 (k:=k) s3 e3 v3
    exact{o,by rw[nS e4 v2];exact g,(hR.kp<|(k1.trans k2).trans k3).now s3 r3 r},hZ.kp<|k1.trans k2⟩,hZ.kp k1⟩,hZ⟩⟩
def U4(td ty:TD):TD:=λσ S R Z=>td σ S (λx S1=>∃a kvs,x=.ref a/\S1 a=some (.cB kvs)/\ty σ S1 (λy S2=>∃kvs k d,S2 a=some (.cB kvs)/\B8 y=some k/\bZ kvs k=some d/\R d (S2.set a<|.cB<|x_ kvs k)) Z) Z
theorem mp1(ho:DE K X o td)(he:DE K X e ty)(m:autoParam (M1 X o "pop" apos e aO) qQ4):DE K X (.Call (.Attribute o "pop" apos) [e] [] aO) (U4 td ty):=
 ⟨λy=>(Ht (X:=y.cx) (ho.of y) (he.of y) ⟨m.base,m.GJ,m.line,m.trees⟩).mono <| by rintro τ H Q ⟨σ,S,R,Z,aB,hS,q,hR,hZ⟩;exact
  ⟨σ,S,_,Z,aB,hS,q,by
   rintro x S1 xv H1 ⟨a,kvs,e1,e2,r1⟩ v1 s1 k1
   subst e1
   exact⟨a,v1.ref,vL s1 e2,σ,S1,_,Z,aB.ts k1,s1,r1,by
    rintro y S2 yv H2 ⟨kvs,k,d,e3,e4,e5,r2⟩ v2 s2 k2
    obtain⟨vs,e6,t⟩:=s2.cB e3
    obtain⟨v,e7,r7⟩:=(t.val k).1 d e5
    have kk:=s2.gM (o:=.dK<|oU vs k) e3
    exact{vs,k,v,e6,nS e4 v2,e7,hR _ _ _ _ r2 (Rv.ts kk _ r7) (s2.put (c:=.cB _) e3 {_,aE,(t.drop k).ts kk})<|(k1.trans k2).trans kk},hZ.kp k1⟩,hZ⟩⟩
def U5(td ty tx:TD):TD:=λσ S R Z=>td σ S (λx S1=>∃a kvs,x=.ref a/\S1 a=some (.cB kvs)/\ty σ S1 (λy S2=>tx σ S2 (λz S3=>∃kvs k,S3 a=some (.cB kvs)/\B8 y=some k/\kvs.length<sizeLine/\(∀d,bZ kvs k=some d->R d S3)/\(bZ kvs k=none->R z (S3.set a<|.cB<|dput kvs k z))) Z) Z) Z
theorem ms2(ho:DE K X o td)(he:DE K X e ty)(hf:DE K X f tx)(m:autoParam (M2 X o "setdefault" apos e f aO) qQ4):DE K X (.Call (.Attribute o "setdefault" apos) [e,f] [] aO) (U5 td ty tx):=
 ⟨λy=>(HZ (X:=y.cx) (ho.of y) (he.of y) (hf.of y) ⟨m.base,m.GJ,m.line,m.trees⟩).mono <| by rintro τ H Q ⟨σ,S,R,Z,aB,hS,q,hR,hZ⟩;exact
  ⟨σ,S,_,Z,aB,hS,q,by
   rintro x S1 xv H1 ⟨a,kvs,e1,e2,r1⟩ v1 s1 k1
   subst e1
   exact⟨a,v1.ref,vL s1 e2,σ,S1,_,Z,aB.ts k1,s1,r1,λy S2 yv H2 r2 v2 s2 k2=>⟨σ,S2,_,Z,aB.ts<|k1.trans k2,s2,r2,by
    rintro z S3 zv H3 ⟨kvs,k,e3,e4,hl,r3,r4⟩ v3 s3 k3
    obtain⟨vs,e6,t⟩:=s3.cB e3
    have kk:=s3.gM (o:=.dK<|putK vs k zv) e3
    have hR3:=hR.kp<|(k1.trans k2).trans k3
    refine{vs,k,e6,nS e4<|Rv.ts k3 _ v2,by rw[t.len];exact hl,λv hv=>?_,λhn=>?_}
    ·cases q:bZ kvs k with
     |none=>rw[(t.val k).2 q]at hv;cases hv
     |some d =>
      obtain⟨v',e7,r7⟩:=(t.val k).1 d q
      rw[e7]at hv;cases hv
      exact hR3.now s3 (r3 d q) r7
    ·cases q:bZ kvs k with
     |some d=>obtain⟨v',e7,r7⟩:=(t.val k).1 d q;rw[e7]at hn;cases hn
     |none=>exact hR3 _ _ _ _ (r4 q) (Rv.ts kk _ v3) (s3.put (c:=.cB _) e3 {_,aE,(t.put k v3).ts kk}) kk,hZ.kp<|k1.trans k2⟩,hZ.kp k1⟩,hZ⟩⟩
noncomputable def B_(f:Str)(d:D):List (Str×D)->List (Str×D)|[]=>[(f,d)]| (g,x)::r=>if g=f then (g,d)::r else (g,x)::B_ f d r
theorem bQ.B_{H:Hp}{f:Str}{d:D}{v:V}(rd:Rv K H d v):∀{ks:List (Str×D)}{vs:List (Str×V)},bQ K H ks vs->bQ K H (B_ f d ks) (putF f v vs)|_,_,.nil=>.cons ⟨rfl,rd⟩ .nil| (g,x)::r,(g',y)::r',.cons h t=>by obtain⟨e,h⟩:=h;dsimp only at e;subst e;show bQ K H (if g=f then (g,d)::r else (g,x)::L2.B_ f d r) (if g=f then (g,v)::r' else (g,y)::putF f v r');by_cases q:g=f;rw[if_pos q,if_pos q];exact .cons ⟨rfl,rd⟩ t;rw[if_neg q,if_neg q];exact .cons ⟨rfl,h⟩<|bQ.B_ rd t
def U6(C:Addr)(f:Str)(ta tv:TD):mE:=λDe σ S Z=>tv σ S (λy S1=>ta σ S1 (λx S2=>∃a fs,x=.ref a/\S2 a=some (.ins C fs)/\fs.length<1000/\De.nx σ (S2.set a<|.ins C<|B_ f y fs))<|Z σ)<|Z σ
theorem sf{C:Addr}{f:Str}{value:Expr}{ta tv:TD}{pos':Pos}(c:qr K C)(n:jr K C f)(ha:DE K X o ta)(hv:DE K X value tv)(hs:autoParam (swapsWith value (some<|.Attribute o f pos') pos.line X.env=pure false) qQJ)(hK:autoParam (X.K=K) qQJ): DS K X b (.Assign [.Attribute o f pos'] value pos) (U6 C f ta tv):=by
 subst hK
 exact⟨λy=>(Pl (X:=y.cx) (ha.of y) (hv.of y) hs).mono <| by rintro D τ H ⟨σ,S,De,Z,aB,hS,q,hD,hZ⟩;exact
  ⟨σ,S,_,_,aB,hS,q,λy S1 yv H1 r1 v1 s1 k1=>⟨σ,S1,_,_,aB.ts k1,s1,r1,by
   rintro x S2 xv H2 ⟨a,fs,e1,e2,hl,r2⟩ v2 s2 k2
   subst e1
   obtain⟨dx,vs,e4,t4⟩:=s2.ins e2
   have kk:=s2.gM (o:=.ins C dx<|putF f yv vs) e2
   exact{a,C,dx,vs,v2.ref,e4,c,n,by rw[t4.len];exact hl,hD.nx _ _ _ _ r2 (aB.ts<|(k1.trans k2).trans kk) (s2.put (c:=.ins C _) e2 {dx,_,aE,(bQ.B_ (Rv.ts k2 _ v1) t4).ts kk})<|(k1.trans k2).trans kk},hZ.on k1<|aB.ts k1⟩,hZ.at aB⟩⟩
def Qj(C:Addr)(t:jh):mE:=λ_ σ S Z=>t σ S (λds S1=>ds.length<=sizeLine/\Z σ C S1)<|Z σ
end
section
variable{K:Frag}{X:Cx}{C:Addr}{x:Str}{e:Expr}{es:List Expr}{np aO pos:Pos}
theorem FD{t:TA}{y:Ev X true}(hc:X.calm=true)(c:XC X.K C)(hg:Gl X x)(hm:X.mg x=some (.ref C))(ha:PA y.cx (e::es) t)(pW:(x==("__debug__": Str))=false) (he:starEach (e::es) X.env=(false,eval e X.env)::starEach es X.env) (dO:(backTo aO<|starEach es X.env).any (·.1)=false): PS y.cx (.Raise (some<|.Call (.Name x np) (e::es) [] aO) none pos) (λ_ σ H=>t σ H λvs H1=>vs.length<=sizeLine/\y.E σ (.ref C) none H1):=by intro pins s σ H D I h;obtain⟨bm,N,nm,q,bs,hdct,sn,sub,ab,col,dd,k0,k1,k2,k3,k5,mN,hC,hN,W2,T⟩:=c.at I.mod.RZ;have mq:bm.contains (.type "BaseException")=true:=T.hasType (by decide);refine wpAny_Raise_call_subT (C:=C) (nm:=nm) (q:=q) (N:=N) (bs:=bs) (bm:=bm) (hdct:=hdct) (sn:=sn) (sub:=sub) (ab:=ab) (col:=col) (dd:=dd) (k0:=k0) (k1:=k1) (k2:=k2) (k3:=k3) (k5:=k5) PySem.F.excBase_ValueError (mN:=mN) mq (I.ok.hd hc) (by show((backTo aO<|starEach (e::es) X.env).any (·.1))=false;rw[he];show(false||(backTo aO<|starEach es X.env).any (·.1))=false;rw[dO];rfl) W2<|qm I hg hm {rfl,?_} pW;have h1:=ha aO pins s σ H _ I h;have Ql:starEach (e::es) y.cx.env=(false,eval e X.env)::starEach es X.env:=he;rw[Ql]at h1⊢;exact Calls.evalArgs_plain<|br h1 <| by rintro us s2 ⟨vs,H2,I2,r,z,q2⟩;exact{rfl,by show us.length<=sizeLine;rw[<-r.length];exact z,I2.bk _ _ hC,hN.keeps I2.bk,T.keeps I2.bk,λh' a hx=>y.ok.own rfl pins σ H2 s2 h' a _ _ I2 hx q2}
theorem rA{t:jh}(c:XC K C)(hm:X.mg x=some (.ref C))(ha:DA K X (e::es) t)(hg:autoParam (Gl X x) qQJ)(pW:autoParam ((x==("__debug__": Str))=false) qQZ) (he:autoParam (starEach (e::es) X.env=(false,eval e X.env)::starEach es X.env) qQJ) (dO:autoParam ((backTo aO<|starEach es X.env).any (·.1)=false) qQJ) (hc:autoParam (X.calm=true) qQJ) (hK:autoParam (X.K=K) qQJ): DS K X true (.Raise (some<|.Call (.Name x np) (e::es) [] aO) none pos) (Qj C t):=by subst hK;exact⟨λy=>(FD (y:=y) hc c hg hm (ha.of y) pW he dO).mono λD τ H ⟨σ,S,De,Z,aB,hS,q,hD,hZ⟩=>{σ,S,_,_,aB,hS,q,λds S1 vs H1 ⟨hl,r1⟩ v1 s1 k1=>{by rw[v1.len];exact hl,hZ.at aB C S1 H1 r1 s1 k1},hZ.at aB}⟩
end
structure s_ where
 xs:List D
 ok:au->Prop
def U7(K:Frag)(H0:Hp)(J:It)(I:s_):Prop:=∀i S H,Kp K H0 H->Rs K S H->I.ok S->(∀d,I.xs[i]?=some d->J.go i H/\∀x H',J.Tc i H x H'->Rv K H' d x/\Kp K H H'/\Rs K S H')/\(I.xs.length<=i->J.stop i H)
abbrev Bc:=SD->au->(s_->au->Prop)->KX->Prop
def Ti(K:Frag)(E:St->XK)(t:Bc):TI:=λτ H R=>∃σ S RI Z,iB K H σ τ/\Rs K S H/\t σ S RI Z/\(∀I S' J H',RI I S'->U7 K H' J I->Rs K S' H'->Kp K H H'->R J H')/\DN K H Z (E τ)
structure DI(K:Frag)(X:Cx)(tg it:Expr)(t:Bc):Prop where
 of:∀{b:Bool}(y:Ev X b),PI y.cx tg it<|Ti K y.E t
theorem PI.mono{t t':TI}(h:PI X tg it t)(i:∀τ H R,t' τ H R->t τ H R):PI X tg it t':=λpins s τ H R I q=>h pins s τ H R I<|i τ H R q
section
variable{K:Frag}{X:Cx}{tg l:Expr}
def ZA(t:TD):Bc:=λσ S R Z=>t σ S (λx S1=>∃ds,uF S1 x ds/\R {ds,λS=>uF S x ds} S1) Z
theorem il{t:TD}(h:DE K X l t)(hK:autoParam (X.K=K) qQJ):DI K X tg l (ZA t):=by subst hK;exact⟨λy=>(Kw (X:=y.cx)<|h.of y).mono <| by rintro τ H R ⟨σ,S,RI,Z,aB,hS,q,hR,hZ⟩;exact{σ,S,_,Z,aB,hS,q,by rintro x S1 v H1 ⟨ds,h1,r1⟩ v1 s1 k1;obtain⟨a,xs,rfl,hq,t⟩:=h1.at s1 v1;refine{a,rfl,⟨xs,hq⟩,hR _ S1 _ H1 r1 (λi S2 H2 k2 s2 Xa=>?_) s1 k1};obtain⟨a',Qm,e',GO,t'⟩:=uF.at Xa s2<|Rv.ts k2 _ v1;cases e';refine{λd hd=>?_,λhl=>{Qm,GO,by rw[t'.len];exact hl}};obtain⟨v,e1,r⟩:=t'.get hd;refine{⟨Qm,v,GO,e1⟩,λx' H' ⟨e2,e3⟩=>?_};subst e2;have:=e3 Qm GO;rw[e1]at this;cases this;exact{r,.refl _,s2},hZ}⟩
def U8(t:TD):Bc:=λσ S R Z=>t σ S (λx S1=>∃ds,(x=.tup ds\/x=.kt ds)/\R {ds,λ_=>True} S1) Z
theorem Qn{H:Hp}{x:D}{ds:List D}{v:V}(h:x=.tup ds\/x=.kt ds)(r:Rv K H x v):∃a xs,v=.ref a/\(∀H',Kp K H H'->g_ K H' a xs)/\RvAll K H ds xs:=by rcases h with rfl|rfl;obtain⟨a,xs,rfl,q,t⟩:=r.tup;exact{a,xs,rfl,λH' k=>.of<|k.t _ _ q,t};obtain⟨a,xs,rfl,q,t⟩:=r.kt;exact{a,xs,rfl,λH' k=>.inr q,t}
theorem NR{t:TD}(h:DE K X l t)(hK:autoParam (X.K=K) qQJ):DI K X tg l (U8 t):=by subst hK;exact⟨λy=>(O9 (X:=y.cx)<|h.of y).mono <| by rintro τ H R ⟨σ,S,RI,Z,aB,hS,q,hR,hZ⟩;exact{σ,S,_,Z,aB,hS,q,by rintro x S1 v H1 ⟨ds,h1,r1⟩ v1 s1 k1;obtain⟨a,xs,rfl,hq,t⟩:=Qn h1 v1;refine{a,rfl,{xs,hq _<|.refl _},hR _ S1 _ H1 r1 (λi S2 H2 k2 s2 _=>?_) s1 k1};have Qo:=hq H2 k2;refine{λd hd=>?_,λhl=>{xs,Qo,by rw[t.len];exact hl}};obtain⟨v,e1,r⟩:=(RvAll.ts k2 _ t).get hd;refine{⟨xs,v,Qo,e1⟩,λx' H' ⟨e2,e3⟩=>?_};subst e2;have:=e3 xs Qo;rw[e1]at this;cases this;exact{r,.refl _,s2},hZ}⟩
noncomputable def fm(lo:Int)(n:Nat):List D:=(List.range n).map λi=>D.int<|lo+(i:Nat)
theorem cJ{lo:Int}{n:Nat} : (fm lo n).length=n:=by unfold fm;rw[zb,List.length_range]
theorem cK{lo:Int}{n i:Nat}{d:D}(h:(fm lo n)[i]?=some d):i<n/\d=.int (lo+i):=by unfold fm at h;rw[zf]at h;by_cases q:i<n;rw[List.getElem?_range q]at h;exact{q,(zU h).symm};rw[List.getElem?_eq_none<|by rw[List.length_range];omega]at h;cases h
theorem Qp{H0:Hp}{lo:Int}{n:Nat} : U7 K H0 (WS lo n) {fm lo n,λ_=>True}:=λi S H k s _=>{λd hd=>by obtain⟨h1,rfl⟩:=cK hd;exact{h1,by rintro x H' ⟨e1,e2⟩;exact by subst e1 e2;exact{aP _,.refl _,s}},λhl=>by rw[cJ]at hl;exact hl}
def ZC(t:jh):Bc:=λσ S R Z=>t σ S (λds S1=>∃j:Int,ds=[.int j]/\-(2^62)<=j/\j<2^62/\R {fm 0 j.toNat,λ_=>True} S1) Z
theorem LL{t:jh}(hm:X.mg "range"= none)(ha:DA K X [a] t)(hg:autoParam (Gl X "range") qQJ)(hs:autoParam (starEach [a] X.env=[(false,eval a X.env)]) qQJ):DI K X tg (.Call (.Name "range" p) [a] [] pos) (ZC t):=⟨λy=>(EV (X:=y.cx) hg hm (ha.of y) hs).mono <| by rintro τ H R ⟨σ,S,RI,Z,aB,hS,q,hR,hZ⟩;exact{σ,S,_,Z,aB,hS,q,by rintro ds S1 vs H1 ⟨j,e,h1,h2,r1⟩ v1 s1 k1;subst e;obtain⟨v,rfl,r⟩:=v1.one;exact{j,by rw[r.int],h1,h2,hR _ S1 _ H1 r1 Qp s1 k1},hZ}⟩
end
section
variable{K:Frag}{X:Cx}{tg iter:Expr}{pos:Pos}
def ZD(ti:Bc)(g:y1)(tb:mE):mE:=λDe σ S Z=>ti σ S (λI S1=>∃P:Nat->SD->au->Prop,P 0 σ S1/\(∀i σ S,P i σ S->I.ok S)/\(∀i d σ S,I.xs[i]?=some d->P i σ S->g d σ S λqp S2=>tb {De with nx:=P<|i+1,ct:=P<|i+1,bk:=De.nx} qp S2 Z)/\∀σ S,P I.xs.length σ S->De.nx σ S)<|Z σ
theorem GQ(hi:DI K X tg iter ti)(hg:DG K X tg g)(hb:GP K X true body tb)(hs:autoParam (∀x,foldedSetIterable iter X.env x=pure x) qQ0)(hc:autoParam (X.calm=true) qQJ):DS K X true (.For tg iter body [] pos) (ZD ti g tb):=
 ⟨λy=>(O_ (X:=y.cx) (y.ok.loop rfl) hc (hi.of y) (hg.of _ rfl rfl rfl rfl rfl) (hb.of y) hs).mono <| by rintro D τ H ⟨σ,S,De,Z,aB,hS,q,hD,hZ⟩;exact
  ⟨σ,S,_,_,aB,hS,q,by
   rintro I S1 J H1 ⟨P,p0,ZE,ZF,pend⟩ hJ s1 k1
   refine{λi m τ H=>m=I.xs.length-i/\i<=I.xs.length/\∃σ S,iB K H σ τ/\Rs K S H/\P i σ S/\Kp K H1 H,!{zT _,σ,S1,aB.ts k1,s1,p0,.refl _},?_}
   rintro i m τ2 H2 ⟨rfl,Qq,qp,S2,a2,s2,p2,k2⟩
   have ok:=hJ i S2 H2 k2 s2<|ZE _ _ _ p2
   by_cases eC:i<I.xs.length
   ·obtain⟨go,yl⟩:=ok.1 _ (zg eC)
    refine .inr {go,λSe H'=>i+1<=I.xs.length/\∃σ S,iB K H' σ Se/\Rs K S H'/\P (i+1) σ S/\Kp K H1 H',λaG H' h'=>{_,by omega,rfl,h'},λx H' hy=>?_}
    obtain⟨rx,k3,s3⟩:=yl x H' hy
    refine{_,qp,S2,_,rx,a2.ts k3,s3,ZF i _ qp S2 (zg eC) p2,λXb S4 τ4 H4 r4 a4 s4 k4=>?_}
    have kk:=(k2.trans k3).trans k4
    exact{Xb,S4,_,Z,a4,s4,r4,{λQr S5 ZG H5 r5 a5 s5 k5=>{eC,Qr,S5,a5,s5,r5,kk.trans k5},hD.rt.kp<|k1.trans kk,(hD.nx.kp<|k1.trans kk),λQr S5 ZG H5 r5 a5 s5 k5=>{eC,Qr,S5,a5,s5,r5,kk.trans k5}},hZ.kp<|k1.trans kk}
   ·have e:i=I.xs.length:=by omega
    subst e
    exact .inl {ok.2<|zp _,hD.nx _ _ _ _ (pend _ _ p2) a2 s2<|k1.trans k2},hZ.at aB⟩⟩
end
noncomputable def mF(σ:SD)(src:List<|Option Nat):SD:=src.map λo=>match o with|some j=>(σ[j]?).join|none=>none
theorem iB.pick{K:Frag}{H:Hp}{σ:SD}{τ:St}(h:iB K H σ τ):∀src:List (Option Nat),iB K H (mF σ src) (pick τ src)|[]=>.nil|o::r=>.cons (λd e=>by cases o with|none=>(cases e)|some j=>dsimp only at e⊢;cases q:σ[j]? with|none=>(rw[q]at e;cases e)|some o'=>rw[q]at e;obtain rfl:o'=some d:=e;obtain⟨v,e1,r1⟩:=h.get q;exact{v,by rw[e1];rfl,r1})<|iB.pick h r
def Zf:KX:=λ_ _=>False
def y3(σ:SD)(src:List<|Option Nat)(g:y1)(tc:my)(te:TD)(R:KD)(I:s_)(S1:au):Prop:=∃P:Nat->List D->au->Prop,P 0 [] S1/\(∀i out S,P i out S->I.ok S)/\(∀i d out S,I.xs[i]?=some d->P i out S->out.length<sizeLine/\g d (mF σ src) S λgq S3=>tc gq S3 (λb S4=>if b=true then te gq S4 (λv S5=>P (i+1) (out++[v]) S5) Zf else P (i+1) out S4) Zf)/\∀out S2,P I.xs.length out S2->∀p,S2 p=none->R (.ref p) (S2.set p<|.lst out)
def DR(ti:Bc)(src:List<|Option Nat)(g:y1)(tc:my)(te:TD):TD:=λσ S R Z=>ti σ S (λI S1=>y3 σ src g tc te R I S1) Z
theorem DN.f{K:Frag}{H:Hp}{e:XK} : DN K H Zf e:=λ_ _ _ z=>z.elim
theorem T.comp{K:Frag}{E E':St->XK}{ti:Bc}{src:List<|Option Nat}{g:TG}{gd:y1}{tc:my}{te:TD}{τ:St}{H:Hp}{Q:VK}(hg:∀v τ H Q,Tg K gd v τ H Q->g v τ H Q) (h:T K E (DR ti src gd tc te) τ H Q):Hw (Ti K E ti) src g (Tt K E' tc) (T K E' te) τ H Q:=by
 obtain⟨σ,S,R,Z,aB,hS,q,hR,hZ⟩:=h;refine{σ,S,_,Z,aB,hS,q,λI S1 J H1 ⟨P,p0,ZE,ZF,pend⟩ hJ s1 k1=>?_,hZ};refine{λi m out H=>m=I.xs.length-i/\i<=I.xs.length/\∃ds S,RvAll K H ds out/\Rs K S H/\P i ds S/\Kp K H1 H,!{zT _,[],S1,bC,s1,p0,.refl _},?_};rintro i m out H2 ⟨rfl,Qq,ds,S2,v2,s2,p2,k2⟩;have ok:=hJ i S2 H2 k2 s2<|ZE _ _ _ p2;by_cases eC:i<I.xs.length;obtain⟨go,yl⟩:=ok.1 _<|zg eC;obtain⟨hz,st⟩:=ZF i _ ds S2 (zg eC) p2;refine .inr {go,by rw[v2.len];exact hz,λx H' hy=>?_};obtain⟨rx,k3,s3⟩:=yl x H' hy;refine hg _ _ _ _ {_,_,S2,_,rx,(((aB.ts k1).ts k2).ts k3).pick src,s3,st,λXb S4 τ4 H4 r4 a4 s4 k4=>?_};refine{Xb,S4,_,Zf,a4,s4,r4,λc S5 H5 r5 s5 k5=>?_,.f};cases c with|true=>rw[if_pos rfl]at r5⊢;exact{Xb,S5,_,Zf,a4.ts k5,s5,r5,λd S6 v H6 r6 v6 s6 k6=>{_,by omega,rfl,eC,ds++[d],S6,(RvAll.ts (((k3.trans k4).trans k5).trans k6) _ v2).app<|aQ v6 bC,s6,r6,(((k2.trans k3).trans k4).trans k5).trans k6},.f}|false=>rw[if_neg zd]at r5⊢;exact{_,by omega,rfl,eC,ds,S5,RvAll.ts ((k3.trans k4).trans k5) _ v2,s5,r5,((k2.trans k3).trans k4).trans k5}
 have e:i=I.xs.length:=by omega
 subst e;exact .inl {ok.2<|zp _,λp hp=>(hR.kp<|k1.trans k2).new s2 hp (pend _ _ p2 p) v2}
noncomputable def Ev.none(X:Cx)(h:X.xe=λ_ _=>False):Ev X false:={X.pn,X.xe,λ_=>E0,{by rintro p2 τ H s e s' _ ⟨_,_,_,_,_,_,_,_,_,z⟩;exact z.elim,λe=>(by cases e),λe=>(by cases e)}}
section
variable{K:Frag}{X:Cx}{b:Bool}{N:List Str}{src:List (Option Nat)}{scope:Scope}{tg iter elt:Expr}{ifs:List Expr}{pos:Pos}{ti:Bc}{g:TG}{gd:y1}{tc:my}{te:TD}
structure Xc(K:Frag)(X:Cx)(ifs:List Expr)(t:my):Prop where
 of:∀{b:Bool}(y:Ev X b),R7 y.cx ifs<|Tt K y.E t
def mG:my:=λ_ S R _=>R true S
theorem rB:Xc K X [] mG:=⟨λy pins s τ H Q I ⟨σ,S,R,Z,aB,hS,q,hR,hZ⟩=>K5 pins s τ H Q I<|hR true S H q hS<|.refl _⟩
theorem if1{t:my}(h:DT K X c t):Xc K X [c] t:=⟨λy=>K6<|h.of y⟩
theorem uH(S:bM X N src scope)(hit:DI K X tg iter ti)(hg:∀C s H ex pn,PG (iY X N scope C s H ex pn) tg g)(hx:BF g src)(ZH:∀v τ H Q,Tg K gd v τ H Q->g v τ H Q) (hi:∀C s H ex pn,Xc K (iY X N scope C s H ex pn) ifs tc) (he:∀C s H ex pn,DE K (iY X N scope C s H ex pn) elt te) (hs:autoParam (∀x,foldedSetIterable iter X.env x=pure x) qQ0) (hc:autoParam (X.calm=true) qQJ):DE K X (.ListComp elt [{tg,iter,ifs,0}] scope pos) (DR ti src gd tc te):=⟨λy=>(K8 (X:=y.cx) (tc:=Tt K (λ_=>E0) tc) (te:=T K (λ_=>E0) te) ⟨S.kind,S.gI,S.loc,S.Ba,S.len,S.src⟩ hc (hit.of y) hg hx (λC s H ex pn=>(hi C s H ex pn).of<|.none _ rfl) (λC s H ex pn=>(he C s H ex pn).of<|.none _ rfl) hs).mono λ_ _ _ h=>h.comp ZH⟩
theorem Qt(hN:X.N.Nodup)(S:bM X N src scope)(hit:DI K X tg iter ti)(hg:∀C s H ex pn,PG (iY X N scope C s H ex pn) tg g)(hx:BF g src)(ZH:∀v τ H Q,Tg K gd v τ H Q->g v τ H Q) (hi:∀C s H ex pn,Xc K (iY X N scope C s H ex pn) ifs tc) (he:∀C s H ex pn,DE K (iY X N scope C s H ex pn) elt te) (YM:autoParam (X.N[i]?=some x) qQJ) (BI:autoParam (X.env.scope.names.lookup x=some .local) qQJ) (YN:autoParam (swapsWith (.ListComp elt [{tg,iter,ifs,0}] scope pos) (some<|.Name x pos') K9.line X.env=pure true) qQJ) (hs:autoParam (∀x,foldedSetIterable iter X.env x=pure x) qQ0) (hc:autoParam (X.calm=true) qQJ):DS K X b (.Assign [.Name x pos'] (.ListComp elt [{tg,iter,ifs,0}] scope pos) K9) (UX i<|DR ti src gd tc te):=⟨λy=>(BH (X:=y.cx) (i:=i) (tc:=Tt K (λ_=>E0) tc) (te:=T K (λ_=>E0) te) hN YM BI ⟨S.kind,S.gI,S.loc,S.Ba,S.len,S.src⟩ hc (hit.of y) hg hx (λC s H ex pn=>(hi C s H ex pn).of<|.none _ rfl) (λC s H ex pn=>(he C s H ex pn).of<|.none _ rfl) YN hs).mono <| by rintro D τ H ⟨σ,S,De,Z,aB,hS,q,hD,hZ⟩;exact T.comp ZH {σ,S,_,_,aB,hS,q,λd S1 v H1 r1 v1 s1 k1=>hD.nx _ _ _ _ r1 ((aB.ts k1).set i v1) s1 k1,hZ.at aB}⟩
theorem ba:∀v τ H Q,Tg K (W9 i) v τ H Q->iX i v τ H Q:=by rintro v τ H Q ⟨d,σ,S,R,rv,aB,hS,q,hR⟩;exact hR _ S _ H q (aB.set i rv) hS<|.refl _
end
structure vM(K:Frag)(x qual:Str)(st:Stmt)(f:Addr)(fd:FuncData):Prop where
 ex:∃(oc:Value)(od:Option Addr)(dV kV doc pm:Value)(an:Option Addr)(gY ct:Value)(Pp:Array (Option Value)),
  fd=fnOf x qual (aX st) (aU st) (ae st) dV kV doc pm an gY ct/\K.lookup f=some {oc,od,.func fd,Pp}/\codeIn K gY qual=true
noncomputable def jA(N:List Str)(ds:List D):SD:=ds.map some++List.replicate (N.length-ds.length) none
section
variable{i:Nat}{P:Program}{w:World}{K:Frag}{mg:Str->Option Value}{base:Heap}
theorem vM.okD{x qual:Str}{st:Stmt}{f:Addr}{fd:FuncData}{N ps:List Str}{k:Nat}{sp:kI}(F:vM K x qual st f fd)(S:gw N ps<|ae st)(len:∀ds S R Z,sp ds S R Z->ds.length=ps.length) (mm:∀(gY:Value)(A:Around)(outer:List Env)(s:Shared)(H:Hp)(E:XK)(ds:List D)(S:au)(R:KD)(Z:KX),bV k (A.deeper<|envOfC qual (ae st) s.heap.objs.size f gY)->sp ds S R Z->∃t,GP K (kG (fH P w mg) P w K mg base N qual (ae st) f gY A outer s H E) true (aU st) t/\t {nx:=λ_ S'=>R .av S',rt:=R} (jA N ds) S λ_=>Z):bK P w K mg base (fH P w mg) (k+1) f fd ps (qv K sp):=by
 obtain⟨oc,od,dV,kV,doc,pm,an,gY,ct,Pp,rfl,lk,sZ⟩:=F.ex;have dO:ps.length<=N.length:=by have:=congrArg List.length S.pre;rw[yz]at this;lia
 refine Ny lk sZ S (by rintro vs H Q E ⟨ds,S',R,Z,v,_,h,_⟩;exact by rw[v.len];exact len _ _ _ _ h) λA outer s H vs Q E hr ⟨ds,S',R,Z,v,hS,h,hR,hZ⟩=>?_;obtain⟨t,ht,q⟩:=mm gY A outer s H E ds S' R Z hr h;have L:dj (kG (fH P w mg) P w K mg base N qual (ae st) f gY A outer s H E) E:=uC;let y:Ev (kG (fH P w mg) P w K mg base N qual (ae st) f gY A outer s H E) true:={_,(kG (fH P w mg) P w K mg base N qual (ae st) f gY A outer s H E).xe,λ_=>E,{λp2 τ H1 s1 e s' I h=>NF L p2 τ H1 s1 e s' I h,λ_ p2 τ H1 s1 h' a cls args I hx he=>oW L I hx he,λ_=>PassesOwn.leaving}};refine{Tl K (λ_=>E) t,ht.of y,jA N ds,S',_,λ_=>Z,?_,hS,q,{λσ S1 τ H1 r a b c=>hR.kp c |>.now b r fI,hR,λ_ _ _ _ z=>z.elim,λ_ _ _ _ z=>z.elim},λσ τ C S1 H1 z a b c=>hZ C S1 H1 z b c};unfold jA start;refine(rl v).app ?_;rw[v.len];exact rj _ _<|by rw[List.length_replicate]
theorem bK.LM(F:bK P w K mg base (fH P w mg) k f fd ps<|qv K sp)(h:∀ds S R Z,WV ds S R Z->sp ds S R Z):bK P w K mg base (fH P w mg) k f fd ps (qv K WV):=F.imp <| by rintro vs H Q E ⟨ds,S,R,Z,a,b,c,d⟩;exact{ds,S,R,Z,a,b,h _ _ _ _ c,d}
theorem bK.calm(F:bK P w K mg base (fH P w mg) k f fd ps sp):bK P w K mg base WZ k f fd ps λvs H Q _=>sp vs H Q E0:=by refine{λvs H Q E h=>F.len vs H Q E0 h,λA outer s H args us vs Q E hr e0 hb r h=>yU (F.run A outer s H args us vs Q E0 hr e0 hb r h) λres s' q=>?_};cases res with|error e=>(obtain⟨_,_,_,_,_,_,_,_,_,z⟩:=q;exact z.elim)|ok fl=>cases fl<;>exact q
noncomputable def uG.less(De:uG)(i:Nat):uG:={nx:=λσ S=>De.nx (σ.set i none) S,rt:=De.rt,bk:=λσ S=>De.bk (σ.set i none) S,ct:=λσ S=>De.ct (σ.set i none) S}
end
theorem uI{P:Program}{w:World} : ∀{ss:List Str}{vs:List Value},vs.length=ss.length->(∀(j:Nat)(v:Value),vs[j]?=some v->∃x,ss[j]?=some x/\keyIs (.inr x) v=true)->StrsAre vs ss|[],[],_,_=>.nil|[],_::_,h,_=>by simp at h|_::_,[],h,_=>by simp at h|x::ss,v::vs,h,k=>by obtain⟨x',e,q⟩:=k 0 v rfl;cases e;rcases bD q with⟨i,t,e,_⟩|⟨y,t,e,rfl⟩;cases e;cases e;exact .cons x t<|uI (P:=P) (w:=w) (by simpa using h) λj v e=>k (j+1) v<|by simpa using e
theorem uJ:∀{vs:List Value}{ss:List Str},StrsAre vs ss->Vals (ss.map V.str) vs|_,_,.nil=>.nil|_,_,.cons y t h=>.cons ⟨t,rfl⟩<|uJ h
theorem KV.ZI{κ:Type}{kvs:List<|κ×V}{vs:List<|κ×Value}(h:KV kvs vs):vs.map (·.1)=kvs.map (·.1):=by unfold KV at h;induction h with|nil=>rfl|cons r t ih=>rw[zu,zu,ih,r.1]
theorem H_{prog:Program}{w:World}{A:Around}{E:Value->Shared->Prop}{s:Shared}{T:String}{r d:Addr}{n:Nat}{P:Nat->Value->Prop}{OK:Heap->Prop}{R:List Value->Shared->Prop}(K:PySem.W.KdlSrc prog w T r d n P OK)(hh:A.handled=none)(aM:OK s.heap)(hn:n<=sizeLine) (h:∀(h':Heap) (tk:Nat) (acc:Array Value),(∀b o,s.heap.get? b=some o->h'.get? b=some o)->s.heap.objs.size<=h'.objs.size->ItemsOf P acc n->R acc.toList {s with heap:=h',toks:=tk}): wpAny (model prog w) A (collect<|.ref r) R E s:=by have eC:=K.there _ aM;unfold collect;refine zc<|wpAny_runValue<|yQ entry_proto_collect' ?_;rw[Around.under_plainId PySem.F.plain_proto_collect _];show wpAny _ A.in1 (newList [] >>=λl=>again<|.builtin "list.__iadd__" {[l,.ref r],[]}) _ _ s;refine zc<|yI ?_;refine zD {plainId_quiet PySem.F.plain_list_iadd _,yQ entry_list_iadd' ?_};rw[Around.under_plainId PySem.F.plain_list_iadd _];have U9:(s.heap.push {cls:=.type "list",data:=.seq ([]:List Value).toArray}).get? s.heap.objs.size=some {cls:=.type "list",data:=.seq #[]}:=zk _ rfl;show wpAny _ A.in1 (Builtin.List.listExtendWith (.ref s.heap.objs.size) (.ref r)<|.ref s.heap.objs.size) _ _ _;have key:=PySem.W.kdl_extend (A:=A) (s:={s with heap:=s.heap.push {cls:=.type "list",data:=.seq ([]:List Value).toArray}}) (R:=λ(q:Result) (s':Shared)=>∃(h':Heap) (tk:Nat) (y4:Array Value) (c':Nat),q=.ok (.ret<|.ref s.heap.objs.size)/\s'={s with heap:=h',toks:=tk}/\(∀b o,s.heap.get? b=some o->h'.get? b=some o)/\h'.get? s.heap.objs.size=some {cls:=.type "list",dict:=none,data:=.seq y4 c',slots:=#[]}/\ItemsOf P y4 n) K hh (K.keep _ _ aM λb _ o e=>za _ e) s.heap.objs.size (yo eC.1) (yo eC.2) (.ref s.heap.objs.size) 0 U9 (λh' tk y4 c' hk qw qZ=>{h',tk,y4,c',rfl,rfl,λb o e=>hk b o (zE<|zw e)<|za _ e,qw,qZ}) hn;refine yH key (λfin s' x=>?_) λe s' x=>?_;{cases fin with|done f=>(obtain⟨h',tk,y4,c',e,rfl,hk,qw,qZ⟩:=x;cases e;show wpAny _ A (load s.heap.objs.size >>=_) _ _ _;exact zc<|wpAny_load qw<|zD<|h h' tk y4 hk (yO<|zw qw) qZ)|again c₁=>refine{x.1,yU x.2 λq bU y=>?_};obtain⟨h',tk,y4,c',rfl,rfl,hk,qw,qZ⟩:=y;show wpAny _ A (load s.heap.objs.size >>=_) _ _ _;exact zc<|wpAny_load qw<|zD<|h h' tk y4 hk (yO<|zw qw) qZ};obtain⟨_,_,_,_,e',_⟩:=x;cases e'
theorem vN{X:Cx}(hc:X.calm=true):fg X (.builtin "sorted") (λxs H Q=>∃(a:Addr)(kvs:List (Key×V))(ss:List Str),xs=[.ref a]/\H a=some (.dK kvs)/\kvs.map (·.1)=ss.map Sum.inr/\kvs.length<64/\∀DU,DU.Perm ss->sortedS DU=true->∀l,H l=none->Q (.ref l) (upd H l<|.lst<|DU.map V.str)):=by
 intro pins s σ H xs us Q I r h;obtain⟨a,kvs,ss,rfl,e,hk,hl,q⟩:=h;obtain⟨u,rfl,ru⟩:=vals1 r;cases ru;obtain⟨z,hd,vs,rel,dd⟩:=xP I.aM e;obtain⟨ep,Xd⟩:=dd.dictAt;have hlen:vs.length<64:=by rw[<-rel.length];exact hl
 have hh:=I.ok.hd hc;refine PySem.Calls.call_function_entry kind_sorted plain_sorted entry_sorted (args_sorted1 _) ?_;unfold Builtin.«sorted»;refine zc (m:=checkCount "sorted" 1 1 _)<|zD ?_;refine zc<|H_ (A:=X.A.in1) (PySem.W.kdl_dict (knd:=aH X.prog X.w) (kvs:=vs) (ep:=ep) hd) hh Xd (by rw[yd];omega) λh' tk acc NS hB qZ=>?_;have PC:acc.toList.length=vs.length:=by rw[yt];exact qZ.1
 refine zc<|wpAny_newList ?_ (by rw[PC,yd];omega);have hS:StrsAre acc.toList ss:=by have hkv:=rel.ZI;refine uI (P:=X.prog) (w:=X.w) (by rw[PC,<-rel.length];have:=congrArg List.length hk;simpa using this) λj v ev=>?_;obtain⟨k,x,e1,e2⟩:=qZ.2 j v (by rw[<-Array.getElem?_toList];exact ev);have e3:(vs.map (·.1))[j]?=some k:=(by rw[zf,e1];rfl);rw[hkv,hk,zf]at e3;cases q2:ss[j]? with|none=>(rw[q2]at e3;cases e3)|some y=>rw[q2]at e3;cases e3;exact⟨y,rfl,e2⟩
 have GH:(h'.push<|seqObj "list" acc.toList.toArray 0).get? h'.objs.size=some (seqObj "list" acc.toList.toArray 0):=zk _ rfl;show wpAny _ _ _ _ _ {s with heap:=h'.push<|seqObj "list" acc.toList.toArray 0,toks:=tk};refine zc<|yL<|yM slot_list_sort {_,GH,rfl} entry_list_sort (list_sort_treeK (s:={s with heap:=h'.push<|seqObj "list" acc.toList.toArray 0,toks:=tk}) strKind_oneLt GH hS.keysOf (λnU nV rest e=>keyKind_strs<|by rw[<-e];exact hS) (by rw[PC];exact hlen) λeZ hp hs=>!⟨?_⟩)<|args_list_sort _;refine zD !⟨?_⟩;obtain⟨DU,h1,h2,h3⟩:=sorted_out_str hS hp hs;obtain⟨e1,he1⟩:=sortedHeap_at (vs:=acc.toList) (n:=0) (out:=(arrOf eZ).map (·.2)) GH;have U_:DU.length<=sizeLine:=by rw[h2.length_eq,yd];have:=congrArg List.length hk;rw[zb,zb]at this;omega
 refine{.ref h'.objs.size,_,I.laid (a:=h'.objs.size) (o:=.lst<|DU.map V.str) (λb u hb=>?_) hB {by rw[zb];exact U_,_,e1,uJ h1,he1},rfl,q DU h2 h3 _<|I.aM.fresh hB};have eC:=zw<|NS b u hb;rw[sortedHeap_old (zE eC)<|by rw[yb];exact Nat.lt_succ_of_lt eC,za _<|NS b u hb]
section
variable{K:Frag}
def LN:List D->au->KD->Prop:=λds S R=>∃(a:Addr)(kvs:List (Key×D))(ss:List Str),ds=[.ref a]/\S a=some (.cB kvs)/\kvs.map (·.1)=ss.map Sum.inr/\kvs.length<64/\∀DU,DU.Perm ss->sortedS DU=true->∀p,S p=none->R (.ref p) (S.set p<|.lst<|DU.map D.str)
theorem bQ.keys{κ:Type}{H:Hp}{ks:List<|κ×D}{vs:List<|κ×V}(h:bQ K H ks vs):vs.map (·.1)=ks.map (·.1):=by unfold bQ at h;induction h with|nil=>rfl|cons r t ih=>rw[zu,zu,ih,r.1]
theorem y6:i6 K (.builtin "sorted") LN:=by rintro X hK hc pins s σ H xs us Q I rx ⟨ds,S,R,r,hS,⟨a,kvs,ss,e,e1,hk,hl,h⟩,hR⟩;subst e;obtain⟨v,rfl,r1⟩:=r.one;obtain⟨vs,e2,t⟩:=hS.cB e1;exact vN hc pins s σ H _ us Q I rx {a,vs,ss,by rw[r1.ref],e2,by rw[t.keys];exact hk,by rw[t.len];exact hl,λDU p1 p2 l hl=>hR.new hS hl (h DU p1 p2 l)<|vI DU}
end
def NT(K:Frag)(a:Addr)(n:Nat):It:={λi H=>∃xs x,kh K H a xs/\xs.length=n/\i<n/\xs[n-1-i]?=some x,λi H x H'=>H'=H/\∀xs,kh K H a xs->xs.length=n->xs[n-1-i]?=some x,λi _=>n<=i}
theorem Ia{P:Program}{w:World}{K:Frag}{tg:Expr}(a it:Addr)(n:Nat):Turn P w K tg (NT K a n) [it] it (λi h=>i<=n/\h.IsRevIter it a ((n:Int)-1-(i:Int))) where
 mem:=by simp
 obj:=λi h st b hb=>by
  have e:b=it:=by simpa using hb
  subst e
  obtain⟨_,o,e,c,d⟩:=st
  exact{o,e,λv z=>by rw[d]at z;cases z}
 keep:=λi h h' st k=>{st.1,st.2.at λo e=>k it (by simp) o e}
 item:=by
  intro X hP hw hK hc i pins s σ H E I hf st hg
  subst hP hw hK
  obtain⟨xs,x,hq,hn,hi,hx⟩:=hg
  obtain⟨ay,rv,p,hz⟩:=I.list hq
  obtain⟨u,hu,ru⟩:=rv.get hx
  obtain⟨f0,f1,f2,f3,f4,f5⟩:=hf it<|by simp
  have e:(n:Int)-1-(i:Int)=((n-1-i:Nat):Int):=by lia
  have hit:=st.2
  rw[e]at hit
  refine wpAny_pyNext_rev_item hit p.isList (x:=u) (by simpa using hu) λh' eZ sb=>?_
  have I1:Inv X pins σ H {s with heap:=h'}:=I.turned (t':=s.toks) (λb o hb e=>(sb.2 b hb).trans e) f0 f1 f3 f4 f5
  obtain⟨o,e1,c,d⟩:=id eZ
  refine{u,rfl,uj (s:={s with heap:=h'}) e1 c d (by decide) {x,H,I1,ru,{rfl,λys hy _=>by rw[I.xH hy hq];exact hx},{hi,?_},λb hb=>(hf b hb).1}}
  have e2:(n:Int)-1-((i+1:Nat):Int)=((n-1-i:Nat):Int)-1:=by lia
  rw[e2];exact eZ
 done:=by
  intro X hP hw hK hc i pins s σ H E I hf st hg
  subst hP hw hK
  obtain⟨f0,f1,f2,f3,f4,f5⟩:=hf it<|by simp
  have hg:n<=i:=hg
  have e:(n:Int)-1-(i:Int) = -1:=by have:=st.1;lia
  have hit:=st.2
  rw[e]at hit
  exact wpAny_pyNext_rev_end (I.ok.hd hc) hit λh' eb=>{rfl,I.turned (t':=s.toks) (λb o hb e=>eb b o hb e) f0 f1 f3 f4 f5}
 self:=λ_ _ _ _ _ st h=>wpAny_pyIter_revIter st.2 h
def ZJ(K:Frag)(ta:TA):TI:=λσ H R=>ta σ H λvs H1=>∃a xs,vs=[.ref a]/\kh K H1 a xs/\R (NT K a xs.length) H1
theorem Qu{X:Cx}{tg a:Expr}{ta:TA}{p pos:Pos}(hg:Gl X "reversed")(hm:X.mg "reversed"= none)(ha:PA X [a] ta)(hs:starEach [a] X.env=[(false,eval a X.env)]):PI X tg (.Call (.Name "reversed" p) [a] [] pos) (ZJ X.K ta):=by
 intro pins s σ H R I h;refine Call_<|gG I hg hm boot_reversed<|PyProof.Rows.callWith_type1 (br (ha pos pins s σ H _ I h) λus s1 ⟨vs,H1,I1,r1,q1⟩=>?_) hs rfl;obtain⟨l,xs,e,q,hR⟩:=q1;subst e;obtain⟨u,rfl,ru⟩:=vals1 r1;cases ru;obtain⟨ay,rv,pl,hz⟩:=I1.list q;have hn:ay.toArray.size=xs.length:=by rw[zq,rv.length]
 refine call_reversed_list pl.isList ?_;rw[hn];have st:(s1.heap.push<|revObj l<|(xs.length:Int)-1).IsRevIter s1.heap.objs.size l ((xs.length:Int)-1-((0:Nat):Int)):={_,zk _ rfl,rfl,by show Data.fields _=Data.fields _;simp};have I2:Inv X pins σ H1 {s1 with heap:=s1.heap.push<|revObj l<|(xs.length:Int)-1}:=I1.kept (t':=s1.toks) λb o e=>za _ e;refine wpAny_pyIter_revIter st {_,_,_,_,H1,rfl,I2,Ia l s1.heap.objs.size xs.length,{zT _,st},λb hb=>?_,hR};have hb:b=s1.heap.objs.size:=by simpa using hb
 subst hb;exact I1.pU (zp _)<|I1.aM.fresh<|zp _
section
variable{K:Frag}{X:Cx}{tg:Expr}
def Va(t:jh):Bc:=λσ S R Z=>t σ S (λds S1=>∃x es,ds=[x]/\uF S1 x es/\R {es.reverse,λS=>uF S x es} S1) Z
theorem irv{t:jh}(hm:X.mg "reversed"= none)(ha:DA K X [a] t)(hg:autoParam (Gl X "reversed") qQJ)(hs:autoParam (starEach [a] X.env=[(false,eval a X.env)]) qQJ)(hK:autoParam (X.K=K) qQJ):DI K X tg (.Call (.Name "reversed" p) [a] [] pos) (Va t):=by subst hK;exact⟨λy=>(Qu (X:=y.cx) hg hm (ha.of y) hs).mono <| by rintro τ H R ⟨σ,S,RI,Z,aB,hS,q,hR,hZ⟩;exact{σ,S,_,Z,aB,hS,q,by rintro ds S1 vs H1 ⟨x,es,e,h1,r1⟩ v1 s1 k1;subst e;obtain⟨v,rfl,r⟩:=v1.one;obtain⟨a,xs,rfl,hq,t⟩:=h1.at s1 r;refine{a,xs,rfl,hq,hR _ S1 _ H1 r1 (λi S2 H2 k2 s2 Xa=>?_) s1 k1};obtain⟨a',Qm,e',GO,t'⟩:=uF.at Xa s2<|Rv.ts k2 _ r;cases e';have hl:xs.length=es.length:=t.len;have hl':Qm.length=es.length:=t'.len;refine{λd hd=>?_,λh=>by rw[yC]at h;show xs.length<=i;lia};have hi:i<es.length:=(by have:=(ze.mp hd).1;rwa [yC]at this);rw[List.getElem?_reverse hi]at hd;obtain⟨v,e1,r⟩:=t'.get hd;rw[<-hl]at e1;refine{{Qm,v,GO,by lia,by lia,e1},λx' H' ⟨e2,e3⟩=>?_};subst e2;have:=e3 Qm GO (by lia);rw[e1]at this;cases this;exact{r,.refl _,s2},hZ}⟩
noncomputable def cC(xs ys:List D):List D:=List.zipWith (λa b=>D.tup [a,b]) xs ys
def Vb(t:jh):Bc:=λσ S R Z=>t σ S (λds S1=>∃xs ys,ds=[.tup xs,.tup ys]/\xs.length=ys.length/\R {cC xs ys,λ_=>True} S1) Z
theorem vO:∀v τ H Q,Tg K (NQ 2<|B9 (W9 i)<|B9 (W9 j) NP) v τ H Q->Kv K 2 (qI (iX i)<|qI (iX j) Ku) v τ H Q:=by rintro v τ H Q ⟨d,σ,S,R,rv,aB,hS,⟨ds,e,hl,a,r,e1,b,r',e2,e3,q⟩,hR⟩;subst e e1 e2 e3;obtain⟨p,xs,rfl,hp,t⟩:=rv.tup;obtain⟨v1,v2,rfl,r1,r2⟩:=t.two;exact{p,_,rfl,.of hp,rfl,v1,[v2],rfl,v2,[],rfl,rfl,hR _ S _ H q ((aB.set i r1).set j r2) hS<|.refl _}
end
section
variable{K:Frag}{X:Cx}{b:Bool}{pos:Pos}
def Vc(tl ti tv:TD):mE:=λDe σ S Z=>tv σ S (λv S1=>tl σ S1 (λx S2=>ti σ S2 (λy S3=>∃a es i j,x=.ref a/\y=.int i/\S3 a=some (.lst es)/\GI es.length i=some j/\De.nx σ (S3.set a<|.lst<|es.set j v))<|Z σ)<|Z σ)<|Z σ
theorem sls{o i value:Expr}{tl ti tv:TD}{pos':Pos}(ho:DE K X o tl)(hi:DE K X i ti)(hv:DE K X value tv)
  (ha:autoParam (∀v,assign (.Subscript o i pos') X.env v=(do
   let ov <-holding [v] (eval o X.env)
   let iv <-holding [v,ov] (eval i X.env)
   standAt pos'
   holding [v,ov,iv] (setItem ov iv v)
   release [v,ov,iv] [])) qQ0)
  (hs:autoParam (swapsWithSole [.Subscript o i pos'] value pos.line X.env=pure false) qQJ) (hw:autoParam (swappedStores [.Subscript o i pos'] value X.env=pure none) qQJ) (h1:autoParam ((assignEach [.Subscript o i pos'] X.env).map (·.2)=[assign (.Subscript o i pos') X.env]) qQJ):
  DS K X b (.Assign [.Subscript o i pos'] value pos) (Vc tl ti tv):=
 ⟨λy=>(G0 (X:=y.cx) (hv.of y) (O3 (ho.of y) (hi.of y) set_list ha) hs hw h1).mono <| by rintro D τ H ⟨σ,S,De,Z,aB,hS,q,hD,hZ⟩;exact
  ⟨σ,S,_,_,aB,hS,q,λv S1 vv H1 r1 v1 s1 k1=>⟨σ,S1,_,_,aB.ts k1,s1,r1,λx S2 xv H2 r2 v2 s2 k2=>⟨σ,S2,_,_,aB.ts<|k1.trans k2,s2,r2,by
   rintro y S3 yv H3 ⟨a,es,i,j,e1,e2,e3,e4,r3⟩ v3 s3 k3
   subst e1 e2
   obtain⟨xs,e5,t⟩:=s3.lst e3
   have kk:=s3.gM (o:=.lst<|xs.set j vv) e3
   refine{a,xs,i,j,(Rv.ts k3 _ v2).ref,v3.int,e5,by rw[t.len];exact e4,?_}
   exact hD.nx _ _ _ _ r3 (aB.ts<|((k1.trans k2).trans k3).trans kk) (s3.put (c:=.lst _) e3 {_,aE,RvAll.ts kk _<|t.set j<|Rv.ts (k2.trans k3) _ v1})<|((k1.trans k2).trans k3).trans kk,hZ.on (k1.trans k2)<|aB.ts<|k1.trans k2⟩,hZ.on k1<|aB.ts k1⟩,hZ.at aB⟩⟩
noncomputable def fJ(z:Str):List D:=z.cps.toList.map λc=>D.str ⟨#[c]⟩
def NU(t:TD):Bc:=λσ S R Z=>t σ S (λx S1=>∃z,x=.str z/\R {fJ z,λ_=>True} S1) Z
theorem Qv{t:TD}(h:DE K X l t):DI K X tg l (NU t):=⟨λy=>(PR (X:=y.cx)<|h.of y).mono <| by rintro τ H R ⟨σ,S,RI,Z,aB,hS,q,hR,hZ⟩;exact⟨σ,S,_,Z,aB,hS,q,by
 rintro x S1 v H1 ⟨z,e,r1⟩ v1 s1 k1;subst e;refine{z,v1.str,hR _ S1 _ H1 r1 (λi S2 H2 k2 s2 _=>{λd hd=>?_,λhl=>?_}) s1 k1};unfold fJ at hd;rw[zf,Array.getElem?_toList]at hd;cases q:z.cps[i]? with|none=>(rw[q]at hd;cases hd)|some c=>rw[q]at hd;cases hd;refine{(Array.getElem?_eq_some_iff.mp q).1,λx' H' ⟨e1,c',e2,e3⟩=>?_};rw[q]at e2;cases e2;subst e1 e3;exact{dQ _,.refl _,s2}
 unfold fJ at hl;rw[zb,yt]at hl;exact hl,hZ⟩⟩
def LO(t:TD):TD:=λσ S R Z=>t σ S (λx S1=>∃ss:List Str,uF S1 x (ss.map D.str)/\ss.length<4000/\R (.int (i4 ss).length) S1) Z
theorem lse{t:TD}(h:DE K X e t)(hm:X.mg "len"= none)(hm':X.mg "set"= none)(hp:autoParam (isPlain e=true) qQJ)(hg:autoParam (Gl X "len") qQJ)(ZK:autoParam (Gl X "set") qQJ)(he:autoParam (starEach [e] X.env=[(false,eval e X.env)]) qQJ) (he2:autoParam (starEach [Expr.Call (.Name "set" p') [e] [] pos'] X.env=[(false,eval (.Call (.Name "set" p') [e] [] pos') X.env)]) qQJ) (hK:autoParam (X.K=K) qQJ) (hc:autoParam (X.calm=true) qQJ): DE K X (.Call (.Name "len" p) [.Call (.Name "set" p') [e] [] pos'] [] pos) (LO t):=by subst hK;refine⟨λy=>(xN (X:=y.cx) (Fq (X:=y.cx) rfl rfl) hg hm aK (YO (uu (X:=y.cx) (Fp (X:=y.cx) rfl rfl rfl hc) ZK hm' P0 (YO (h.of y) Bx hp) (by decide) (by decide) he rfl) Bx rfl) (by decide) (by decide) he2 rfl).mono λτ H Q ⟨σ,S,R,Z,aB,hS,q,hR,hZ⟩=>?_⟩;refine{σ,S,_,Z,aB,hS,q,λx S1 v H1 ⟨ss,h1,hl,r1⟩ v1 s1 k1=>?_,hZ};obtain⟨a,xs,rfl,hq,t⟩:=h1.at s1 v1;rw[t.strs]at hq;exact{a,ss,rfl,hq,hl,λl hl=>{l,ss,rfl,aE,hR _ _ _ _ r1 (aP _) (s1.grow hl)<|k1.trans<|.new hl}}
end
theorem fC:bootBuiltins "sorted"= some (.builtin "sorted"):=by trivial
def Sub(S S':au):Prop:=∀b c,S b=some c->S' b=some c
theorem Sub.refl(S:au):Sub S S:=λ_ _ h=>h
theorem Sub.trans(a:Sub S S1)(b:Sub S1 S2):Sub S S2:=λp c h=>b p c<|a p c h
theorem Sub.new(h:S p=none):Sub S (S.set p c):=λb c' hb=>by rw[ag<|gZ hb h];exact hb
theorem Rs.sub{K:Frag}{S S':au}{H:Hp}(h:Rs K S' H)(s:Sub S S'):Rs K S H:=λa c e=>h a c<|s a c e
inductive Fo (S':au) (p:au->Prop):Prop where
 |mk (S:au) (h:Sub S S') (r:p S):Fo S' p
theorem fo(h:p S):Fo S p:={S,.refl S,h}
section
variable{P:Program}{w:World}{K:Frag}{mg:Str->Option Value}{base:Heap}
theorem vM.ok{x qual:Str}{st:Stmt}{f:Addr}{fd:FuncData}{N ps:List Str}{k:Nat}{sp:kI}(F:vM K x qual st f fd)(S:gw N ps<|ae st)(len:∀ds S R Z,sp ds S R Z->ds.length=ps.length) (mm:∀(gY:Value)(A:Around)(outer:List Env)(s:Shared)(H:Hp)(E:XK)(ds:List D)(S:au)(R:KD)(Z:KX),bV k (A.deeper<|envOfC qual (ae st) s.heap.objs.size f gY)->sp ds S R Z->∃t,GP K (kG (fH P w mg) P w K mg base N qual (ae st) f gY A outer s H E) true (aU st) t/\t {nx:=λ_ S'=>Fo S'<|R .av,rt:=λd S'=>Fo S'<|R d} (jA N ds) S λ_ C S'=>Fo S'<|Z C):bK P w K mg base (fH P w mg) (k+1) f fd ps (qv K sp):=by
 have F2:bK P w K mg base (fH P w mg) (k+1) f fd ps (qv K λds S R' Z'=>∃R Z,sp ds S R Z/\R'=(λd S'=>Fo S'<|R d)/\Z'=λC S'=>Fo S'<|Z C):=by refine F.okD S (by rintro ds S R Z ⟨R0,Z0,h,_⟩;exact len _ _ _ _ h) λgY A outer s H E ds S R Z hr ⟨R0,Z0,h,e1,e2⟩=>?_;subst e1 e2;exact mm gY A outer s H E ds S R0 Z0 hr h
 refine F2.imp <| by rintro vs H Q E ⟨ds,S,R,Z,v,hS,h,hR,hZ⟩;exact{ds,S,_,_,v,hS,⟨R,Z,h,rfl,rfl⟩,by rintro d S' u H' ⟨S2,sb,r⟩ rv rs kp;exact hR d S2 u H' r rv (rs.sub sb) kp,by rintro C S' H' ⟨S2,sb,r⟩ rs kp;exact hZ C S2 H' r (rs.sub sb) kp}
end
section
variable{K:Frag}{X:Cx}{b:Bool}
def Vd(t:mE):mE:=λDe σ S Z=>∃P:SD->au->Prop,t {De with nx:=λaG S'=>Fo S'<|P aG} σ S Z/\∀aG S',P aG S'->De.nx aG S'
theorem xy{st:Stmt}{t:mE}(h:DS K X b st t):DS K X b st (Vd t):=⟨λy=>(h.of y).mono <| by rintro D τ H ⟨σ,S,De,Z,aB,hS,⟨P,q,hP⟩,hD,hZ⟩;exact{σ,S,_,Z,aB,hS,q,{by rintro xw S1 Zw H1 ⟨S2,sb,r1⟩ a b c;exact hD.nx _ _ _ _ (hP _ _ r1) a (b.sub sb) c,hD.rt,hD.bk,hD.ct},hZ}⟩
def dFo(t:TD):TD:=λσ S R Z=>t σ S (λd S'=>Fo S'<|R d) Z
theorem vP{t:TD}(h:DE K X e t):DE K X e (dFo t):=⟨λy=>(h.of y).mono <| by rintro τ H Q ⟨σ,S,R,Z,aB,hS,q,hR,hZ⟩;exact{σ,S,_,Z,aB,hS,q,by rintro d S' v H' ⟨S2,sb,r⟩ rv rs kp;exact hR d S2 v H' r rv (rs.sub sb) kp,hZ}⟩
theorem qx(nd:N.Nodup)(h0:autoParam (N[0]?=some a) qQJ)(hx:autoParam (∀C s H ex pn,Loc (iY X N scope C s H ex pn).env.scope a/\(iY X N scope C s H ex pn).env.scope.names.lookup a=some .local) qJQ): ∀C s H ex pn,PG (iY X N scope C s H ex pn) (.Name a p) (iX 0):=λC s H ex pn=>qo (i:=0) nd h0 (hx C s H ex pn).1<|.inr (hx C s H ex pn).2
theorem ZL(nd:N.Nodup)(h0:autoParam (N[0]?=some a) qQJ)(h1:autoParam (N[1]?=some c) qQJ) (hx:autoParam (∀C s H ex pn,Loc (iY X N scope C s H ex pn).env.scope a/\(iY X N scope C s H ex pn).env.scope.names.lookup a=some .local) qJQ) (hy:autoParam (∀C s H ex pn,Loc (iY X N scope C s H ex pn).env.scope c/\(iY X N scope C s H ex pn).env.scope.names.lookup c=some .local) qJQ) (hl:∀env:Env,(assignEach [.Name a p,.Name c p'] env).length=2/\(assignEach [.Name a p,.Name c p'] env).findIdx? (·.1)=none/\(assignEach [.Name a p,.Name c p'] env).map (·.2)=assign (.Name a p) env::(assignEach [.Name c p'] env).map (·.2)/\(assignEach [.Name c p'] env).map (·.2)=assign (.Name c p') env::(assignEach [] env).map (·.2):=by intro _;exact⟨rfl,rfl,rfl,rfl⟩) (hK:autoParam (X.K=K) qQJ) (hc:autoParam (X.calm=true) qQJ): ∀C s H ex pn,PG (iY X N scope C s H ex pn) (.Tuple [.Name a p,.Name c p'] j p2) (Kv K 2<|qI (iX 0)<|qI (iX 1) Ku):=λC s H ex pn=>by subst hK;have e:=hl (iY X N scope C s H ex pn).env;exact GZ (X:=iY X N scope C s H ex pn) hc (qJ (qo (i:=0) nd h0 (hx C s H ex pn).1<|.inr (hx C s H ex pn).2) (qJ (qo (i:=1) nd h1 (hy C s H ex pn).1<|.inr (hy C s H ex pn).2) Dx e.2.2.2) e.2.2.1) e.1 e.2.1
end
theorem rC:∀{ss:List Str}{ay:List Value},Vals (ss.map V.str) ay->StrsAre ay ss|[],_,.nil=>.nil|z::ss,_,.cons r t=>by obtain⟨tk,rfl⟩:=r;exact .cons z tk<|rC t
end L2
namespace HT
open PySem PySem.Spec PyProof.Rows
end HT
namespace L2
open PySem PySem.Spec PyProof.Rows
inductive Ib (S:au):List D->List PyData->Prop where
 |nil:Ib S [] []
 |cons {d:D}{p:PyData}{ds:List D}{ps:List PyData} : Dl S d p->Ib S ds ps->Ib S (d::ds) (p::ps)
section
variable{K:Frag}
noncomputable def Ie(p:Str×D):D:=.tup [.str p.1,p.2]
noncomputable def rD(l:List<|Str×D):List (Key×D):=l.foldl (λc p=>dput c (.inr p.1) p.2) []
theorem DV:∀{kvs:List (Str×D)}{ys:List V},RvAll K H (kvs.map Ie) ys->∃kv:List (Str×V),Prs H ys kv/\∀c c',bQ K H c c'->bQ K H (kvs.foldl (λc p=>dput c (.inr p.1) p.2) c) (kv.foldl (λc p=>putK c (.inr p.1) p.2) c')|[],ys,h=>(by rw[h.nil];exact{[],{rfl,λi x p e=>(by cases i<;>cases e)},λc c' h=>h})|p::kvs,ys,h=>by obtain⟨y,ys,rfl,r1,r2⟩:=h.cons;obtain⟨b,zs,rfl,hb,tz⟩:=Rv.tup<|show Rv K H (.tup [.str p.1,p.2]) y from r1;obtain⟨v,u,rfl,rv,ru⟩:=tz.two;have ev:=rv.str;subst ev;obtain⟨kv,⟨hl,hp⟩,hf⟩:=DV r2;refine{(p.1,u)::kv,{by rw[zS,zS,hl],λi x q e1 e2=>?_},λc c' h=>hf _ _<|h.put (.inr p.1) ru};cases i with|zero=>(cases e1;cases e2;exact⟨b,rfl,hb⟩)|succ i=>exact hp i x q e1 e2
def Ve:List D->au->KD->Prop:=λds S R=>∃kvs:List (Str×D),ds=[.tup<|kvs.map Ie]/\∀p,S p=none->R (.ref p) (S.set p<|.cB<|rD kvs)
theorem Qw:i6 K (.type "dict") Ve:=by rintro X hK hc pins s σ H xs us Q I rx ⟨ds,S,R,r,hS,⟨kvs,e,h⟩,hR⟩;subst hK e;obtain⟨v,rfl,r1⟩:=r.one;obtain⟨a,ys,rfl,q,t⟩:=r1.tup;obtain⟨kv,hp,hf⟩:=DV t;refine BN hc pins s σ H _ us Q I rx {a,ys,kv,rfl,q,hp,λl hl=>?_};have kn:Kp X.K H (upd H l<|.dK<|DK kv):=.new hl;exact hR _ _ _ _ (h l<|hS.fresh hl) (gL l) (hS.new (c:=.cB<|rD kvs) hl {_,aE,(hf [] [] .nil).ts kn}) kn
theorem y7(kvs:List<|Key×D)(k k':Key)(d:D):bZ (dput kvs k d) k'=if k'=k then some d else bZ kvs k':=by
 unfold dput;by_cases hk:(kvs.any λkv=>decide<|kv.1=k)=true;rw[if_pos hk];unfold bZ;induction kvs with|nil=>(cases hk)|cons r kvs ih=>rw[zu,ya,ya];by_cases e:r.1=k;rw[if_pos e];by_cases e2:k'=k;rw[if_pos e2,show decide (r.1=k')=true from zC (e.trans e2.symm)];rfl;rw[if_neg e2,show decide (r.1=k')=false from zB λq=>e2<|q.symm.trans e];by_cases dM:(kvs.any λkv=>decide<|kv.1=k)=true;have:=ih dM;rw[if_neg e2]at this;exact this;have em:kvs.map (λkv=>if kv.1=k then (kv.1,d) else kv)=kvs:=(by(conv=>rhs;rw[<-List.map_id kvs]);refine zW λx hx=>?_;rw[if_neg λq=>dM<|List.any_eq_true.mpr {x,hx,zC q}];rfl);rw[em];rw[if_neg e];have dM:(kvs.any λkv=>decide<|kv.1=k)=true:=(by rw[yR,zB e,yV]at hk;exact hk);by_cases e3:r.1=k';rw[zC e3,if_neg λq=>e<|e3.trans q];rw[zB e3];exact ih dM
 rw[if_neg hk];unfold bZ;rw[List.find?_append];have hn:∀x∈kvs,x.1≠k:=λx hx q=>hk<|List.any_eq_true.mpr {x,hx,zC q};by_cases e:k'=k;subst e;rw[if_pos rfl,List.find?_eq_none.mpr λx hx=>by simp[hn x hx]];simp;rw[if_neg e];have:([(k,d)].find? λkv=>decide<|kv.1=k')=none:=by rw[ya,show decide (k=k')=false from zB λq=>e q.symm];rfl
 rw[this,Option.or_none]
theorem FE(l:List<|Str×D)(z:Str):(bZ (rD l)<|.inr z).isSome=l.any λp=>decide (p.1=z):=by
 have all:∀(l:List (Str×D))(c:List (Key×D)),(bZ (l.foldl (λc p=>dput c (.inr p.1) p.2) c)<|.inr z).isSome=((bZ c<|.inr z).isSome||l.any λp=>decide<|p.1=z):=by intro l;induction l with|nil=>intro c;simp|cons p l ih=>intro c;rw[yP,ih,y7,yR];by_cases e:p.1=z;rw[if_pos<|by rw[e],zC e];simp;rw[if_neg λq=>e (yK q).symm,zB e];simp
 exact(all l []).trans<|by rfl
def Vf(a:Addr)(kvs:List<|Str×V):uE:=λx y S R=>∃z,x=.str z/\y=.ref a/\R (.bl (kvs.lookup z).isSome) S
theorem ZM{X:Cx}{a b:Expr}{ta tb:TD}{pos:Pos}{w:World}{ad:Addr}{kvs:List<|Str×V}(d:J6 w K ad kvs)(ha:DE K X a ta)(hb:DE K X b tb)(hw:autoParam (X.w=w) qQJ)(hm:autoParam (behindInMarks .In b=false) qQ2)(hK:autoParam (X.K=K) qQJ): DE K X (.Compare a [.In] [b] pos) (Qd (Vf ad kvs) ta tb):=by refine⟨λy=>(DC (X:=y.cx) (r:=Lr K<|Vf ad kvs) ?_ (ha.of y) (hb.of y) hm).mono λ_ _ _ h=>h.op⟩;rintro pins s σ H x y' v u Q I rx ry ⟨d',e,S,R,r1,r2,hS,⟨z,e1,e2,h⟩,hR⟩;subst e1 e2;exact HJ (X:=y.cx) hw hK pins s σ H x y' v u Q I rx ry {z,ad,kvs,r1.str,r2.ref,d,hR.now hS h<|bY _}
end
structure Vh(k:Nat)(A:Around):Prop where
 dp:A.depth+3*k+5<recursionLimit
 un:A.units+16*k+200<cLine
structure FnH(P:Program)(w:World)(K:Frag)(mg:Str->Option Value)(base:Heap)(k:Nat)(f:Addr)(fd:FuncData)(ps:List Str)(sp:kI):Prop where
 len:∀ds S R Z,sp ds S R Z->ds.length=ps.length
 run:∀(A:Around)(outer:List Env)(s:Shared)(H:Hp)(args:Args)(us:List Value)(vs:List V)(Q:VK),Vh k A->xK P w K mg base A outer s H->BindsTo s fd args (ps.zip us)->Vals vs us->qv K sp vs H Q E0 ->
  codeAny (model P w) A (.call (.ref f) args) (CR (fH P w mg) outer P w H s Q E0) s
def PEg(pre:Nat)(X:Cx)(e:Expr)(t:TE):Prop:=∀(pins:List (Addr×Obj))(s:Shared)(σ:St)(H:Hp)(Q:VK),Inv X pins σ H s->pre<=s.toks->t σ H Q->wpAny (model X.prog X.w) X.A (eval e X.env) (λu s'=>EP X pins σ Q u s'/\1<=s'.toks) X.xe s
structure DEg(pre:Nat)(K:Frag)(X:Cx)(e:Expr)(t:TD):Prop where
 of:∀{b:Bool}(y:Ev X b),PEg pre y.cx e<|T K y.E t
theorem ZO{a b:Str}(h:a.cps.toList=b.cps.toList):a=b:=by obtain⟨⟨x⟩⟩:=a;obtain⟨⟨y⟩⟩:=b;cases h;rfl
end L2
namespace HT
open PySem PySem.Spec PyProof.Rows
end HT
namespace L2
open PySem PySem.Spec PyProof.Rows
section
variable{K:Frag}{X:Cx}
def Vi:GN:=λx ds S R=>∃a es fs,x=.ref a/\ds=[.tup fs]/\S a=some (.lst es)/\es.length+fs.length<=sizeLine/\R .av (S.set a<|.lst<|es++fs)
theorem FF:NL K "list.extend" Vi:=by rintro X hK pins s σ H x xs v us Q I rx rs ⟨d,ds,S,R,r1,r2,hS,⟨a,es,fs,e1,e2,e3,hl,h⟩,hR⟩;subst e1 e2;obtain⟨w0,rfl,q2⟩:=r2.one;obtain⟨zs,e5,t⟩:=hS.lst e3;obtain⟨p,ys,rfl,q,t2⟩:=q2.tup;exact B6 pins s σ H x _ v us Q I rx rs {a,p,zs,ys,r1.ref,rfl,e5,q,by rw[t.len,t2.len];exact hl,hR.put hS e3 h fI<|t.app t2}
end
section
variable{K:Frag}{X:Cx}{E:XK}
structure DEx(K:Frag)(X:Cx)(E:XK)(e:Expr)(t:TD):Prop where
 of:∀(y:Ev X true),y.E=(λ_=>E)->dj y.cx E->PE y.cx e (T K y.E t)
structure DAx(K:Frag)(X:Cx)(E:XK)(es:List Expr)(t:jh):Prop where
 of:∀(y:Ev X true),y.E=(λ_=>E)->dj y.cx E->PA y.cx es (Ta K y.E t)
structure DSx(K:Frag)(X:Cx)(E:XK)(b:List Stmt)(t:mE):Prop where
 of:∀(y:Ev X true),y.E=(λ_=>E)->dj y.cx E->Ds y.cx b (Tl K y.E t)
variable{N:List Str}{src:List (Option Nat)}{scope:Scope}{tg iter elt:Expr}{ifs:List Expr}{ti:Bc}{g:TG}{gd:y1}{tc:my}{te:TD}
end
open PySem.Builtin PySem.Builtin.Str
structure M3(X:Cx)(o:Expr)(m:Str)(apos:Pos)(e f g:Expr)(aO:Pos):Prop where
 base:attributeBase o m X.env (eval o X.env)=eval o X.env
 GJ:((backTo aO<|starEach [e,f,g] X.env).all (λx=>!x.1)&&(backToKw aO<|keywordEach [] X.env).all (λx=>x.1.isSome)
  && decide (([e,f,g]:List Expr).length+([]:List Keyword).length+(if ([]:List Keyword).isEmpty then 0 else 1)<30))=true
 line:(apos.endLine==aO.line)=true
 trees:backTo aO (starEach [e,f,g] X.env)=[(false,eval e X.env),(false,eval f X.env),(false,eval g X.env)]
section
variable{X:Cx}{t:TE}
def PAg(pre:Nat)(X:Cx)(es:List Expr)(t:TA):Prop:=∀(pos:Pos)(pins:List (Addr×Obj))(s:Shared)(σ:St)(H:Hp)(Q:List V->Hp->Prop),Inv X pins σ H s->pre<=s.toks->t σ H Q->wpAny (model X.prog X.w) X.A (spliced<|backTo pos<|starEach es X.env) (AP X pins σ Q) X.xe s
end
section
variable{K:Frag}{X:Cx}
structure DAg(pre:Nat)(K:Frag)(X:Cx)(es:List Expr)(t:jh):Prop where
 of:∀{b:Bool}(y:Ev X b),PAg pre y.cx es<|Ta K y.E t
end
structure Gh(a₀:Array Keyed)(g:Nat->Nat)(xs:Array Keyed):Prop where
 at_:∀k,k<a₀.size->xs[k]?=a₀[g k]?
 lt:∀k,k<a₀.size->g k<a₀.size
 inj:∀i j,i<a₀.size->j<a₀.size->g i=g j->i=j
def Log(κ:KeyKind)(a₀:Array Keyed)(i j:Nat):Prop:=κ.klt (KK κ a₀ i) (KK κ a₀ j)\/(KK κ a₀ i=KK κ a₀ j/\i<j)
def Ca(κ:KeyKind)(a₀:Array Keyed)(g:Nat->Nat)(k:Nat):Prop:=∀i j,i<j->j<k->Log κ a₀ (g i) (g j)
def Xe(κ:KeyKind)(a₀:Array Keyed)(g:Nat->Nat)(k:Nat):Prop:=∀i j,i<j->j<k->Log κ a₀ (g j) (g i)
def FG(g:Nat->Nat)(m n:Nat):Prop:=∀k,m<=k->k<n->g k=k
noncomputable def Ig(g:Nat->Nat)(i j k:Nat):Nat:=if i<=k/\k<j then g (i+j-1-k) else g k
noncomputable def LP(g:Nat->Nat)(src l k:Nat):Nat:=if k=l then g src else if l<k/\k<=src then g (k-1) else g k
section
variable{κ:KeyKind}{a₀ xs:Array Keyed}{g:Nat->Nat}
theorem Log.kle(h:Log κ a₀ i j):κ.kle (KK κ a₀ i) (KK κ a₀ j):=by rcases h with h|⟨h,_⟩;exact KeyOrd.kle_of_klt h;rw[h];exact KeyOrd.kle_refl _
theorem NV(h:κ.kle (KK κ a₀ i)<|KK κ a₀ j)(hl:i<j):Log κ a₀ i j:=by cases q:κ.blt (KK κ a₀ i) (KK κ a₀ j) with|true=>exact .inl q|false=>exact .inr {KeyOrd.kle_antisymm h q,hl}
theorem Gh.low(h:Gh a₀ g xs)(t:FG g m a₀.size)(hm:m<=a₀.size)(hi:i<m):g i<m:=by refine Nat.lt_of_not_le λq=>?_;have h1:=h.lt i (by lia);have h2:=h.inj (g i) i h1 (by lia)<|t (g i) q h1;lia
theorem Gh.key(h:Gh a₀ g xs)(hk:k<a₀.size):KK κ xs k=KK κ a₀ (g k):=KK_congr<|h.at_ k hk
theorem Gh.mirror(h:Gh a₀ g xs)(hs:xs.size=a₀.size)(hj:j<=a₀.size):Gh a₀ (Ig g i j) (mirror xs i j<|(j-i)/2) where
 at_:=λk hk=>by
  rw[getElem?_mirror_all<|by lia]
  unfold Ig
  by_cases q:i<=k/\k<j
  ·rw[if_pos q,if_pos q];exact h.at_ _<|by lia
  ·rw[if_neg q,if_neg q];exact h.at_ _ hk
 lt:=λk hk=>by
  unfold Ig
  by_cases q:i<=k/\k<j
  ·rw[if_pos q];exact h.lt _<|by lia
  ·rw[if_neg q];exact h.lt _ hk
 inj:=λa b ha hb e=>by
  unfold Ig at e
  by_cases q:i<=a/\a<j<;>by_cases r:i<=b/\b<j
  ·rw[if_pos q,if_pos r]at e;have:=h.inj _ _ (by lia) (by lia) e;lia
  ·rw[if_pos q,if_neg r]at e;have:=h.inj _ _ (by lia) (by lia) e;lia
  ·rw[if_neg q,if_pos r]at e;have:=h.inj _ _ (by lia) (by lia) e;lia
  ·rw[if_neg q,if_neg r]at e;exact h.inj _ _ ha hb e
theorem Gh.bubble(h:Gh a₀ g xs)(hs:xs.size=a₀.size)(hl:l<=src)(hj:src<a₀.size):Gh a₀ (LP g src l) (bubble xs src<|src-l) where
 at_:=λk hk=>by
  rw[getElem?_bubble (by lia) _<|by lia,show src-(src-l)=l by lia]
  unfold LP
  by_cases q:k=l
  ·rw[if_pos q,if_pos q];exact h.at_ _ hj
  ·rw[if_neg q,if_neg q]
   by_cases r:l<k/\k<=src
   ·rw[if_pos r,if_pos r];exact h.at_ _<|by lia
   ·rw[if_neg r,if_neg r];exact h.at_ _ hk
 lt:=λk hk=>by
  unfold LP
  by_cases q:k=l
  ·rw[if_pos q];exact h.lt _ hj
  ·rw[if_neg q]
   by_cases r:l<k/\k<=src
   ·rw[if_pos r];exact h.lt _<|by lia
   ·rw[if_neg r];exact h.lt _ hk
 inj:=λa b ha hb e=>by
  unfold LP at e
  repeat' split at e
  all_goals (have:=h.inj _ _ (by lia) (by lia) e;lia)
theorem iF(h:i<=k/\k<j):Ig g i j k=g (i+j-1-k):=by unfold Ig;rw[if_pos h]
theorem gx(h:¬(i<=k/\k<j)):Ig g i j k=g k:=by unfold Ig;rw[if_neg h]
end
section
variable{prog:Program}{w:World}{A:Around}{E:Value->Shared->Prop}{s:Shared}{a₀:Array Keyed}{κ:KeyKind}
theorem NW{st:SortSt}{g:Nat->Nat}{a top:Nat}{Q:AscSt->SortSt->Prop}(hO:κ.OneLt)(h0:KeysOf κ a₀)(ht:top<=a₀.size)(h1:1<=a)(h2:a<=top)(B:SBase a₀ st)(G:Gh a₀ g<|arrOf st)(T:FG g a a₀.size)(U:Ca κ a₀ g a) (h:∀n,a<=n->n<=top->Ca κ a₀ g n->(n=top\/κ.klt (KK κ a₀<|g n) (KK κ a₀<|g<|n-1))->Q (none,n) st):wpS (model prog w) A E s (ascLoop a top) Q st:=by
 unfold ascLoop;refine wpS_forRange (I:=λx c t=>t=st/\c=(none,x)/\Ca κ a₀ g x) ?_ ?_ ⟨rfl,rfl,U⟩;rintro x c t GR LK ⟨rfl,rfl,V⟩;dsimp only;refine wpS_bind<|wpS_ltKK hO B h0 (by lia) (by lia) ?_;rw[G.key<|by lia,G.key<|by lia];cases q:κ.blt (KK κ a₀<|g x) (KK κ a₀<|g<|x-1) with|true=>exact wpS_pure (h x GR (by lia) V<|.inr q)|false=>refine wpS_pure {rfl,rfl,λi j lQ hj=>?_};rcases Nat.lt_or_ge j x with z|z;exact V i j lQ z;obtain rfl:j=x:=(by lia);have lw:=G.low (m:=j) (λk hk dM=>T k (by lia) dM) (by lia) lQ;rw[T j GR<|by lia]at q⊢;refine NV ?_ lw;rcases Nat.lt_or_ge i (j-1) with y|y;exact KeyOrd.kle_trans (V i (j-1) y<|by lia).kle q;obtain rfl:i=j-1:=(by lia);exact q
 rintro c t ⟨rfl,rfl,V⟩;rw[show max a top=top by lia]at V⊢;exact h top h2 (zp _) V<|.inl rfl
theorem Ih{st:SortSt}{g:Nat->Nat}{n top:Nat}{Q:Option Nat->SortSt->Prop}(hO:κ.OneLt)(h0:KeysOf κ a₀)(ht:top<=a₀.size)(h1:1<=n)(h2:n<=top)(B:SBase a₀ st)(G:Gh a₀ g<|arrOf st)(T:FG g n a₀.size)(D:Xe κ a₀ g n) (h:∀m g' eZ,SBase a₀ eZ->Gh a₀ g' (arrOf eZ)->FG g' m a₀.size->1<=m->m<=top->Ca κ a₀ g' m->Q (some m) eZ):wpS (model prog w) A E s (tail3 n top) Q st:=by
 unfold tail3;refine wpS_bind<|wpS_reverse ?_;have B':SBase a₀ (setArr st<|mirror (arrOf st) 0 n<|(n-0)/2):=B.setArr<|mirror_perm _ _ _ _;have G':Gh a₀ (Ig g 0 n) (arrOf<|setArr st<|mirror (arrOf st) 0 n<|(n-0)/2):=G.mirror B.size (by lia);have T':FG (Ig g 0 n) n a₀.size:=λk hk dM=>by rw[gx<|by lia];exact T k hk dM
 refine wpS_bind<|NW hO h0 ht h1 h2 B' G' T' (λi j lQ hj=>?_) λm hm1 NX V _=>wpS_pure<|h m _ _ B' G' (λk hk dM=>T' k (by lia) dM) (by lia) NX V;rw[iF<|by lia,iF<|by lia];exact D _ _ (by lia)<|by lia
structure Ka(κ:KeyKind)(a₀:Array Keyed)(g:Nat->Nat)(x q:Nat):Prop where
 le:q+1<=x
 tl:FG g (x-(q+1)) a₀.size
 dn:∀i j,i<j->j<x->i<x-(q+1)->Log κ a₀ (g j) (g i)
 eq:∀i,x-(q+1)<=i->i<x->KK κ a₀ (g i)=KK κ a₀ (g<|x-1)
theorem Ka.full(F:Ka κ a₀ g x q)(hx:x<=a₀.size):Xe κ a₀ (Ig g (x-(q+1)) x) x:=λi j lQ hj=>by have le:=F.le;by_cases hi:i<x-(q+1);rw[gx (k:=i)<|by lia];by_cases Xf:j<x-(q+1);rw[gx<|by lia];exact F.dn i j lQ hj hi;rw[iF<|by lia];exact F.dn i _ (by lia) (by lia) hi;rw[iF<|by lia,iF<|by lia];refine .inr {(F.eq _ (by lia)<|by lia).trans (F.eq _ (by lia)<|by lia).symm,?_};rw[F.tl _ (by lia)<|by lia,F.tl _ (by lia)<|by lia];lia
theorem Ka.NY(F:Ka κ a₀ g x 0):Xe κ a₀ g x:=λi j lQ hj=>F.dn i j lQ hj<|by lia
theorem Ka.next(D:Xe κ a₀ g x)(T:FG g x a₀.size)(hx:x<a₀.size)(h1:1<=x)(hl:κ.klt (KK κ a₀<|g x)<|KK κ a₀<|g<|x-1):Ka κ a₀ g (x+1) 0 where
 le:=by lia
 tl:=λk hk dM=>T k (by lia) dM
 dn:=λi j lQ hj hi=>by
  by_cases Xf:j<x
  ·exact D i j lQ Xf
  ·obtain rfl:j=x:=by lia
   refine .inl ?_
   by_cases q:i=j-1
   ·rw[q];exact hl
   ·exact KeyOrd.klt_of_klt_of_kle hl (D i (j-1) (by lia)<|by lia).kle
 eq:=λi hi hj=>by rw[show i=x+1-1 by lia]
theorem Qx{st:SortSt}{g:Nat->Nat}{n top:Nat}{Q:DescSt->SortSt->Prop}(hO:κ.OneLt)(h0:KeysOf κ a₀)(ht:top<=a₀.size)(h1:1<=n)(h2:n<=top)(B:SBase a₀ st)(G:Gh a₀ g<|arrOf st)(F:Ka κ a₀ g n 0) (h:∀m q g' eZ,SBase a₀ eZ->Gh a₀ g' (arrOf eZ)->n<=m->m<=top->Ka κ a₀ g' m q->Q (none,m,q) eZ):wpS (model prog w) A E s (descLoop n top) Q st:=by
 unfold descLoop;refine wpS_forRange (I:=λx c t=>∃q g',c=(none,x,q)/\SBase a₀ t/\Gh a₀ g' (arrOf t)/\Ka κ a₀ g' x q) ?_ ?_ {0,g,rfl,B,G,F};rintro x c t GR LK ⟨q,g',rfl,B',G',F'⟩;have le:=F'.le;dsimp only;refine wpS_bind<|wpS_ltKK hO B' h0 (by lia) (by lia) ?_;rw[G'.key<|by lia,G'.key<|by lia];cases hl:κ.blt (KK κ a₀<|g' x) (KK κ a₀<|g'<|x-1) with|true=>(simp only[if_true];by_cases hq:q>0;rw[if_pos hq];refine wpS_bind<|wpS_reverse<|wpS_pure {0,_,rfl,B'.setArr<|mirror_perm _ _ _ _,G'.mirror B'.size<|by lia,?_};refine .next (F'.full<|by lia) (λk hk dM=>?_) (by lia) (by lia) ?_;rw[gx<|by lia];exact F'.tl k (by lia) dM;rw[gx<|by lia,iF<|by lia,F'.eq (x-(q+1)+x-1-(x-1)) (by lia)<|by lia];exact hl;rw[if_neg hq];obtain rfl:q=0:=(by lia);exact wpS_pure {0,g',rfl,B',G',.next F'.NY (λk hk dM=>F'.tl k (by lia) dM) (by lia) (by lia) hl})|false=>simp only[Bool.false_eq_true,if_false];refine wpS_bind<|wpS_ltKK hO B' h0 (by lia) (by lia) ?_;rw[G'.key<|by lia,G'.key<|by lia];cases hg:κ.blt (KK κ a₀<|g'<|x-1) (KK κ a₀<|g' x) with|true=>exact wpS_pure (h x q g' t B' G' GR (by lia) F')|false=>have e:KK κ a₀ (g' x)=KK κ a₀ (g'<|x-1):=KeyOrd.kle_antisymm hg hl;refine wpS_pure {q+1,g',rfl,B',G',{by lia,λk hk dM=>F'.tl k (by lia) dM,λi j lQ hj hi=>?_,λi hi hj=>?_}};by_cases Xf:j<x;exact F'.dn i j lQ Xf (by lia);obtain rfl:j=x:=(by lia);have:=F'.dn i (j-1) (by lia) (by lia) (by lia);rcases this with z|⟨_,z⟩;exact .inl (by rw[e];exact z);rw[F'.tl (j-1) (by lia)<|by lia]at z;have:=G'.low (m:=j-(q+1)) F'.tl (by lia) (i:=i) (by lia);lia;rw[show x+1-1=x by lia];by_cases Qq:i=x;rw[Qq];rw[e];exact F'.eq i (by lia)<|by lia
 rintro c t ⟨q,g',rfl,B',G',F'⟩;rw[show max n top=top by lia]at F'⊢;exact h top q g' t B' G' h2 (zp _) F'
theorem Ii{st:SortSt}{g:Nat->Nat}{n top:Nat}{Q:Option Nat->SortSt->Prop}(hO:κ.OneLt)(h0:KeysOf κ a₀)(ht:top<=a₀.size)(h2:n+1<=top)(B:SBase a₀ st)(G:Gh a₀ g<|arrOf st)(F:Ka κ a₀ g (n+1) 0) (h:∀m g' eZ,SBase a₀ eZ->Gh a₀ g' (arrOf eZ)->FG g' m a₀.size->1<=m->m<=top->Ca κ a₀ g' m->Q (some m) eZ):wpS (model prog w) A E s (descPart n top) Q st:=by
 unfold descPart;refine wpS_bind<|wpS_lift<|wpAny_rule {rfl,?_};refine wpS_bind<|Qx hO h0 ht (by lia) h2 B G F λm q g' eZ B' G' hm1 NX F'=>?_;have le:=F'.le;dsimp only;by_cases hq:q>0;rw[if_pos hq];refine wpS_bind<|wpS_reverse<|Ih hO h0 ht (by lia) NX (B'.setArr<|mirror_perm _ _ _ _) (G'.mirror B'.size<|by lia) (λk hk dM=>?_) (F'.full<|by lia) h;rw[gx<|by lia];exact F'.tl k (by lia) dM;rw[if_neg hq];obtain rfl:q=0:=by lia
 exact Ih hO h0 ht (by lia) NX B' G' (λk hk dM=>F'.tl k (by lia) dM) F'.NY h
theorem Vj{st:SortSt}{g:Nat->Nat}{top:Nat}{Q:Option Nat->SortSt->Prop}(hO:κ.OneLt)(h0:KeysOf κ a₀)(ht:top<=a₀.size)(h1:1<=top)(B:SBase a₀ st)(G:Gh a₀ g<|arrOf st)(T:FG g 0 a₀.size) (h:∀m g' eZ,SBase a₀ eZ->Gh a₀ g' (arrOf eZ)->FG g' m a₀.size->1<=m->m<=top->Ca κ a₀ g' m->Q (some m) eZ):wpS (model prog w) A E s (countRun' 0 top) Q st:=by
 rw[countRun0_eq];refine wpS_bind<|NW hO h0 ht (zp 1) h1 B G (λk hk dM=>T k (by lia) dM) (λi j lQ hj=>by lia) λn NZ Nw U hor=>?_;dsimp only;have Tn:∀m,FG g m a₀.size:=λm k hk dM=>T k (by lia) dM;by_cases N1:n=top;rw[if_pos<|by simpa using N1];exact wpS_pure<|h n g st B G (Tn n) NZ Nw U;rw[if_neg<|by simpa using N1];have eC:=hor.resolve_left N1;by_cases Xg:n>1;rw[if_pos Xg];refine wpS_bind<|wpS_ltKK hO B h0 (by lia) (by lia) ?_;rw[G.key<|by lia,G.key<|by lia];cases hr:κ.blt (KK κ a₀<|g 0) (KK κ a₀<|g<|n-1) with|true=>exact wpS_pure (h n g st B G (Tn n) NZ Nw U)|false=>simp only[Bool.false_eq_true,if_false];have all:∀k,k<n->KK κ a₀ (g k)=KK κ a₀ (g<|n-1):=λk hk=>(by have a1:κ.kle (KK κ a₀<|g 0) (KK κ a₀<|g k):=(by by_cases z:k=0;rw[z];exact KeyOrd.kle_refl _;exact(U 0 k (by lia) hk).kle);have a2:κ.kle (KK κ a₀<|g k) (KK κ a₀<|g<|n-1):=(by by_cases z:k=n-1;rw[z];exact KeyOrd.kle_refl _;exact(U k (n-1) (by lia)<|by lia).kle);exact KeyOrd.kle_antisymm a2<|KeyOrd.kle_trans hr a1);refine wpS_bind<|wpS_reverse<|Ii hO h0 ht (by lia) (B.setArr<|mirror_perm _ _ _ _) (G.mirror B.size<|by lia) ?_ h;refine .next (λi j lQ hj=>?_) (λk hk dM=>by rw[gx<|by lia];exact T k (by lia) dM) (by lia) (by lia) ?_;rw[iF<|by lia,iF<|by lia];refine .inr {(all _<|by lia).trans (all _<|by lia).symm,?_};rw[T _ (by lia)<|by lia,T _ (by lia)<|by lia];lia;rw[gx<|by lia,iF<|by lia,all (0+n-1-(n-1))<|by lia];exact eC
 rw[if_neg Xg];obtain rfl:n=1:=by lia
 exact Ii hO h0 ht (by lia) B G (.next (λi j lQ hj=>by lia) (Tn 1) (by lia) (by lia) eC) h
theorem Vk{st:SortSt}{g:Nat->Nat}{n ok:Nat}{Q:Bool->SortSt->Prop}(hO:κ.OneLt)(h0:KeysOf κ a₀)(hn:n<=a₀.size)(aM:ok<=n)(B:SBase a₀ st)(G:Gh a₀ g<|arrOf st)(T:FG g ok a₀.size)(U:Ca κ a₀ g ok) (h:∀g' eZ,SBase a₀ eZ->Gh a₀ g' (arrOf eZ)->Ca κ a₀ g' n->Q true eZ):wpS (model prog w) A E s (binarySort' 0 n ok) Q st:=by
 rw[binarySort'_eq];simp only[Nat.zero_add];refine wpS_bind<|wpS_mono (wpS_forRange (I:=λk c t=>c=(none,())/\∃g',SBase a₀ t/\Gh a₀ g' (arrOf t)/\FG g' k a₀.size/\Ca κ a₀ g' (min k n)) (Q:=λc t=>c=(none,())/\∃g',SBase a₀ t/\Gh a₀ g' (arrOf t)/\Ca κ a₀ g' n) ?_ ?_ ?_) ?_;rintro k c t Kb dM ⟨rfl,g',B',G',T',V⟩;rw[show min k n=k by lia]at V;have hk:k<a₀.size:=by lia
 refine wpS_bind<|wpS_mono (wpS_forRange (I:=λx c t2=>t2=t/\∃l r,c=(none,l,r)/\l<=r/\r<=k/\r-l<=k-x/\(∀i,i<l->κ.kle (KK κ a₀<|g' i) (KK κ a₀<|g' k))/\(∀i,r<=i->i<k->κ.klt (KK κ a₀<|g' k) (KK κ a₀<|g' i))) (Q:=λc t2=>t2=t/\∃l r,c=(none,l,r)/\l<=k/\(∀i,i<l->κ.kle (KK κ a₀<|g' i) (KK κ a₀<|g' k))/\(∀i,l<=i->i<k->κ.klt (KK κ a₀<|g' k) (KK κ a₀<|g' i))) ?_ ?_ ?_) ?_;rintro x c t2 _ hxk ⟨rfl,l,r,rfl,Ij,ZP,hm,lo,hi⟩;dsimp only;by_cases Xh:l>=r;rw[if_pos Xh];obtain rfl:l=r:=by lia
 exact wpS_pure ⟨rfl,l,l,rfl,ZP,lo,hi⟩;rw[if_neg Xh];refine wpS_bind<|wpS_ltKK hO B' h0 hk (by lia) ?_;rw[G'.key hk,G'.key<|by lia];cases hl:κ.blt (KK κ a₀<|g' k) (KK κ a₀<|g'<|(l+r)/2) with|true=>refine wpS_pure {rfl,l,(l+r)/2,rfl,by lia,by lia,by lia,lo,λi a b=>?_};by_cases z:i=(l+r)/2;rw[z];exact hl;exact KeyOrd.klt_of_klt_of_kle hl (V _ _ (by lia) b).kle|false=>refine wpS_pure {rfl,(l+r)/2+1,r,rfl,by lia,by lia,by lia,λi a=>?_,hi};by_cases z:i=(l+r)/2;rw[z];exact hl;exact KeyOrd.kle_trans (V i ((l+r)/2) (by lia)<|by lia).kle hl
 rintro c t2 ⟨rfl,l,r,rfl,Ij,ZP,hm,lo,hi⟩;obtain rfl:l=r:=by lia
 exact⟨rfl,l,l,rfl,ZP,lo,hi⟩;exact{rfl,0,k,rfl,by lia,by lia,by lia,λi hi=>by lia,λi a b=>by lia};rintro c t2 ⟨rfl,l,r,rfl,Qy,lo,hi⟩;show wpS _ _ _ _ (do moveDown' k l;pure (ForInStep.yield (none,()))) _ _;rw[moveDown'_eq];refine wpS_bind<|wpS_modify<|wpS_pure {rfl,_,B'.setArr<|bubble_perm _ _ _,G'.bubble B'.size Qy hk,λx GR LK=>?_,?_};show LP g' k l x=x;unfold LP;rw[if_neg<|by lia,if_neg<|by lia];exact T' x (by lia) LK;rw[show min (k+1) n=k+1 by lia];have lw:∀i,i<k->g' i<k:=λi q=>G'.low T' (by lia) q;have ek:=T' k (zp _) hk;intro i j lQ hj;show Log κ a₀ (LP g' k l i) (LP g' k l j);unfold LP;by_cases i1:i=l;rw[if_pos i1,if_neg<|by lia,if_pos<|by lia];exact .inl<|hi _ (by lia) (by lia);rw[if_neg i1];by_cases j1:j=l;rw[if_pos j1,if_neg<|by lia];have h1:=lo i (by lia);have h2:=lw i (by lia);rw[ek]at h1⊢;exact NV h1 h2;rw[if_neg j1];by_cases i2:l<i/\i<=k<;>by_cases j2:l<j/\j<=k;rw[if_pos i2,if_pos j2];exact V _ _ (by lia) (by lia);lia;rw[if_neg i2,if_pos j2];exact V _ _ (by lia) (by lia);rw[if_neg i2,if_neg j2];exact V _ _ (by lia) (by lia);rintro c t ⟨hc,g',B',G',T',V⟩;refine{hc,g',B',G',?_};rwa [show min (max (max ok 1) n) n=n by lia]at V;refine{rfl,g,B,G,λk hk dM=>T k (by lia) dM,λi j lQ hj=>?_};exact U i j lQ (by lia);rintro c t ⟨rfl,g',B',G',V⟩;exact wpS_pure<|h g' t B' G' V
def Qz(κ:KeyKind)(a₀:Array Keyed)(st:SortSt):Prop:=failedOf st=none/\pendingOf st=#[(0,a₀.size,0)]/\∃g,(arrOf st).size=a₀.size/\Gh a₀ g (arrOf st)/\Ca κ a₀ g a₀.size
theorem QA{st:SortSt}{Q:Unit->SortSt->Prop}(hO:κ.OneLt)(h0:KeysOf κ a₀)(B:SBase a₀ st)(e0:arrOf st=a₀)(h2:2<=a₀.size)(p5:a₀.size<64) (h:∀eZ g,failedOf eZ=none->(arrOf eZ).size=a₀.size->Gh a₀ g (arrOf eZ)->Ca κ a₀ g a₀.size->Q () eZ):wpS (model prog w) A E s sortRuns' Q st:=by
 have G:Gh a₀ (λk=>k) (arrOf st):={λk _=>by rw[e0],λk hk=>hk,λ_ _ _ _ e=>e};have fin:∀(t:SortSt)(g:Nat->Nat),SBase a₀ t->Gh a₀ g (arrOf t)->Ca κ a₀ g a₀.size->Qz κ a₀ (setPending t<|(pendingOf t).push (0,a₀.size,0)):=λt g B' G' U=>{B'.failed,by show(pendingOf t).push _=_;rw[B'.pend];rfl,g,B'.size,G',U};rw[sortRuns'_eq];refine wpS_bind<|wpS_get ?_;dsimp only;have hm:minRun' a₀.size a₀.size 0=a₀.size:=by obtain⟨f,hf⟩:∃f,a₀.size=f+1:={a₀.size-1,by lia};have:minRun' (f+1) a₀.size 0=a₀.size:=(by rw[minRun'_succ,if_pos p5];rfl);rwa [<-hf]at this
 simp only[B.size,hm];refine wpS_bind<|wpS_mono (wpS_forRange (I:=λx c t=>(x=0/\c=(none,0)/\t=st)\/(1<=x/\c=(none,a₀.size)/\Qz κ a₀ t)) (Q:=λc t=>c=(none,a₀.size)/\Qz κ a₀ t) ?_ ?_<|.inl ⟨rfl,rfl,rfl⟩) ?_;rintro x c t _ hx (⟨rfl,rfl,rfl⟩|⟨GR,rfl,D⟩);dsimp only;rw[if_neg<|by lia];simp only[Nat.sub_zero,Nat.min_self,Nat.zero_add];refine wpS_bind<|Vj hO h0 (zp _) (by lia) B G (λ_ _ _=>rfl) λm g' t2 B2 G2 T2 hm1 NX U2=>?_;dsimp only;by_cases eC:m<a₀.size;rw[if_pos eC];refine wpS_bind<|wpS_lift<|wpAny_rule {rfl,?_};refine wpS_bind<|Vk hO h0 (zp _) NX B2 G2 T2 U2 λg3 t3 B3 G3 U3=>?_;simp only[Bool.not_true,Bool.false_eq_true,if_false];refine wpS_bind<|wpS_get ?_;rw[show(pendingOf t3).back?=none by rw[B3.pend];rfl];dsimp only;exact wpS_bind<|wpS_modify<|wpS_pure<|.inr {by lia,rfl,fin t3 g3 B3 G3 U3};rw[if_neg eC];obtain rfl:m=a₀.size:=by lia
 refine wpS_bind<|wpS_get ?_;rw[show(pendingOf t2).back?=none by rw[B2.pend];rfl];dsimp only;exact wpS_bind<|wpS_modify<|wpS_pure<|.inr {by lia,rfl,fin t2 g' B2 G2 U2};dsimp only;rw[if_pos<|zp _];exact wpS_pure ⟨rfl,D⟩;rintro c t (⟨hx,_,_⟩|⟨_,hc,D⟩);lia;exact⟨hc,D⟩;rintro c t ⟨rfl,D⟩;dsimp only;obtain⟨d1,d2,g,d3,d4,d5⟩:=D;refine wpS_bind<|wpS_mono (wpS_forRange (I:=λ_ c t2=>t2=t/\c=(none,())) (Q:=λc t2=>t2=t/\c=(none,())) ?_ (λ_ _ z=>z) ⟨rfl,rfl⟩) ?_;rintro x c t2 _ _ ⟨rfl,rfl⟩;refine wpS_bind<|wpS_get ?_;rw[if_pos<|by rw[d2];exact zp 1];exact wpS_pure ⟨rfl,rfl⟩;rintro c t2 ⟨rfl,rfl⟩;exact wpS_pure<|h _ g d1 d3 d4 d5
end
noncomputable abbrev LQ(X:Cx)(qual:Str)(scope:Scope)(L f:Addr)(cv:Value):Env:=envX qual scope L f cv<|clOf X.env.cells scope.names
noncomputable def Si(X:Cx)(N:List Str)(qual:Str)(scope:Scope)(f:Addr)(cv:Value)(A:Around)(s:Shared)(H:Hp):Cx:={X with A:=A.deeper<|LQ X qual scope s.heap.objs.size f cv,N:=N,dG:=s,vi:=H,env:=LQ X qual scope s.heap.objs.size f cv,outer:=X.stack,stack:=LQ X qual scope s.heap.objs.size f cv::X.stack,ex:=[],fn:=λ_=>false,calm:=true,pn:=[],xe:=λ_ _=>False}
noncomputable abbrev y8(X:Cx)(qual:Str)(params:Arguments)(body:Expr)(scope:Scope)(pm cv mh:Value):Obj:={cls:=.type "function",data:=.func<|kla_fn "<lambda>" qual params body scope (clOf X.env.cells scope.names) pm cv mh}
section
variable{X:Cx}{pins:List (Addr×Obj)}{σ:St}{H:Hp}{s:Shared}{N:List Str}{src:List (Option Nat)}{scope:Scope}{params:Arguments}{body:Expr}{qual p:Str}{pm cv mh u:Value}{f:Addr}{A:Around}{v:V}{te:TE}{Q:VK}
theorem LR(I:Inv X pins σ H s)(S:bM X N src scope)(LS:N[0]?=some p)(hp:scope.names.lookup p=some .local)(h0:src[0]?=some none)(xx:A.frames=some X.stack)(hh:A.handled=none)(r:RelV v u) (QB:h₁.Ns s.heap.objs.size λx=>[(p,u)].reverse.lookup x) (old:∀b o,s.heap.get? b=some o->h₁.get? b=some o): Inv (Si X N qual scope f cv A s H) [] ((pick σ src).set 0<|some v) H {s with heap:=h₁,toks:=tk}:=by
 have iZ:∀x c,(clOf X.env.cells scope.names).lookup x=some c->X.env.cells.lookup x=some c:=qX X.env.cells scope.names [] (by intro x c h;simp at h);have KL:∀b:Addr,b∉(Si X N qual scope f cv A s H).ex:=λb z=>absurd (show b∈([]:List Addr) from z) (by simp);have Ba:∀x,scope.names.lookup x=some .free->∃c,(clOf X.env.cells scope.names).lookup x=some c:=λx hl=>by have hm:=ym hl;obtain⟨c,K4⟩:=I.ok.has x<|S.Ba _ hm rfl;exact{c,jv X.env.cells scope.names [] x c (by intro x c h;simp at h) hm K4}
 refine{{I.ok.mod,S.kind,rfl,rfl,zp _,λx y c h1 h2=>I.ok.inj x y c (iZ _ _ h1)<|iZ _ _ h2,λx hk=>?_,λx c h=>(nomatch h),λ_=>hh,Around.frames_deeper xx,.inr ⟨rfl,rfl⟩,λb z=>absurd z<|KL b,I.bs,zO I.ok.Km I.sz,λb _ _=>KL b,λb z=>absurd z<|KL b,I.stack,I.ql},rfl,I.bare,Un.kept old,{_,QB,λi x w e1 e2 e3=>?_},λx c e=>?_,I.aM.fresh<|zp _,λx c e=>I.gv x c<|iZ x c e,λq hq=>absurd (show q∈([]:List (Addr×Obj)) from hq)<|by simp,I.aM.kept old,?_};have hk:scope.names.lookup x=some .cell\/scope.names.lookup x=some .free:=hk;rcases hk with hk|hk;exact absurd rfl<|S.gI _<|ym hk;exact Ba x hk;have e1:N[i]?=some x:=e1;by_cases hi:i=0;subst hi;rw[LS]at e1;cases e1;have hl:0<(pick σ src).length:=by unfold pick;rw[zb];exact(ze.mp h0).1
 rw[yj hl]at e2;cases e2;exact{u,r,.inl {hp,by simp[yf]}};rw[yk<|Ne.symm hi]at e2;unfold pick at e2;rw[zf]at e2;cases es:src[i]? with|none=>(rw[es]at e2;cases e2)|some o=>rw[es]at e2;cases o with|none=>(cases e2)|some j=>have e3:(σ[j]?).join=some w:=zU e2;have e4:σ[j]?=some (some w):=(by cases q:σ[j]? with|none=>(rw[q]at e3;cases e3)|some z=>rw[q]at e3;exact congrArg some e3);obtain⟨a1,a2,a3⟩:=S.src i j x es e1;obtain⟨m0,_,hl⟩:=I.loc;obtain⟨u',r',l⟩:=hl j x w a1 e4 a3;have hm:=ym a2;have hk:=S.Ba _ hm rfl;rcases l with⟨k,_⟩|⟨_,c,K4,⟨o,ho,hd⟩⟩;rcases hk with hk|hk<;>(rw[k]at hk;cases hk);exact{u',r',.inr {.inr a2,c,jv X.env.cells scope.names [] x c (by intro x c h;simp at h) hm K4,o,old _ _ ho,hd}}
 obtain⟨w,o,ho,hd⟩:=I.cell x c<|iZ x c e;exact{w,o,old _ _ ho,hd};show((pick σ src).set 0<|some v).length=N.length;unfold pick;rw[List.length_set,zb,S.len]
theorem Ik(I:Inv X pins σ H s)(S:bM X N src scope)(LS:N[0]?=some p)(hp:scope.names.lookup p=some .local)(h0:src[0]?=some none)(xx:A.frames=some X.stack)(hh:A.handled=none)(Vl:A.depth<recursionLimit)(r:RelV v u) (ho:s.heap.get? f=some (y8 X qual params body scope pm cv mh)) (sZ:s.heap.CodeRec cv qual) (LU:scope.isCoroutine=false) (Cb:scope.isGenerator=false) (hb:bindArgs (kla_fn "<lambda>" qual params body scope (clOf X.env.cells scope.names) pm cv mh) {[u],[]}=pure [(p,u)]) (he:PE (Si X N qual scope f cv A s H) body te) (h:te ((pick σ src).set 0<|some v) H Q): codeAny (model X.prog X.w) A (.call (.ref f) {[u],[]}) (λq s'=>∃w,q=.ok (.ret w)/\CE X.stack X.prog X.w H s Q w s') s:=by refine PySem.W.kla_callFunE Vl ho rfl LU Cb rfl sZ ?_;show wpAny _ _ (bindArgs (kla_fn "<lambda>" qual params body scope (clOf X.env.cells scope.names) pm cv mh) {[u],[]}) _ _ _;rw[hb];refine zD<|wpAny_newFunctionEnv S.gI (λx hx=>?_) (λh₁ QB Lh=>{I.nolimit.fresh _ Lh,?_}) S.kind;rw[zA.mp hx];exact hp;have old:∀b o,s.heap.get? b=some o->h₁.get? b=some o:=λb o e=>Lh.extBut b o (zE<|zw e)<|za _ e;show codeAny _ _ (.expr body<|LQ X qual scope s.heap.objs.size f cv) _ _;refine PySem.W.kla_codeExpr<|yH (he [] _ _ H Q (LR I S LS hp h0 xx hh r QB old) h) (by rintro w s' ⟨x,H',J,rv,q⟩;exact⟨w,rfl,x,H',J.os,J.bare,J.base,J.aM,rv,q⟩) λ_ _ z=>z.elim
end
@[reducible] def intK:KeyKind where
 α:=Int
 blt a b:=decide<|a<b
 irrefl a:=by simp
 trans a b c h1 h2:=by simp only[zY]at *;lia
 negTrans a b c h:=by simp only[zY]at *;lia
 total a b h1 h2:=by simp only[yn]at *;lia
 keyOf v:=match v with|.int x _=>some x|_=>none
 dflt:=0
theorem Il:intK.OneLt:=by intro prog w A E s x y a b Q ha hb h;cases x<;>simp only[intK,reduceCtorEq,Option.some.injEq]at ha;cases y<;>simp only[intK,reduceCtorEq,Option.some.injEq]at hb;cases ha;cases hb;exact oneLt_int h
structure Xi(κ:KeyKind)(b:Bool)(key:Nat->κ.α)(n:Nat)(g:Nat->Nat):Prop where
 lt:∀k,k<n->g k<n
 inj:∀i j,i<n->j<n->g i=g j->i=j
 ord:∀i j,i<j->j<n->(if b=true then κ.klt (key<|g j) (key<|g i) else κ.klt (key<|g i) (key<|g j))\/(key (g i)=key (g j)/\g i<g j)
noncomputable def i7(κ:KeyKind)(us:List Value)(j:Nat):κ.α:=(κ.keyOf<|us.getD j .none).getD κ.dflt
theorem Im{us vs:List Value}(hl:us.length=vs.length){j:Nat}(hj:j<vs.length):(us.toArray.zip vs.toArray)[j]?=some (us.getD j .none,vs.getD j .none):=by have e:(us.zip vs)[j]?=some (us.getD j .none,vs.getD j .none):=List.getElem?_zip_eq_some.mpr {by show us[j]?=some (us.getD j .none);rw[zJ,zg<|by lia];rfl,by show vs[j]?=some (vs.getD j .none);rw[zJ,zg hj];rfl};rw[<-Array.getElem?_toList,ksk_zip,List.toList_toArray];exact e
theorem vQ{κ:KeyKind}{us vs:List Value}(hl:us.length=vs.length){j:Nat}(hj:j<vs.length):KK κ (us.toArray.zip vs.toArray) j=i7 κ us j:=by unfold KK i7;rw[Im hl hj]
theorem y9{l m:List Value}{n:Nat}(h1:l.length=n)(h2:m.length=n)(h:∀k,k<n->l[k]?=m[k]?):l=m:=by apply List.ext_getElem?;intro k;by_cases hk:k<n;exact h k hk;rw[List.getElem?_eq_none<|by lia,List.getElem?_eq_none<|by lia]
section
variable{prog:Program}{w:World}{A:Around}{E:Value->Shared->Prop}{s:Shared}{a kS:Addr}{b:Bool}{us vs:List Value}{e e1:Nat}{P:PySem.Fin->Shared->Prop}{κ:KeyKind}
theorem DX{st:SortSt}{keys:Array Value}(hk:s.heap.get? kS=some (seqObj "list" keys e))(ha:s.heap.get? a=some (seqObj "list" #[] e1))(QC:kS≠a)(hz:keys.size<64)(QD:(arrOf st).size<64)(Ug:failedOf st=none) (h:∀h' c,(∀b o,b≠a->b≠kS->s.heap.get? b=some o->h'.get? b=some o)->h'.get? a=some (seqObj "list" (if b then ((arrOf st).map (·.2)).reverse else (arrOf st).map (·.2)) c)->P (.done<|.ret .none) {s with heap:=h'}): wpAny (model prog w) A (ksk_tail a b e1 (.ref kS) st) P E s:=by
 have s1:=yB s.heap kS<|Obj.mapSeq λ_=>(#[]:Array Value);have ZQ:(s.heap.update kS<|Obj.mapSeq λ_=>(#[]:Array Value)).get? a=some (seqObj "list" #[] e1):=(s1.2 a QC.symm).trans ha;have Cc:∀o:Array Value,o=(if b then ((arrOf st).map (·.2)).reverse else (arrOf st).map (·.2))->o.size<64:=by rintro o rfl;cases b with|false=>rw[if_neg zd,Array.size_map];exact QD|true=>rw[if_pos rfl,Array.size_reverse,Array.size_map];exact QD
 generalize ho:(if b then ((arrOf st).map (·.2)).reverse else (arrOf st).map (·.2))=out at h Cc;have Cc:=Cc out rfl;have s2:=yB (s.heap.update kS<|Obj.mapSeq λ_=>(#[]:Array Value)) a<|Obj.mapSeq λ_=>out;obtain⟨c2,KN⟩:∃c2,((s.heap.update kS<|Obj.mapSeq λ_=>(#[]:Array Value)).update a<|Obj.mapSeq λ_=>out).get? a=some (seqObj "list" out c2):={_,get?_update_seq ZQ λ_=>out};unfold ksk_tail;try dsimp only
 refine zc<|listUpdate_at hk rfl ?_ (by rw[yd];lia)<|zT _;refine zc<|wpAny_letGo ?_;refine zc<|seqEpoch_at ZQ rfl ?_;rw[ho];refine zc<|listUpdate_at ZQ rfl ?_ (zT _)<|zO (yO Cc) (by rw[yd];lia);rw[Ug];simp only[bne_self_eq_false,Bool.false_eq_true,if_false];exact zD<|h _ c2 (λb o h1 h2 q=>(s2.2 b h1).trans<|(s1.2 b h2).trans q) KN
theorem Io{xs:Array Keyed}{g:Nat->Nat}(hl:us.length=vs.length)(hs:xs.size=vs.length) (G:Gh (if b=true then (us.toArray.zip vs.toArray).reverse else us.toArray.zip vs.toArray) g xs) (U:Ca κ (if b=true then (us.toArray.zip vs.toArray).reverse else us.toArray.zip vs.toArray) g vs.length): ∃g',Xi κ b (i7 κ us) vs.length g'/\(if b then (xs.map (·.2)).reverse else xs.map (·.2)).toList=(List.range vs.length).map λk=>vs.getD (g' k) .none:=by
 have xA:(us.toArray.zip vs.toArray).size=vs.length:=by rw[Array.size_zip,zq,zq,hl,Nat.min_self]
 have zat:∀k,k<vs.length->(us.toArray.zip vs.toArray)[k]?=some (us.getD k .none,vs.getD k .none):=λk hk=>Im hl hk;cases b with|false=>rw[if_neg zd]at G U;refine{g,{λk hk=>by have:=G.lt k (by rw[xA];exact hk);rwa [xA]at this,λi j hi hj=>G.inj i j (by rw[xA];exact hi)<|by rw[xA];exact hj,λi j lQ hj=>?_},?_};have h1:=G.lt i (by rw[xA];lia);have h2:=G.lt j (by rw[xA];lia);rw[xA]at h1 h2;have:=U i j lQ hj;unfold Log at this;rw[vQ hl h1,vQ hl h2]at this;rw[if_neg zd];exact this;rw[if_neg zd];refine y9 (n:=vs.length) (by rw[yt,Array.size_map,hs]) (by simp) λk hk=>?_;have h1:=G.lt k (by rw[xA];lia);rw[xA]at h1;rw[Array.getElem?_toList,Array.getElem?_map,G.at_ k<|by rw[xA];exact hk,zat _ h1,zf,List.getElem?_range hk];rfl|true=>rw[if_pos rfl]at G U;have tj:(us.toArray.zip vs.toArray).reverse.size=vs.length:=(by rw[Array.size_reverse,xA]);have lt:∀k,k<vs.length->g k<vs.length:=λk hk=>(by have:=G.lt k (by rw[tj];exact hk);rwa [tj]at this);have rat:∀k,k<vs.length->(us.toArray.zip vs.toArray).reverse[k]?=(us.toArray.zip vs.toArray)[vs.length-1-k]?:=λk hk=>(by rw[Array.getElem?_reverse<|by rw[xA];exact hk,xA]);refine{λk=>vs.length-1-g (vs.length-1-k),{λk hk=>by have:=lt (vs.length-1-k) (by lia);lia,λi j hi hj e=>?_,λi j lQ hj=>?_},?_};have h1:=lt (vs.length-1-i) (by lia);have h2:=lt (vs.length-1-j) (by lia);have:=G.inj (vs.length-1-i) (vs.length-1-j) (by rw[tj];lia) (by rw[tj];lia) (by lia);lia;have h1:=lt (vs.length-1-i) (by lia);have h2:=lt (vs.length-1-j) (by lia);have:=U (vs.length-1-j) (vs.length-1-i) (by lia) (by lia);unfold Log at this;have e1:KK κ (us.toArray.zip vs.toArray).reverse (g<|vs.length-1-i)=i7 κ us (vs.length-1-g (vs.length-1-i)):=(KK_congr<|rat _ h1).trans<|vQ hl (by lia);have e2:KK κ (us.toArray.zip vs.toArray).reverse (g<|vs.length-1-j)=i7 κ us (vs.length-1-g (vs.length-1-j)):=(KK_congr<|rat _ h2).trans<|vQ hl (by lia);rw[e1,e2]at this;rw[if_pos rfl];rcases this with z|⟨z1,z2⟩;exact .inl z;exact .inr {z1.symm,by lia};rw[if_pos rfl];refine y9 (n:=vs.length) (by rw[yt,Array.size_reverse,Array.size_map,hs]) (by simp) λk hk=>?_;have h1:=lt (vs.length-1-k) (by lia);rw[Array.getElem?_toList,Array.getElem?_reverse<|by rw[Array.size_map,hs];exact hk,Array.size_map,hs,Array.getElem?_map,G.at_ _<|by rw[tj];lia,rat _ h1,zat _<|by lia,zf,List.getElem?_range hk];rfl
theorem QE(hO:κ.OneLt)(hk:s.heap.get? kS=some (seqObj "list" us.toArray e))(ha:s.heap.get? a=some (seqObj "list" #[] e1))(QC:kS≠a)(hl:us.length=vs.length)(p5:vs.length<64)(h0:∀u∈us,∃x,κ.keyOf u=some x) (hkk:∀nU nV rest,us=nU::nV::rest->keyKind' (nU::nV::rest).toArray=pure oneType') (h:∀h' c g out,(∀b o,b≠a->b≠kS->s.heap.get? b=some o->h'.get? b=some o)->h'.get? a=some (seqObj "list" out c)->Xi κ b (i7 κ us) vs.length g->out.toList=(List.range vs.length).map (λk=>vs.getD (g k) .none)->P (.done<|.ret .none) {s with heap:=h'}): wpAny (model prog w) A (ksk_end a b vs.toArray e1 (.ref kS) us.toArray) P E s:=by
 have xA:(us.toArray.zip vs.toArray).size=vs.length:=by rw[Array.size_zip,zq,zq,hl,Nat.min_self]
 have step:∀t:Sem PySem.Fin,wpAny (model prog w) A t P E s->wpAny (model prog w) A (if b=true then (do let _ <-rule "list.sort.reverse";t) else t) P E s:=by intro t ht;split;exact zc<|wpAny_rule ht;exact ht
 have hsz:(if b=true then (us.toArray.zip vs.toArray).reverse else us.toArray.zip vs.toArray).size=vs.length:=by cases b with|false=>exact xA|true=>rw[if_pos rfl,Array.size_reverse,xA]
 have keys:KeysOf κ (if b=true then (us.toArray.zip vs.toArray).reverse else us.toArray.zip vs.toArray):=λp hp=>by have hp:p∈us.zip vs:=(by have e2:(us.toArray.zip vs.toArray).toList=us.zip vs:=(by rw[ksk_zip]);cases b with|false=>rw[if_neg zd,e2]at hp;exact hp|true=>rw[if_pos rfl,Array.toList_reverse,e2]at hp;exact List.mem_reverse.mp hp);obtain⟨x,y⟩:=p;exact h0 _ (List.of_mem_zip hp).1
 unfold ksk_end;try dsimp only
 refine step _ ?_;by_cases h2:vs.toArray.size<2;{rw[if_pos h2,if_pos h2];refine zc<|zD ?_;rw[StateT.run_pure];refine zc<|zD ?_;(try dsimp only);rw[zq]at h2;refine DX (st:=SortSt.mk' general' (if b=true then (us.toArray.zip vs.toArray).reverse else us.toArray.zip vs.toArray) #[] 7 none) hk ha QC (by rw[zq];lia) (by show(if b=true then (us.toArray.zip vs.toArray).reverse else us.toArray.zip vs.toArray).size<64;lia) rfl λh' c k1 k2=>?_;obtain⟨g,g1,g2⟩:=Io (κ:=κ) (b:=b) (xs:=if b=true then (us.toArray.zip vs.toArray).reverse else us.toArray.zip vs.toArray) (g:=λk=>k) hl hsz {λ_ _=>rfl,λ_ hk=>hk,λ_ _ _ _ e=>e} (λi j lQ hj=>by lia);exact h h' c g _ k1 k2 g1 g2};{rw[if_neg h2,if_neg h2];rw[zq]at h2;obtain⟨nU,nV,rest,eu⟩:∃nU nV rest,us=nU::nV::rest:=(by match us,hl with|[],hl=>simp at hl;lia|[_],hl=>simp at hl;lia|nU::nV::rest,_=>exact⟨nU,nV,rest,rfl⟩);have ek:keyKind' us.toArray=pure oneType':=(by rw[eu];exact hkk _ _ _ eu);rw[ek];refine zc<|zD ?_;refine zc<|yH (QA (κ:=κ) hO (a₀:=if b=true then (us.toArray.zip vs.toArray).reverse else us.toArray.zip vs.toArray) (st:=SortSt.mk' oneType' (if b=true then (us.toArray.zip vs.toArray).reverse else us.toArray.zip vs.toArray) #[] 7 none) (Q:=λ_ eZ=>failedOf eZ=none/\(arrOf eZ).size=vs.length/\∃g,Gh (if b=true then (us.toArray.zip vs.toArray).reverse else us.toArray.zip vs.toArray) g (arrOf eZ)/\Ca κ (if b=true then (us.toArray.zip vs.toArray).reverse else us.toArray.zip vs.toArray) g vs.length) keys {Array.Perm.refl _,rfl,rfl,rfl} rfl (by lia) (by lia) λeZ g q1 q2 q3 q4=>{q1,q2.trans hsz,g,q3,by rw[hsz]at q4;exact q4}) ?_ λ_ _ e=>e;rintro⟨⟨⟩,eZ⟩ s' ⟨rfl,hf,ZR,g,G,U⟩;(try dsimp only);have ZR:(arrOf eZ).size=vs.length:=ZR;refine DX hk ha QC (by rw[zq];lia) (by lia) hf λh' c k1 k2=>?_;obtain⟨g',g1,g2⟩:=Io (κ:=κ) hl ZR G U;exact h h' c g' _ k1 k2 g1 g2}
end
structure N2(X:Cx)(pins:List (Addr×Obj))(b:Addr):Prop where
 loc:b≠X.env.locals
 fs:b∉X.fs
 cell:∀x c,X.env.cells.lookup x=some c->c≠b
 pin:∀p∈X.pn++pins,p.1≠b
 new:X.dG.heap.objs.size<=b
section
variable{X:Cx}{pins:List (Addr×Obj)}{σ:St}{H:Hp}{s:Shared}
theorem Inv.Xj(I:Inv X pins σ H s)(h:s.heap.objs.size<=b):N2 X pins b:={yo<|zr I.lt h,I.SN h,λx c e=>by obtain⟨v,q⟩:=I.cell x c e;exact zE<|zr q.lt h,λp hp=>zE<|zr (zw (I.pin p hp).1) h,zO I.sz h}
theorem Inv.LV(I:Inv X pins σ H s)(kp:∀b o,b≠a->b≠k->s.heap.get? b=some o->h'.get? b=some o)(ha:H a=none)(hk:H k=none)(Aa:N2 X pins a)(Ak:N2 X pins k):Inv X pins σ H {s with heap:=h',toks:=t'}:=by have OP:∀b u,H b=some u->b≠a/\b≠k:=λb u e=>{λz=>(by rw[z,ha]at e;cases e),λz=>(by rw[z,hk]at e;cases e)};refine I.step (g':=s.gens) (d':=s.drawn) (ch:=[a,k]) (λb hb=>?_) (λb o _ _ hc e _=>kp b o (λz=>hc<|by simp[z]) (λz=>hc<|by simp[z]) e) (λb o _ _ hc e _=>{o.slots,kp b o (λz=>hc<|by simp[z]) (λz=>hc<|by simp[z]) e}) (λ_ _ _ _ n=>n) (λb o hc e=>{o,kp b o (λz=>hc<|by simp[z]) (λz=>hc<|by simp[z]) e}) (λ_ _ e=>e) (λ_ _ _ e=>e) (λb ps e=>{#[],by rw[e];simp}) (λm hm=>?_) (λb u e=>?_) I.bare;simp only[zi,zH,or_false]at hb;rcases hb with rfl|rfl;exact{.inr Aa.new,Aa.loc,Aa.cell,Aa.pin};exact{.inr Ak.new,Ak.loc,Ak.cell,Ak.pin};obtain⟨o,es,ep,ho,r⟩:=hm;exact{o,es,ep,kp _ o (Ne.symm Aa.loc) (Ne.symm Ak.loc) ho,r};refine(I.aM b u e).pS (λc v hc q=>?_) (λ_ q=>q) λ_ _ q=>q;rcases hc with z|z;rw[z]at q⊢;exact kp b v (OP b u e).1 (OP b u e).2 q;exact kp c v (OP c _ z).1 (OP c _ z).2 q
theorem Inv.Vm(I:Inv X pins σ H s)(ha:H a=none)(A:N2 X pins a)(new:bt X.prog X.w (upd H a o) s.heap a o):Inv X pins σ (upd H a o) s:=by refine I.step (h':=s.heap) (g':=s.gens) (d':=s.drawn) (t':=s.toks) (ch:=[a]) (λb hb=>?_) (λb o _ _ hc e _=>e) (λb o _ _ hc e _=>⟨o.slots,e⟩) (λb u hc e n=>?_) (λb o hc e=>⟨o,e⟩) (λb xs e=>?_) (λb u v e=>?_) (λb ps e=>?_) (λm hm=>hm) (λb u e=>?_) I.bare;rw[zA.mp hb];exact{.inr A.new,A.loc,A.cell,A.pin};rw[aw λz=>hc<|by simp[z]];exact n;rw[aw<|aF e ha];exact e;rw[aw<|aF e ha];exact e;exact{#[],by rw[aw<|aF e ha,e];simp};by_cases hb:b=a;subst hb;rw[aE]at e;cases e;exact new;rw[aw hb]at e;exact(I.aM b u e).pS (λc v _ q=>q) (λc q=>by rw[aw<|aF q ha];exact q) λc xs q=>by rw[aw<|aF q ha];exact q
end
def Iq(X:Cx)(pins:List<|Addr×Obj)(σ:St)(A:Around)(f:Addr)(xs:List V)(W:Nat->List V->Hp->Prop):Prop:=∀i x u ks s' H' more,Inv X (pins++more) σ H' s'->W i ks H'->xs[i]?=some x->RelV x u->codeAny (model X.prog X.w) A (.call (.ref f) {[u],[]}) (λq Bz=>∃w,q=.ok (.ret w)/\CE X.stack X.prog X.w H' s' (λk H''=>W (i+1) (ks++[k]) H'') w Bz) s'
structure N3(κ:KeyKind)(us:List Value):Prop where
 all:∀u∈us,∃x,κ.keyOf u=some x
 kind:∀nU nV rest,us=nU::nV::rest->keyKind' (nU::nV::rest).toArray=pure oneType'
section
variable{X:Cx}{pins:List (Addr×Obj)}{σ:St}{H:Hp}{s:Shared}{A:Around}{E:Value->Shared->Prop}{xs:List V}{vs:List Value}{f:Addr}{b:Bool}{κ:KeyKind}{W:Nat->List V->Hp->Prop}
theorem FH{P:PySem.Fin->Shared->Prop}(hO:κ.OneLt)(I:Inv X pins σ H s)(ha:s.heap.get? a=some (seqObj "list" #[] e1))(hk:s.heap.get? kS=some (seqObj "list" #[] 0))(QC:kS≠a)(na:H a=none)(nk:H kS=none)(Aa:N2 X pins a)(Ak:N2 X pins kS) (hv:Vals xs vs) (p5:vs.length<64) (T:Iq X pins σ A f xs W) (w0:W 0 [] H) (G:∀ks us H',W vs.length ks H'->Vals ks us->ks.length=vs.length->N3 κ us) (h:∀s' H' ks us c g out,Inv X pins σ H' s'->H' a=none->s'.heap.get? a=some (seqObj "list" out c)->W vs.length ks H'->Vals ks us->ks.length=vs.length->Xi κ b (i7 κ us) vs.length g->out.toList=(List.range vs.length).map (λk=>vs.getD (g k) .none)->P (.done<|.ret .none) s'): wpAny (model X.prog X.w) A (ksk_rest a (.ref f) b vs.toArray e1<|.ref kS) P E s:=by
 have nc:∀(k:Array Value) (n:Nat) (v:Option Value),(seqObj "list" k n).data≠.cell v:=λ_ _ _ z=>nomatch z;unfold ksk_rest;refine zc<|wpAny_rule ?_;rw[List.forIn_toArray];refine zc<|ksk_fold (λi s'=>∃ks kA e H',Inv X pins σ H' s'/\W i ks H'/\Vals ks kA.toList/\ks.length=i/\H' a=none/\H' kS=none/\s'.heap.get? a=some (seqObj "list" #[] e1)/\s'.heap.get? kS=some (seqObj "list" kA e)) vs 0 s {[],#[],0,H,I,w0,.nil,rfl,na,nk,ha,hk} ?_ ?_;rintro j x s' hx ⟨ks,kA,e,H',I',w',v',l',Xk,ZS,ZT,Hv⟩;simp only[Nat.zero_add]at l' w'⊢;have hj:j<vs.length:=(ze.mp hx).1;have hl:xs.length=vs.length:=hv.length;obtain⟨y,hy⟩:∃y,xs[j]?=some y:={_,zg<|by lia};obtain⟨u,hu,ru⟩:=hv.get hy;rw[hx]at hu;cases hu;have Ip:Inv X (pins++[(a,seqObj "list" #[] e1),(kS,seqObj "list" kA e)]) σ H' s':=by refine{I'.ok,I'.os,I'.bare,I'.base,I'.loc,I'.cell,I'.free,I'.gv,λp hp=>?_,I'.aM,I'.len};rcases zL.mp hp with hp|hp;exact I'.pin p<|ye _ hp;rcases zL.mp hp with hp|hp;exact I'.pin p<|zI _ hp;simp only[zi,zH,or_false]at hp;rcases hp with rfl|rfl;exact{ZT,Xk,Aa.loc,Aa.fs,nc _ _};exact{Hv,ZS,Ak.loc,Ak.fs,nc _ _}
 have hz:kA.size=j:=by have h1:ks.length=kA.toList.length:=v'.length;have h2:kA.toList.length=kA.size:=yt;lia
 refine zc<|wpAny_attempt<|wpAny_call<|yU (T j y x ks s' H' _ Ip w' hy ru) λr s2 hq=>?_;obtain⟨w,rfl,ce⟩:=hq;obtain⟨k,H2,I2,rk,w2⟩:=Ip.after ce;dsimp only;have pa:=I2.pin (a,seqObj "list" #[] e1)<|zI _<|zI _ (by simp);have pk:=I2.pin (kS,seqObj "list" kA e)<|zI _<|zI _ (by simp);have I3:Inv X pins σ H2 s2:={I2.ok,I2.os,I2.bare,I2.base,I2.loc,I2.cell,I2.free,I2.gv,λp hp=>I2.pin p<|by rcases zL.mp hp with z|z;exact ye _ z;exact zI _<|ye _ z,I2.aM,I2.len};have s1:=yB s2.heap kS (Obj.mapSeq (·.push w));obtain⟨c2,KN⟩:∃c2,(s2.heap.update kS (Obj.mapSeq (·.push w))).get? kS=some (seqObj "list" (kA.push w) c2):={_,get?_update_seq pk.1 (·.push w)};refine zc<|listUpdate_at pk.1 rfl ?_ (by rw[yd];lia)<|zO (Nat.le_of_eq<|Array.size_push ..) (by rw[yd];lia);refine zD {rfl,ks++[k],kA.push w,c2,H2,I3.turned (t':=s2.toks) (it:=kS) (λb o hb q=>(s1.2 b hb).trans q) pk.2.1 Ak.loc (.inr Ak.new) Ak.cell Ak.pin,w2,?_,by simp[l'],pa.2.1,pk.2.1,(s1.2 a QC.symm).trans pa.1,KN};rw[show(kA.push w).toList=kA.toList++[w] by simp];exact v'.append<|.cons rk .nil;rintro s' ⟨ks,kA,e,H',I',w',v',l',Xk,ZS,ZT,Hv⟩;simp only[Nat.zero_add]at l' w';refine zc<|listItems_at Hv rfl ?_;have eA:kA=kA.toList.toArray:=by simp
 have good:=G ks kA.toList H' w' v' l';have hl:kA.toList.length=vs.length:=by have h1:ks.length=kA.toList.length:=v'.length;lia
 rw[eA]at Hv;show wpAny _ _ (ksk_end a b vs.toArray e1 (.ref kS) kA) _ _ _;rw[eA];refine QE (κ:=κ) hO Hv ZT QC hl p5 good.all good.kind λh' c g out k1 k2 k3 k4=>?_;exact h _ H' ks kA.toList c g out (I'.LV (t':=s'.toks) k1 Xk ZS Aa Ak) Xk k2 w' v' l' k3 k4
theorem uK(hO:κ.OneLt)(I:Inv X pins σ H s)(hl:kh X.K H l xs)(p5:xs.length<64)(Xl:argsOk "sorted" {[.ref l],kw})(Xm:∀x,argsOk "list.sort" {[.ref x],kw})(ht:∀x,Builtin.«list.sort» {[.ref x],kw}=ksk_tree x (.ref f) b) (T:Iq X pins σ A.in1.in1 f xs W) (w0:W 0 [] H) (G:∀ks us H',W xs.length ks H'->Vals ks us->ks.length=xs.length->N3 κ us) (h:∀H' ks us g D,W xs.length ks H'->Vals ks us->ks.length=xs.length->Xi κ b (i7 κ us) xs.length g->H' D=none->Q (.ref D) (upd H' D<|.lst<|(List.range xs.length).map λk=>xs.getD (g k) .av)): wpAny (model X.prog X.w) A (call (.builtin "sorted") [.ref l] kw) (EP X pins σ Q) E s:=by
 obtain⟨vs,hv,pl,_⟩:=I.list hl;have Sj:xs.length=vs.length:=hv.length;rw[Sj]at p5 G h;refine call_function_entry_kw kind_sorted plain_sorted entry_sorted Xl ?_;unfold Builtin.«sorted»;refine zc (m:=checkCount "sorted" 1 1 _)<|zD ?_;refine zc<|collect_list pl.isList ?_ (by rw[yd];lia);refine zc<|wpAny_newList ?_ (by rw[yd];lia);have hsz:((s.heap.push<|seqObj "list" #[] 0).update s.heap.objs.size (Obj.mapSeq (·++vs.toArray))).objs.size=s.heap.objs.size+1:=by rw[Heap.size_update,size_push']
 have GH:(((s.heap.push<|seqObj "list" #[] 0).update s.heap.objs.size (Obj.mapSeq (·++vs.toArray))).push<|seqObj "list" vs.toArray 0).get? (s.heap.objs.size+1)=some (seqObj "list" vs.toArray 0):=by rw[<-hsz];exact zk _ rfl
 have keep:∀b o,s.heap.get? b=some o->(((s.heap.push<|seqObj "list" #[] 0).update s.heap.objs.size (Obj.mapSeq (·++vs.toArray))).push<|seqObj "list" vs.toArray 0).get? b=some o:=λb o q=>by have eC:b<s.heap.objs.size:=zw q;rw[Heap.get?_push_ne _ _ _<|by rw[hsz];exact zE<|Nat.lt_succ_of_lt eC,Heap.get?_update_ne _ _ _ _<|zE eC,Heap.get?_push_ne _ _ _<|zE eC];exact q
 show wpAny _ _ _ _ _ {s with heap:=((s.heap.push<|seqObj "list" #[] 0).update s.heap.objs.size (Obj.mapSeq (·++vs.toArray))).push<|seqObj "list" vs.toArray 0};rw[hsz];generalize hg:((s.heap.push<|seqObj "list" #[] 0).update s.heap.objs.size (Obj.mapSeq (·++vs.toArray))).push (seqObj "list" vs.toArray 0)=h1 at GH keep⊢;have I1:Inv X pins σ H {s with heap:=h1}:=I.kept (t':=s.toks) keep;have Aa:N2 X pins (s.heap.objs.size+1):=I.Xj<|yT _;have na:H (s.heap.objs.size+1)=none:=I.aM.fresh<|yT _;generalize s.heap.objs.size+1=a at GH Aa na⊢;refine zc<|yL<|wpAny_call_entry_kw slot_list_sort {_,GH,rfl} entry_list_sort ?_<|Xm _;show wpAny (model X.prog X.w) A.in1.in1 (Builtin.«list.sort» {[.ref a],kw}) _ _ _;rw[ht a];have s1:=yB h1 a<|Obj.mapSeq λ_=>(#[]:Array Value);obtain⟨e1,Sk⟩:∃e1,(h1.update a<|Obj.mapSeq λ_=>(#[]:Array Value)).get? a=some (seqObj "list" #[] e1):={_,get?_update_seq GH λ_=>#[]};have I2:Inv X pins σ H {s with heap:=h1.update a<|Obj.mapSeq λ_=>(#[]:Array Value)}:=Inv.turned (s:={s with heap:=h1}) (h':=h1.update a<|Obj.mapSeq λ_=>(#[]:Array Value)) (t':=s.toks) (it:=a) I1 (λb o hb q=>(s1.2 b hb).trans q) na Aa.loc (.inr Aa.new) Aa.cell Aa.pin;unfold ksk_tree;refine zc<|listItems_at GH rfl ?_;refine zc<|listUpdate_at GH rfl ?_ (by rw[zq,yd];lia)<|zT _;refine zc<|seqEpoch_at Sk rfl ?_;refine zc<|wpAny_newTuple ?_ (by show vs.length<=_;rw[yd];lia);refine zc<|wpAny_newList ?_<|zT _;refine yL ?_;generalize h1.update a (Obj.mapSeq λ_=>(#[]:Array Value))=h2 at Sk I2⊢;have k3:∀b u,h2.get? b=some u->((h2.push<|seqObj "tuple" vs.toArray 0).push<|seqObj "list" #[] 0).get? b=some u:=λb u q=>za _<|za _ q;have I3:Inv X pins σ H {s with heap:=(h2.push<|seqObj "tuple" vs.toArray 0).push<|seqObj "list" #[] 0}:=I2.kept (t':=s.toks) k3;have Cd:h2.objs.size<=(h2.push<|seqObj "tuple" vs.toArray 0).objs.size:=by rw[size_push'];exact yT _
 refine FH (s:={s with heap:=(h2.push<|seqObj "tuple" vs.toArray 0).push<|seqObj "list" #[] 0}) (kS:=(h2.push<|seqObj "tuple" vs.toArray 0).objs.size) hO I3 (k3 _ _ Sk) (zk _ rfl) (yo<|zr (zw Sk) Cd) na (I2.aM.fresh Cd) Aa (I2.Xj Cd) hv p5 T w0 G λs' H' ks us c g out J n1 o1 w1 v1 l1 q1 q2=>{.none,rfl,?_};refine zD !{.ref a,_,J.Vm (o:=.lst<|(List.range vs.length).map λk=>xs.getD (g k) .av) n1 Aa {?_,out.toList,c,?_,?_},rfl,h H' ks us g a w1 v1 l1 q1 n1};rw[zb,List.length_range,yd];lia;rw[q2];have:∀(ns:List Nat),(∀k∈ns,g k<vs.length)->Vals (ns.map λk=>xs.getD (g k) .av) (ns.map λk=>vs.getD (g k) .none):=λns=>by induction ns with|nil=>exact λ_=>.nil|cons k ns ih=>intro hk;have ZU:=hk k zm;obtain⟨y,hy⟩:∃y,xs[g k]?=some y:={_,zg<|by lia};obtain⟨u,hu,ru⟩:=hv.get hy;refine .cons ?_<|ih λk dM=>hk k<|zh _ dM;show RelV (xs.getD (g k) .av) (vs.getD (g k) .none);rw[zJ,hy,zJ,hu];exact ru
 exact this _ λk hk=>q1.lt k<|zV.mp hk;rw[o1]
end
def Bm(mg:Str->Option Value)(base:Heap):Prop:=∃bm o,mg "__builtins__"= some (.ref bm)/\bm≠builtinsNs/\base.get? bm=some o/\o.cls=.type "module"/\o.dict=some builtinsNs/\o.data=.plain
structure ZV(K:Frag)(mg:Str->Option Value)(base:Heap)(c P:Addr):Prop where
 hd:codeHdIn K c P=true
 bm:Bm mg base
theorem Cf{pos p2:Pos}{c cv:Value}(l:List Value)(h:TriplesOk l)(e:codeAmong pos (l++[rawInt p2.line,rawInt p2.col,c])=some cv):codeAmong pos l=some cv\/cv=c:=by fun_induction TriplesOk l with|case1=>(simp only[List.nil_append,rawInt,codeAmong]at e;split at e;cases e;exact .inr rfl;cases e)|case2 a t b u x rest ih=>simp only[List.cons_append,codeAmong]at e⊢;split at e;rename_i hc;rw[if_pos hc];exact .inl e;rename_i hc;rw[if_neg hc];exact ih h e|case3 l h1 h2=>exact h.elim
section
variable{X:Cx}{pins:List (Addr×Obj)}{σ:St}{H:Hp}{s:Shared}
theorem Inv.tab{h':Heap}{tk:Nat}{P c:Addr}{ps Sl:Array Value}{oc fo:Obj}(I:Inv X pins σ H s)(hP:H P=some (.qk ps))(hx:Heap.ExtBut P s.heap h')(h1:s.heap.objs.size<=c)(h2:c<h'.objs.size)(hc:h'.get? c=some oc)(hp:h'.get? P=some (tabObj<|ps++Sl)): Inv X pins σ (upd (upd H P<|.qk<|ps++Sl) c<|.lK oc<|.own 0) {s with heap:=h'.push fo,toks:=tk}:=by
 have hcP:c≠P:=λz=>absurd (zr (I.aM.lt hP)<|z ▸ h1)<|yA _;have nc:H c=none:=I.aM.fresh h1;have other:∀b,b≠P->b≠c->upd (upd H P<|.qk<|ps++Sl) c (.lK oc<|.own 0) b=H b:=λb z1 z2=>by rw[aw z2,aw z1]
 have nP:∀b o,H b=some o->(∀q,o≠.qk q)->b≠P:=λb o e z q=>by rw[q,hP]at e;cases e;exact z _ rfl
 have ZW:∀b,H b=none->b≠P:=λb e q=>by rw[q,hP]at e;cases e
 have lt:∀b o,s.heap.get? b=some o->b≠c:=λb o e=>zE<|zr (zw e) h1;refine I.un (h':=h'.push fo) {λb o e n _ _=>za _<|hx b o (ZW b n) e,λb o e n _ _=>{o.slots,za _<|hx b o (ZW b n) e},λb o e n _=>by rw[other b (ZW b n)<|lt b o e];exact n,λb o e _=>?_,λb xs e=>by rw[other b (nP b _ e λ_=>nofun)<|aF e nc];exact e,λb o u e=>by rw[other b (nP b _ e λ_=>nofun)<|aF e nc];exact e,λb q e=>?_} λb u e=>?_;by_cases hb:b=P;rw[hb];exact{_,za _ hp};exact{o,za _<|hx b o hb e};by_cases hb:b=P;subst hb;rw[hP]at e;cases e;exact{Sl,by rw[aw<|Ne.symm hcP,aE]};exact{#[],by rw[other b hb<|aF e nc,e];simp};by_cases Sm:b=c;subst Sm;rw[aE]at e;cases e;exact{za _ hc,_,za _ hc};rw[aw Sm]at e;by_cases hb:b=P;subst hb;rw[aE]at e;cases e;exact za _ hp;rw[aw hb]at e;refine(I.aM b u e).pS (λd v hd q=>?_) (λd q=>by rw[other d (nP d _ q λ_=>nofun)<|aF q nc];exact q) λd xs q=>by rw[other d (nP d _ q λ_=>nofun)<|aF q nc];exact q
 rcases hd with rfl|hd;exact za _<|hx d v hb q;exact za _<|hx d v (nP d _ hd λ_=>nofun) q
theorem Inv.DY(I:Inv X pins σ H s)(ho:s.heap.get? f=some o)(hn:H f=none)(A:N2 X pins f)(d:∀v,o.data≠.cell v):Inv X (pins++[(f,o)]) σ H s:=by refine{I.ok,I.os,I.bare,I.base,I.loc,I.cell,I.free,I.gv,λp hp=>?_,I.aM,I.len};rcases zL.mp hp with hp|hp;exact I.pin p<|ye _ hp;rcases zL.mp hp with hp|hp;exact I.pin p<|zI _ hp;rw[zA.mp hp];exact⟨ho,hn,A.loc,A.fs,d⟩
structure Vn(X:Cx)(pins:List (Addr×Obj))(σ:St)(H H':Hp)(P:Addr)(q:Str)(params:Arguments)(body:Expr)(scope:Scope)(u:Value)(s':Shared)(f:Addr)(pm cv mh:Value):Prop where
 u:u=.ref f
 inv:Inv X (pins++[(f,y8 X q params body scope pm cv mh)]) σ H' s'
 code:∃c o vs t,cv=.ref c/\H' c=some (.lK o<|.own 0)/\o.data=.fields vs/\vs[1]?=some (.str q t)
 same:∀b,H' b=H b\/(b=P/\∃ps,H' b=some (.qk ps)/\DM H' q ps)\/(H b=none/\∃o,H' b=some (.lK o<|.own 0))
theorem y_{M:Model}{A:Around}{E:Value->Shared->Prop}{N:List Str}{src:List<|Option Nat}{scope:Scope}{params:Arguments}{body:Expr}{pos:Pos}{c P:Addr}{q:Str}{ps:Array Value}{Q:Value->Shared->Prop}(I:Inv X pins σ H s)(S:bM X N src scope)(oY:X.env.code=.ref c)(mk:ZV X.K X.mg X.base c P) (hP:H P=some (.qk ps)) (ok:DM H q ps) (hq:X.env.qual ++ "<lambda>"= q) (Ir:defaultsOf params X.env=([],[])) (h:∀u s' H' f pm cv mh,Vn X pins σ H H' P q params body scope u s' f pm cv mh->Q u s'):wpAny M A (eval (.Lambda params body scope pos) X.env) Q E s:=by
 have BG:closureFor scope X.env=pure (clOf X.env.cells scope.names):=gH λy hy hf=>I.ok.has y.1<|S.Ba y hy hf;have Xn:s.heap.get? P=some (tabObj ps):=I.aM P _ hP;have hg:s.heap.Ns mainGlobals X.mg:=I.mod.glob.keeps I.bk;have hC:=codeHd_of_K I.oP mk.hd;obtain⟨bm,ob,b1,b2,b3,b4,b5,b6⟩:=mk.bm;have Xo:s.heap.get? bm=some ob:=I.bk _ _ b3;have hgP:mainGlobals≠P:=λz=>by obtain⟨o,es,ep,e,d,_⟩:=id hg;rw[z,Xn]at e;cases e;cases d
 have hbG:bm≠mainGlobals:=λz=>by obtain⟨o,es,ep,e,d,_⟩:=id hg;rw[<-z,Xo]at e;cases e;rw[b6]at d;cases d
 have hbP:bm≠P:=λz=>by rw[z,Xn]at Xo;cases Xo;cases b4
 have hB:s.heap.BuiltinsAt X.mg P:=⟨bm,ob,b1,b2,hbG,hbP,Xo,b4,b5,b6⟩;have ZX:H P≠none:=by rw[hP];nofun
 refine PySem.W.kla_eval Ir ?_;rw[hq];cases hf:codeAmong pos ps.toList with|none=>(refine PySem.W.kla_makeFunction BG I.ok.glob hg oY hC Xn ok.1 hf hgP hB λc' mh h' tk hx h1 h2 hr hp=>?_;obtain⟨c2,oc,vs,t,e2,WO,hd,hv⟩:=hr;cases e2;have J:=I.tab (tk:=tk) (fo:=y8 X q params body scope ((X.mg "__name__").getD .none) (.ref c') mh) hP hx h1 h2 WO hp;have hcP:c'≠P:=λz=>absurd (zr (I.aM.lt hP)<|z ▸ h1)<|yA _;have nc:H c'=none:=I.aM.fresh h1;have fresh:∀b,h'.objs.size<=b->upd (upd H P<|.qk<|ps++#[rawInt pos.line,rawInt pos.col,.ref c']) c' (.lK oc<|.own 0) b=none:=λb hb=>(by have xJ:s.heap.objs.size<=b:=zO (zO h1<|yO h2) hb;rw[aw<|yo<|zr h2 hb,aw<|yo<|zr (I.aM.lt hP) xJ];exact I.aM.fresh xJ);have hsz:s.heap.objs.size<=h'.objs.size:=zO h1<|yO h2;refine h _ _ _ h'.objs.size _ _ _ {rfl,J.DY (zk _ rfl) (fresh _<|zp _) (I.Xj hsz) (λv z=>nomatch z),⟨c',oc,vs,t,rfl,aE,hd,hv⟩,λb=>?_};by_cases Sm:b=c';subst Sm;exact .inr<|.inr ⟨nc,oc,aE⟩;by_cases hb:b=P;subst hb;refine .inr<|.inl {rfl,_,by rw[aw Sm,aE],?_,λp2 cv e=>?_};rw[Array.toList_append];exact TriplesOk_snoc _ _ _ _ ok.1;rw[Array.toList_append]at e;rcases Cf _ ok.1 e with e|e;obtain⟨d,o,ws,t2,z1,z2,z3⟩:=ok.2 p2 cv e;exact{d,o,ws,t2,z1,by rw[aw<|aF z2 nc,aw λz=>by rw[z,hP]at z2;cases z2];exact z2,z3};exact⟨c',oc,vs,t,e,aE,hd,hv⟩;exact .inl<|by rw[aw Sm,aw hb])|some cv=>refine PySem.W.kla_makeFunctionHit BG I.ok.glob hg oY hC Xn ok.1 hf hB λmh h' tk hk hsz=>?_;have J:Inv X pins σ H {s with heap:=h'.push<|y8 X q params body scope ((X.mg "__name__").getD .none) cv mh,toks:=tk}:=I.kept λb u e=>za _<|hk b u e;exact h _ _ _ h'.objs.size _ _ _ {rfl,J.DY (zk _ rfl) (I.aM.fresh hsz) (I.Xj hsz) (λv z=>nomatch z),ok.2 pos cv hf,λb=>.inl rfl}
end
def Vo:D->D->Prop|.int a,.int b=>a<b|.str a,.str b=>a.cps.toList<b.cps.toList|_,_=>False
def z_(ks:List D):Prop:=(∃zs:List Str,ks=zs.map D.str)\/∃ns:List Int,ks=ns.map D.int
structure QF(b:Bool)(key:Nat->D)(n:Nat)(g:Nat->Nat):Prop where
 lt:∀k,k<n->g k<n
 inj:∀i j,i<n->j<n->g i=g j->i=j
 ord:∀i j,i<j->j<n->(if b=true then Vo (key<|g j) (key<|g i) else Vo (key<|g i) (key<|g j))\/(key (g i)=key (g j)/\g i<g j)
def Ab(b:Bool)(P:Addr)(q:Str)(src:List<|Option Nat)(te:TD)(σ:SD)(R:KD)(d:D)(S1:au):Prop:=∃(l:Addr)(xs:List D)(f:D->D),d=.ref l/\S1 l=some (.lst xs)/\xs.length<64/\S1 P=some (.tab q)/\z_ (xs.map f)/\(∀x,x∈xs->∀S',Sub S1 S'->∀Qk:KD,(∀S2,Sub S' S2->Qk (f x) S2)->te ((mF σ src).set 0<|some x) S' Qk Zf)/\∀g S2 p,QF b (λj=>f<|xs.getD j .av) xs.length g->Sub S1 S2->S2 p=none->R (.ref p) (S2.set p<|.lst<|(List.range xs.length).map λk=>xs.getD (g k) .av)
def N4(b:Bool)(P:Addr)(q:Str)(src:List<|Option Nat)(tl te:TD):TD:=λσ S R Z=>tl σ S (λd S1=>Ab b P q src te σ R d S1) Z
def Iu(F:D->au->Prop):List D->au->Prop|[d],S=>F d S|_,_=>False
theorem DZ{F:D->au->Prop}{ds:List D}{S:au}(h:Iu F ds S):∃d,ds=[d]/\F d S:=by match ds,h with|[d],h=>exact⟨d,rfl,h⟩
theorem rE:∀{ss:List Int}{ay:List Value},Vals (ss.map V.int) ay->IntsAre ay ss|[],_,.nil=>.nil|z::ss,_,.cons r t=>by obtain⟨tk,rfl⟩:=r;exact .cons z tk<|rE t
theorem rF:∀{us:List Value}{zs:List Str},StrsAre us zs->∀j,j<zs.length->i7 strKind us j=(zs.getD j "").cps.toList|_,_,.cons z t h,0,_=>rfl|_,_,.cons z t h,j+1,hj=>by have:=rF h j (by simpa using hj);unfold i7 at this⊢;rw[List.getD_cons_succ,List.getD_cons_succ];exact this
theorem rG:∀{us:List Value}{zs:List Int},IntsAre us zs->∀j,j<zs.length->i7 intK us j=zs.getD j 0|_,_,.cons z t h,0,_=>rfl|_,_,.cons z t h,j+1,hj=>by have:=rG h j (by simpa using hj);unfold i7 at this⊢;rw[List.getD_cons_succ,List.getD_cons_succ];exact this
theorem Iv(h:StrsAre us zs):∀u∈us,∃x,strKind.keyOf u=some x:=by induction h with|nil=>(intro u hu;cases hu)|cons z t h ih=>intro u hu;rcases zi.mp hu with rfl|hu;exact{_,rfl};exact ih u hu
theorem Iw(h:IntsAre us zs):∀u∈us,∃x,intK.keyOf u=some x:=by induction h with|nil=>(intro u hu;cases hu)|cons z t h ih=>intro u hu;rcases zi.mp hu with rfl|hu;exact{_,rfl};exact ih u hu
theorem Iy{xs:List D}{f:D->D}{j:Nat}(hj:j<xs.length):(xs.map f)[j]?=some (f<|xs.getD j .av):=by rw[zf,zJ,zg hj];rfl
theorem vR{K:Frag}{H:Hp}{ds:List D}{xs:List V}(h:RvAll K H ds xs)(g:Nat->Nat):∀(ns:List Nat),(∀k∈ns,g k<ds.length)->RvAll K H (ns.map λk=>ds.getD (g k) .av) (ns.map λk=>xs.getD (g k) .av)|[],_=>bC|k::ns,hk=>by have ZU:=hk k zm;obtain⟨v,e,r⟩:=h.get<|zg ZU;refine aQ ?_<|vR h g ns λk dM=>hk k<|zh _ dM;show Rv K H (ds.getD (g k) .av) (xs.getD (g k) .av);rw[zJ,zg ZU,zJ,e];exact r
section
variable{K:Frag}{Y:Cx}{pins:List (Addr×Obj)}{τ:St}{H H2:Hp}{s:Shared}{N:List Str}{src:List (Option Nat)}{scope:Scope}{params:Arguments}{body:Expr}{q p:Str}{pm cv mh:Value}{f l:Addr}{te:TD}{b:Bool}{kw:List (Str×Value)}{k:Nat}
theorem Ac{σ:SD}{S1:au}{xs:List D}{fD:D->D}{Q:VK}{R:KD}{E:Value->Shared->Prop}(I:Inv Y (pins++[(f,y8 Y q params body scope pm cv mh)]) τ H s)(hK:Y.K=K)(Vp:Y.calm=true)(hr:bV k Y.A)(oY:∃c o vs t,cv=.ref c/\H c=some (.lK o<|.own 0)/\o.data=.fields vs/\vs[1]?=some (.str q t)) (CS:bM Y N src scope) (LS:N[0]?=some p) (hp:scope.names.lookup p=some .local) (h0:src[0]?=some none) (LU:scope.isCoroutine=false) (Cb:scope.isGenerator=false) (hb:∀cl pm cv mh u,bindArgs (kla_fn "<lambda>" q params body scope cl pm cv mh) {[u],[]}=pure [(p,u)]) (he:∀cv s H,DE K (Si Y N q scope f cv Y.A.in1.in1 s H) body te) (aB:iB K H σ τ) (hS:Rs K S1 H) (hl:S1 l=some (.lst xs)) (p5:xs.length<64) (kd:z_<|xs.map fD) (step:∀x,x∈xs->∀S',Sub S1 S'->∀Qk:KD,(∀S2,Sub S' S2->Qk (fD x) S2)->te ((mF σ src).set 0<|some x) S' Qk Zf) (hR:Cn K H R Q) (fin:∀g S2 p,QF b (λj=>fD<|xs.getD j .av) xs.length g->Sub S1 S2->S2 p=none->R (.ref p) (S2.set p<|.lst<|(List.range xs.length).map λk=>xs.getD (g k) .av)) (Xl:argsOk "sorted" {[.ref l],kw}) (Xm:∀x,argsOk "list.sort" {[.ref x],kw}) (ht:∀x,Builtin.«list.sort» {[.ref x],kw}=ksk_tree x (.ref f) b): wpAny (model Y.prog Y.w) Y.A (call (.builtin "sorted") [.ref l] kw) (EP Y pins τ Q) E s:=by
 subst hK;obtain⟨vs,hv,rv⟩:=hS.lst hl;have Sj:vs.length=xs.length:=rv.len;obtain⟨c,oc,ws,tk,ecv,hc,sZ,hcq⟩:=oY;have drop:∀{u:Value}{s':Shared},EP Y (pins++[(f,y8 Y q params body scope pm cv mh)]) τ Q u s'->EP Y pins τ Q u s':=λ⟨v,H',J,r,q⟩=>{v,H',{J.ok,J.os,J.bare,J.base,J.loc,J.cell,J.free,J.gv,λp hp=>J.pin p<|by rcases zL.mp hp with z|z;exact ye _ z;exact zI _<|ye _ z,J.aM,J.len},r,q};have T:Iq Y (pins++[(f,y8 Y q params body scope pm cv mh)]) τ Y.A.in1.in1 f vs λi ks H'=>∃S',Sub S1 S'/\Rs Y.K S' H'/\Kp Y.K H H'/\RvAll Y.K H' ((xs.take i).map fD) ks:=by rintro i x u ks s' H' more I' ⟨S',sb,rs,kp,rk⟩ hx ru;have hi:i<xs.length:=(by have:=(ze.mp hx).1;lia);obtain⟨v,e1,r1⟩:=rv.get<|zg hi;rw[hx]at e1;cases e1;have po:=(I'.pin (f,y8 Y q params body scope pm cv mh)<|zI _<|ye _<|zI _<|by simp).1;have hcr:s'.heap.CodeRec cv q:={c,oc,ws,tk,ecv,(I'.aM c _<|kp.f _ _ _ hc).1,sZ,hcq};refine Ik (A:=Y.A.in1.in1) I' CS LS hp h0 I'.ok.frames (I'.ok.hd Vp) (by have:=hr.dp;show Y.A.depth<_;lia) ru po hcr LU Cb (hb _ _ _ _ _) ((he cv s' H').of<|.none _ rfl) ?_;refine{_,S',λkk S2=>kk=fD xs[i]/\Sub S' S2,Zf,((aB.ts kp).pick src).set 0<|Rv.ts kp _ r1,rs,step _ (List.getElem_mem hi) S' sb _ λS2 h2=>⟨rfl,h2⟩,λkk S2 v2 H2 ⟨e2,J4⟩ Sn ZY Xp=>?_,.f};subst e2;refine{S2,sb.trans J4,ZY,kp.trans Xp,?_};rw[show xs.take (i+1)=xs.take i++[xs[i]] by rw[List.take_add_one,zg hi];rfl,zy];exact(RvAll.ts Xp _ rk).app<|aQ Sn bC
 have w0:∃S',Sub S1 S'/\Rs Y.K S' H/\Kp Y.K H H/\RvAll Y.K H ((xs.take 0).map fD) []:={S1,.refl _,hS,.refl _,by rw[List.take_zero];exact bC};have WU:kh Y.K H l vs:=.of hv;rcases kd with⟨zs,ez⟩|⟨zs,ez⟩;have ZZ:zs.length=xs.length:=by have:=congrArg List.length ez;rw[zb,zb]at this;exact this.symm
 have ka:∀j,j<xs.length->fD (xs.getD j .av)=.str (zs.getD j ""):=λj hj=>by have e1:=Iy (f:=fD) hj;rw[ez,zf,zg<|by lia]at e1;rw[zJ (l:=zs),zg<|by lia];exact(zU e1).symm
 have kv:∀ks us H',(∃S',Sub S1 S'/\Rs Y.K S' H'/\Kp Y.K H H'/\RvAll Y.K H' ((xs.take vs.length).map fD) ks)->Vals ks us->StrsAre us zs:=λks us H' ⟨S',_,_,_,rk⟩ hu=>by rw[Sj,yr,ez]at rk;rw[rk.strs]at hu;exact rC hu
 refine yH (uK (κ:=strKind) (Q:=Q) (b:=b) strKind_oneLt I WU (by lia) Xl Xm ht T w0 (λks us H' w1 v1 l1=>{Iv<|kv ks us H' w1 v1,λnU nV rest e=>keyKind_strs<|by rw[<-e];exact kv ks us H' w1 v1}) λH' ks us g D w1 v1 l1 sr hD=>?_) (λu s' z=>drop z) λ_ _ z=>z;have sk:=kv ks us H' w1 v1;obtain⟨S',sb,rs,kp,rk⟩:=w1;rw[Sj]at sr⊢;refine(hR.kp kp).new rs hD (λhp=>fin g S' D {sr.lt,sr.inj,λi j lQ hj=>?_} sb hp)<|vR (RvAll.ts kp _ rv) g _ λk hk=>sr.lt k<|zV.mp hk;have h1:=sr.lt i (by lia);have h2:=sr.lt j hj;have:=sr.ord i j lQ hj;rw[rF sk _<|by lia,rF sk _<|by lia]at this;rw[ka _ h1,ka _ h2];rcases this with z|⟨z1,z2⟩;left;cases b with|false=>rw[if_neg zd]at z⊢;show(zs.getD (g i) "").cps.toList<(zs.getD (g j) "").cps.toList;exact zt z|true=>rw[if_pos rfl]at z⊢;show(zs.getD (g j) "").cps.toList<(zs.getD (g i) "").cps.toList;exact zt z
 exact .inr {by rw[ZO z1],z2};have ZZ:zs.length=xs.length:=by have:=congrArg List.length ez;rw[zb,zb]at this;exact this.symm
 have ka:∀j,j<xs.length->fD (xs.getD j .av)=.int (zs.getD j 0):=λj hj=>by have e1:=Iy (f:=fD) hj;rw[ez,zf,zg<|by lia]at e1;rw[zJ (l:=zs),zg<|by lia];exact(zU e1).symm
 have kv:∀ks us H',(∃S',Sub S1 S'/\Rs Y.K S' H'/\Kp Y.K H H'/\RvAll Y.K H' ((xs.take vs.length).map fD) ks)->Vals ks us->IntsAre us zs:=λks us H' ⟨S',_,_,_,rk⟩ hu=>by rw[Sj,yr,ez]at rk;rw[rk.ints]at hu;exact rE hu
 refine yH (uK (κ:=intK) (Q:=Q) (b:=b) Il I WU (by lia) Xl Xm ht T w0 (λks us H' w1 v1 l1=>{Iw<|kv ks us H' w1 v1,λnU nV rest e=>keyKind_ints<|by rw[<-e];exact kv ks us H' w1 v1}) λH' ks us g D w1 v1 l1 sr hD=>?_) (λu s' z=>drop z) λ_ _ z=>z;have sk:=kv ks us H' w1 v1;obtain⟨S',sb,rs,kp,rk⟩:=w1;rw[Sj]at sr⊢;refine(hR.kp kp).new rs hD (λhp=>fin g S' D {sr.lt,sr.inj,λi j lQ hj=>?_} sb hp)<|vR (RvAll.ts kp _ rv) g _ λk hk=>sr.lt k<|zV.mp hk;have h1:=sr.lt i (by lia);have h2:=sr.lt j hj;have:=sr.ord i j lQ hj;rw[rG sk _<|by lia,rG sk _<|by lia]at this;rw[ka _ h1,ka _ h2];rcases this with z|⟨z1,z2⟩;left;cases b with|false=>rw[if_neg zd]at z⊢;show zs.getD (g i) 0<zs.getD (g j) 0;exact zt z|true=>rw[if_pos rfl]at z⊢;show zs.getD (g j) 0<zs.getD (g i) 0;exact zt z
 exact .inr {by rw[z1],z2}
end
section
variable{K:Frag}{X:Cx}{N:List Str}{src:List (Option Nat)}{scope:Scope}{params:Arguments}{e body:Expr}{q p x:Str}{np pos lp kq kq2 cp:Pos}{ci}{tl te:TD}{k:Nat}{c P:Addr}
theorem Vn.kp{pins:List<|Addr×Obj}{τ:St}{H H':Hp}{u:Value}{s':Shared}{f:Addr}{pm cv mh:Value}{Y:Cx}(L:Vn Y pins τ H H' P q params body scope u s' f pm cv mh){ps:Array Value}(hP:H P=some (.qk ps)):Kp K H H':=.of λb o e=>by rcases L.same b with z|⟨z,_⟩|⟨z,_⟩;exact .inl (by rw[z];exact e);rw[z,hP]at e;cases e;exact .inr {λ_=>nofun,λ_ _=>nofun};rw[z]at e;cases e
theorem Vn.rs{pins:List<|Addr×Obj}{τ:St}{H H':Hp}{u:Value}{s':Shared}{f:Addr}{pm cv mh:Value}{Y:Cx}{S:au}(L:Vn Y pins τ H H' P q params body scope u s' f pm cv mh)(hS:Rs K S H)(ht:S P=some (.tab q)):Rs K S H':=λb x hb=>by obtain⟨ps,hP,_⟩:=hS P _ ht;have kp:Kp K H H':=L.kp hP;rcases L.same b with z|⟨rfl,Sl,z1,z2⟩|⟨z,_⟩;exact(hS b x hb).keep (λo e=>by rw[z];exact e) kp;rw[ht]at hb;cases hb;exact⟨Sl,z1,z2⟩;obtain⟨o,e,_⟩:=(hS b x hb).has;rw[z]at e;cases e
theorem Vq(oY:X.env.code=.ref c)(mk:ZV K X.mg X.base c P)(hr:bV k X.A)(CS:bM X N src scope)(hl:DE K X e tl)(he:∀f cv s H,DE K (Si X N q scope f cv X.A.in1.in1 s H) body te)(hm:X.mg x=none)(hv:bootBuiltins x=some (.builtin "sorted")) (hq:autoParam (X.env.qual ++ "<lambda>"= q) qQJ) (LS:autoParam (N[0]?=some p) qQJ) (hp:autoParam (scope.names.lookup p=some .local) qQJ) (h0:autoParam (src[0]?=some none) qQJ) (LU:autoParam (scope.isCoroutine=false) qQJ) (Cb:autoParam (scope.isGenerator=false) qQJ) (hb:autoParam (∀cl pm cv mh u,bindArgs (kla_fn "<lambda>" q params body scope cl pm cv mh) {[u],[]}=pure [(p,u)]) qJ3) (Ir:autoParam (defaultsOf params X.env=([],[])) qQJ) (hg:autoParam (Gl X x) qQJ) (hn:autoParam (x≠"__name__") qQZ) (pW:autoParam ((x==("__debug__": Str))=false) qQZ) (Z1:autoParam (backTo pos (starEach [e] X.env)=(false,eval e X.env)::backTo pos (starEach [] X.env)) qQJ) (dO:autoParam ((backTo pos<|starEach [e] X.env).any (·.1)=false) qQJ) (Z2:autoParam (isPlain e=true) qQJ) (hK:autoParam (X.K=K) qQJ) (hC:autoParam (X.calm=true) qQJ): DE K X (.Call (.Name x np) [e] [{some "key",.Lambda params body scope lp,kq}] pos) (N4 false P q src tl te):=by subst hK;refine⟨λy=>?_⟩;rintro pins s τ H Q I ⟨σ,S,R,Z,aB,hS,t,hR,hZ⟩;refine wpAny_Call_Name_kw<|gG I hg hm hv ?_ hn pW;refine callWith_kw (br (((ac hl an Z2).of y) pos pins s τ H (λvs H1=>∃ds S1,Iu (Ab false P q src te σ R) ds S1/\RvAll X.K H1 ds vs/\Rs X.K S1 H1/\Kp X.K H H1) I {σ,S,Iu<|Ab false P q src te σ R,Z,aB,hS,t,λds S1 vs H1 r rv rs k1=>⟨ds,S1,r,rv,rs,k1⟩,hZ}) λus s1 ⟨vs,H1,I1,r1,ds,S1,r,rv,rs,k1⟩=>?_) Z1 dO;obtain⟨d,rfl,l,xs,fD,rfl,el,p5,et,kd,step,fin⟩:=DZ r;obtain⟨v,YQ,rfl,Vr,Sn⟩:=rv.cons;cases Sn.nil;cases Vr.ref;obtain⟨u,rfl,ru⟩:=vals1 r1;cases ru;obtain⟨ps,hP,aM⟩:=rs P _ et;refine kws_cons<|y_ I1 ⟨CS.kind,CS.gI,CS.loc,CS.Ba,CS.len,CS.src⟩ oY mk hP aM hq Ir λw s2 H2 f pm cv mh L=>?_;refine kws_nil ?_;cases L.u;have k2:Kp X.K H1 H2:=L.kp hP;exact Ac L.inv rfl hC hr L.code ⟨CS.kind,CS.gI,CS.loc,CS.Ba,CS.len,CS.src⟩ LS hp h0 LU Cb hb (he f) ((aB.ts k1).ts k2) (L.rs rs et) el p5 kd step (hR.kp<|k1.trans k2) fin (ksk_s1 _ _) (λx=>ksk_l1 _ _) λx=>ksk_t1 _ _
theorem N5(oY:X.env.code=.ref c)(mk:ZV K X.mg X.base c P)(hr:bV k X.A)(CS:bM X N src scope)(hl:DE K X e tl)(he:∀f cv s H,DE K (Si X N q scope f cv X.A.in1.in1 s H) body te)(hm:X.mg x=none)(hv:bootBuiltins x=some (.builtin "sorted")) (hq:autoParam (X.env.qual ++ "<lambda>"= q) qQJ) (LS:autoParam (N[0]?=some p) qQJ) (hp:autoParam (scope.names.lookup p=some .local) qQJ) (h0:autoParam (src[0]?=some none) qQJ) (LU:autoParam (scope.isCoroutine=false) qQJ) (Cb:autoParam (scope.isGenerator=false) qQJ) (hb:autoParam (∀cl pm cv mh u,bindArgs (kla_fn "<lambda>" q params body scope cl pm cv mh) {[u],[]}=pure [(p,u)]) qJ3) (Ir:autoParam (defaultsOf params X.env=([],[])) qQJ) (hg:autoParam (Gl X x) qQJ) (hn:autoParam (x≠"__name__") qQZ) (pW:autoParam ((x==("__debug__": Str))=false) qQZ) (Z1:autoParam (backTo pos (starEach [e] X.env)=(false,eval e X.env)::backTo pos (starEach [] X.env)) qQJ) (dO:autoParam ((backTo pos<|starEach [e] X.env).any (·.1)=false) qQJ) (Z2:autoParam (isPlain e=true) qQJ) (hK:autoParam (X.K=K) qQJ) (hC:autoParam (X.calm=true) qQJ): DE K X (.Call (.Name x np) [e] [{some "key",.Lambda params body scope lp,kq},{some "reverse",.Constant (.bool true) ci cp,kq2}] pos) (N4 true P q src tl te):=by subst hK;refine⟨λy=>?_⟩;rintro pins s τ H Q I ⟨σ,S,R,Z,aB,hS,t,hR,hZ⟩;refine wpAny_Call_Name_kw<|gG I hg hm hv ?_ hn pW;refine callWith_kw (br (((ac hl an Z2).of y) pos pins s τ H (λvs H1=>∃ds S1,Iu (Ab true P q src te σ R) ds S1/\RvAll X.K H1 ds vs/\Rs X.K S1 H1/\Kp X.K H H1) I {σ,S,Iu<|Ab true P q src te σ R,Z,aB,hS,t,λds S1 vs H1 r rv rs k1=>⟨ds,S1,r,rv,rs,k1⟩,hZ}) λus s1 ⟨vs,H1,I1,r1,ds,S1,r,rv,rs,k1⟩=>?_) Z1 dO;obtain⟨d,rfl,l,xs,fD,rfl,el,p5,et,kd,step,fin⟩:=DZ r;obtain⟨v,YQ,rfl,Vr,Sn⟩:=rv.cons;cases Sn.nil;cases Vr.ref;obtain⟨u,rfl,ru⟩:=vals1 r1;cases ru;obtain⟨ps,hP,aM⟩:=rs P _ et;refine kws_cons<|y_ I1 ⟨CS.kind,CS.gI,CS.loc,CS.Ba,CS.len,CS.src⟩ oY mk hP aM hq Ir λw s2 H2 f pm cv mh L=>?_;refine kws_cons<|br (Nn (X:=y.cx) _ s2 τ H2 (λv H'=>v=.bl true/\H'=H2) L.inv ⟨rfl,rfl⟩) λw2 s3 ⟨v2,H3,I3,r3,e3,e4⟩=>?_;subst e3 e4;obtain rfl:w2=Value.bool true:=r3;refine kws_nil ?_;cases L.u;have k2:Kp X.K H1 H3:=L.kp hP;exact Ac I3 rfl hC hr L.code ⟨CS.kind,CS.gI,CS.loc,CS.Ba,CS.len,CS.src⟩ LS hp h0 LU Cb hb (he f) ((aB.ts k1).ts k2) (L.rs rs et) el p5 kd step (hR.kp<|k1.trans k2) fin (ksk_s2 _ _ _) (λx=>ksk_l2 _ _ _) λx=>ksk_t2 _ _ _
end
section
variable{P:Program}{w:World}{K:Frag}{mg:Str->Option Value}{base:Heap}
theorem vM.okC{x qual:Str}{st:Stmt}{f:Addr}{fd:FuncData}{N ps:List Str}{k:Nat}{sp:kI}(F:vM K x qual st f fd)(S:gw N ps<|ae st)(len:∀ds S R Z,sp ds S R Z->ds.length=ps.length) (mm:∀(gY:Value)(A:Around)(outer:List Env)(s:Shared)(H:Hp)(E:XK)(ds:List D)(S:au)(R:KD)(Z:KX),gY=fd.code->bV k (A.deeper<|envOfC qual (ae st) s.heap.objs.size f gY)->sp ds S R Z->∃t,GP K (kG (fH P w mg) P w K mg base N qual (ae st) f gY A outer s H E) true (aU st) t/\t {nx:=λ_ S'=>Fo S'<|R .av,rt:=λd S'=>Fo S'<|R d} (jA N ds) S λ_ C S'=>Fo S'<|Z C):bK P w K mg base (fH P w mg) (k+1) f fd ps (qv K sp):=by
 obtain⟨oc,od,dV,kV,doc,pm,an,gY,ct,Pp,rfl,lk,sZ⟩:=F.ex;have dO:ps.length<=N.length:=by have:=congrArg List.length S.pre;rw[yz]at this;lia
 refine Ny lk sZ S (by rintro vs H Q E ⟨ds,S',R,Z,v,_,h,_⟩;exact by rw[v.len];exact len _ _ _ _ h) λA outer s H vs Q E hr ⟨ds,S',R,Z,v,hS,h,hR,hZ⟩=>?_;obtain⟨t,ht,q⟩:=mm gY A outer s H E ds S' R Z rfl hr h;have L:dj (kG (fH P w mg) P w K mg base N qual (ae st) f gY A outer s H E) E:=uC;let y:Ev (kG (fH P w mg) P w K mg base N qual (ae st) f gY A outer s H E) true:={_,(kG (fH P w mg) P w K mg base N qual (ae st) f gY A outer s H E).xe,λ_=>E,{λp2 τ H1 s1 e s' I h=>NF L p2 τ H1 s1 e s' I h,λ_ p2 τ H1 s1 h' a cls args I hx he=>oW L I hx he,λ_=>PassesOwn.leaving}};refine{L2.Tl K (λ_=>E) t,ht.of y,jA N ds,S',_,λ_ C S'=>Fo S'<|Z C,?_,hS,q,{by rintro σ S1 τ H1 ⟨S2,sb,r⟩ a b c;exact(hR.kp c).now (b.sub sb) r fI,by rintro d S1 v H1 ⟨S2,sb,r⟩ a b c;exact hR _ _ _ _ r a (b.sub sb) c,λ_ _ _ _ z=>z.elim,λ_ _ _ _ z=>z.elim},by rintro σ τ C S1 H1 ⟨S2,sb,r⟩ a b c;exact hZ C S2 H1 r (b.sub sb) c};unfold jA start;refine(rl v).app ?_;rw[v.len];exact rj _ _<|by rw[List.length_replicate]
end
structure Ad(ts:List Addr)(H:Hp):Prop where
 all:∀b,H b=none\/(∃o xs,H b=some (.lK o<|.lst xs))\/(b∈ts/\H b=some (.qk #[]))
 tab:∀b∈ts,H b=some (.qk #[])
theorem FI{P:Program}{w:World}{K:Frag}{mg mb:Str->Option Value}{CX:By}{k:Nat}{fa a:Addr}{fd:FuncData}{x:Str}{sp:Sp}{bc:Shared}{vs:List Value}{ns:List Int}{ts:List Addr} (KX:K.In bc.heap) (QB:bc.heap.Ns mainGlobals mg) (hb:bc.heap.Ns builtinsNs mb) (hbb:∀x:Str,x≠"__name__"->mb x=bootBuiltins x) (Z3:bc.heap.NoLimit) (hbm:Bm mg bc.heap) (hg:bc.gens=#[]) (hT:∀b∈ts,bc.heap.get? b=some (tabObj #[])) (hC:∀b∈ts,isCodeTable bc.heap b) (hN:∀b∈ts,K.lookup b=none) (ha:bc.heap.get? a=some {cls:=.type "list",data:=.seq vs.toArray}) (hi:IntsAre vs ns) (hl:ns.length<=sizeLine) (hr:bV k callerA) (F:∀base:Heap,Bm mg base->K.In base->base.Ns mainGlobals mg->bK P w K mg base CX k fa fd [x] sp) (Vs:∀(s:Shared) (u:Value),BindsTo s fd {[u],[]} [(x,u)]) (R3:∀H:Hp,Ad ts H->kh K H a (ns.map V.int)->sp [.ref a] H (λv _=>v=.bl true) λ_ _ _=>False) (Z4:∀H e s',CX [] H bc (λ_ _ _=>False) e s'->False): codeAny (model P w) callerA (.call (.ref fa) {[.ref a],[]}) (λr s'=>r=.ok (.ret<|.bool true)/\OldK bc.heap s'.heap/\s'.os=bc.os/\AllBare s'.gens) bc:=by
 have rv:=uy hi;have Z5:=hi.length;have Xd:a∉ts:=λz=>by rw[hT a z]at ha;cases ha
 have core:∀H:Hp,Ad ts H->kh K H a (ns.map V.int)->lL P w H bc.heap->(∀b,H b≠none->b=a\/b∈ts)->(H a≠none->K.lookup a=none)->codeAny (model P w) callerA (.call (.ref fa) {[.ref a],[]}) (λr s'=>r=.ok (.ret<|.bool true)/\OldK bc.heap s'.heap/\s'.os=bc.os/\AllBare s'.gens) bc:=by intro H hO hS aM hA hK;have vS:∀{b:Addr}{o:Obj},bc.heap.get? b=some o->H b=none->(tG bc.heap H).get? b=some o:=λe n=>GW e n;have KL:∀{b:Addr}{o:Obj}{es:Array DictEntry}{ep:Nat},bc.heap.get? b=some o->o.data=.dict es ep->H b=none:=λ{b o es ep} e d=>(by cases q:H b with|none=>rfl|some u=>rcases hA b (by rw[q];simp) with e'|e';subst e';rw[ha]at e;cases e;have d':Data.seq vs.toArray _=Data.dict es ep:=d;cases d';rw[hT b e']at e;cases e;cases d);have Xq:∀{b:Addr}{m:Str->Option Value},bc.heap.Ns b m->(tG bc.heap H).Ns b m:=λ{b m} ⟨o,es,ep,e,d,r⟩=>{o,es,ep,vS e<|KL e d,d,r};have hKb:K.In (tG bc.heap H):=λb o e=>vS (KX b o e) (by cases q:H b with|none=>rfl|some u=>rcases hA b (by rw[q];simp) with e'|e';subst e';rw[hK<|by rw[q];simp]at e;cases e;rw[hN b e']at e;cases e);have hM:Mod K mg (tG bc.heap H):={hKb,Xq QB,{mb,Xq hb,hbb},by obtain⟨mc,h1,h2⟩:=Z3;exact{mc,Xq h1,h2}};have e0:xK P w K mg (tG bc.heap H) callerA [] bc H:={rfl,hM,λb o e=>Kk e,Nat.le_of_eq<|ES _ _,trivial,λb hb=>absurd (show b∈([]:List Addr) from hb)<|by simp,aM,.of_eq hg};have hBm:Bm mg (tG bc.heap H):=(by obtain⟨bm,ob,b1,b2,b3,b4,b5,b6⟩:=hbm;refine{bm,ob,b1,b2,vS b3 ?_,b4,b5,b6};cases q:H bm with|none=>rfl|some u=>rcases hA bm (by rw[q];simp) with e'|e';rw[e',ha]at b3;cases b3;cases b6;rw[hT bm e']at b3;cases b3;cases b4);refine yU ((F _ hBm hKb<|Xq QB).run callerA [] bc H {[.ref a],[]} [.ref a] [.ref a] _ _ hr e0 (Vs bc<|.ref a) (.cons rfl .nil)<|R3 H hO hS) λr s' h=>?_;cases r with|error e=>exact(Z4 H e s' h).elim|ok fl=>cases fl with|next=>exact False.elim h|brk=>exact False.elim h|cont=>exact False.elim h|ret u=>obtain⟨v,H',os,bare,un,Vt,r',q⟩:=h;have q':v=.bl true:=q;subst q';obtain rfl:u=Value.bool true:=r';refine{rfl,{λb o e=>?_,λb o e=>un.there b o e<|by simp},os,bare};rcases hO.all b with z|⟨ob,xs,z⟩|⟨z1,z⟩;exact .inl<|un.keep b o e z (by intro z;exact absurd (show b∈([]:List Addr) from z)<|by simp) (by simp);have z2:=un.lM b ob _ z;obtain⟨e1,_⟩:=aM b _ z;obtain⟨e2,_⟩:=Vt b _ z2;rw[e]at e1;cases e1;exact .inl e2;obtain⟨more,z2⟩:=un.lN b _ z;have e2:=hT b z1;rw[e]at e2;cases e2;exact .inr<|.inl {hC b z1,rfl,#[],more,rfl,by have:=Vt b _ z2;exact this}
 have tabs:∀(H:Hp),(∀b,b∈ts->H b=some (.qk #[]))->∀b u,b∈ts->H b=some u->bt P w H bc.heap b u:=λH h b u hb e=>by rw[h b hb]at e;cases e;exact hT b hb
 cases hk:K.lookup a with|some o=>(have e:=KX a o hk;rw[ha]at e;cases e;refine core (λb=>if b∈ts then some (.qk #[]) else none) {λb=>?_,λb hb=>if_pos hb} (.inr {_,vs.toArray,_,hk,rfl,rfl,rfl,by rw[zq,Z5];exact hl,by simpa using rv}) (λb u z=>?_) (λb z=>?_) λz=>absurd (if_neg Xd) z;by_cases hb:b∈ts;exact .inr<|.inr {hb,if_pos hb};exact .inl<|if_neg hb;by_cases hb:b∈ts;exact tabs _ (λb hb=>if_pos hb) b u hb z;have z':=(if_neg hb).symm.trans z;cases z';by_cases hb:b∈ts;exact .inr hb;exact absurd (if_neg hb) z)|none=>refine core (λb=>if b=a then some (.lK {cls:=.type "list",data:=.seq vs.toArray}<|.lst<|ns.map V.int) else if b∈ts then some (.qk #[]) else none) {λb=>?_,λb hb=>?_} (.inl<|.inr {{cls:=.type "list",data:=.seq vs.toArray},if_pos rfl}) (λb u z=>?_) (λb z=>?_) λ_=>hk;by_cases hb:b=a;exact .inr<|.inl {_,_,if_pos hb};by_cases Kc:b∈ts;exact .inr<|.inr {Kc,(if_neg hb).trans<|if_pos Kc};exact .inl<|(if_neg hb).trans<|if_neg Kc;have:b≠a:=λz=>Xd<|z ▸ hb;exact(if_neg this).trans<|if_pos hb;by_cases hb:b=a;have z':=(if_pos hb).symm.trans z;cases z';subst hb;exact{ha,by rw[zb];exact hl,vs,_,rv,ha};have z':=(if_neg hb).symm.trans z;by_cases Kc:b∈ts;have z2:=(if_pos Kc).symm.trans z';cases z2;exact hT b Kc;have z2:=(if_neg Kc).symm.trans z';cases z2;by_cases hb:b=a;exact .inl hb;by_cases Kc:b∈ts;exact .inr Kc;exact absurd ((if_neg hb).trans<|if_neg Kc) z
theorem D0:∀{K:Frag},b∉K.map (·.1)->K.lookup b=none|[],_=>rfl| (a,o)::K,h=>by rw[zu,zi,not_or]at h;rw[yf,show(b==a)=false from beq_false_of_ne h.1];exact D0 h.2
theorem LW{K:Params->Frag}{as:List Addr}{e:∀P,as=(K P).map (·.1)}{ts:List Addr}{w:World}{h:Heap}(_:(PySem.W.kmHook K as e ts).says w h)(d:∀b∈ts,b∉as):∀b∈ts,(K w.params).lookup b=none:=λb hb=>D0<|by rw[<-e];exact d b hb
theorem Iz{l:PySem.W.OpenLaw}{n k:Nat}{q:Program}{loose:List Str}{XP:(Str->Option Value)->Heap->Prop}{YP:World->Heap->Prop}{d:DefRec}{K:Params->Frag}{CX:By}{x:Str}{ts:List Addr} (hn:l.most=some n) (Nw:n<=sizeLine) (YA:d.params.defaults=[]) (hr:bV k callerA) (hY:∀(w:World)(h:Heap),YP w h->(K w.params).In h) (hT:∀(w:World)(h:Heap),YP w h->∀b∈ts,h.get? b=some (tabObj #[])) (hN:∀(w:World)(h:Heap),YP w h->∀b∈ts,(K w.params).lookup b=none) (F:∀(w:World)(mg:Str->Option Value)(fa:Addr)(h:Heap),(K w.params).In h->h.Ns mainGlobals mg->mg d.name=some (.ref fa)->∃(fd:FuncData)(sp:Sp),(∀b∈ts,∃c,codeHdIn (K w.params) c b=true)/\(∀(s:Shared)(u:Value),BindsTo s fd {[u],[]} [(x,u)])/\(∀base:Heap,Bm mg base->(K w.params).In base->base.Ns mainGlobals mg->bK l.prog w (K w.params) mg base CX k fa fd [x] sp)/\∀(H:Hp)(a:Addr)(ns:List Int),ns.length<=n->Ad ts H->kh (K w.params) H a (ns.map V.int)->sp [.ref a] H (λv _=>v=.bl true) λ_ _ _=>False) (Z4:∀(H:Hp)(s:Shared)(e:Value)(s':Shared),CX [] H s (λ_ _ _=>False) e s'->False): PySem.W.WalkO q loose XP YP l.row.toRowW d [] (λf vs=>PySem.call f vs):=by refine Att.xS hn YA λw dG bc mg mb fa o pm cd doc a vs ns G Y ho hd sZ PN PQ hints hlen hg=>?_;have KX:=hY w _ Y;obtain⟨fd,sp,hC,hb,hF,R3⟩:=F w mg fa _ KX G.T.g PN;have hT':=hT w _ Y;exact FI KX G.T.g G.T.b G.T.builtins G.T.nolimit G.T.bmain hg hT' (λb z=>by obtain⟨c,hc⟩:=hC b z;exact((codeHd_of_K KX hc).tab<|hT' b z).isCodeTable) (hN w _ Y) PQ hints (zO hlen Nw) hr hF hb (λH hO hS=>R3 H a ns hlen hO hS) λH e s'=>Z4 H bc e s'
namespace Rt
theorem own:Manifest.owners.lookup (String.ofList ['d','e','s','r','e','v','e','r'].reverse)=some Manifest.sig_reversed:=by kernel_rfl
theorem mH:Slot "reversed" "__next__" "reversed.__next__":=.of (owner:="reversed") (n:="__next__") (by rw[typeLookup_type,builtinLookup_eq_fast];kernel_rfl) (by trivial) (by trivial) (by trivial) (by first|exact .inl (by trivial)|exact .inr (by trivial))<|by rw[isSubtype_type];kernel_rfl
theorem D1:entryFor table "reversed.__next__"= some Builtin.«reversed.__next__»:=entryFor_of_tree<|by kernel_rfl
theorem D5(a:Value):argsOk "reversed.__next__" {[a],[]}:=by unfold argsOk;rw[signature?_of (id:="reversed.__next__") (n:=['_','_','t','x','e','n','_','_']) (o:=['d','e','s','r','e','v','e','r']) (by kernel_rfl) own];kernel_rfl
theorem D8:Slot "reversed" "__iter__" "reversed.__iter__":=.of (owner:="reversed") (n:="__iter__") (by rw[typeLookup_type,builtinLookup_eq_fast];kernel_rfl) (by trivial) (by trivial) (by trivial) (by first|exact .inl (by trivial)|exact .inr (by trivial))<|by rw[isSubtype_type];kernel_rfl
theorem LX(a:Value):argsOk "reversed.__iter__" {[a],[]}:=by unfold argsOk;rw[signature?_of (id:="reversed.__iter__") (n:=['_','_','r','e','t','i','_','_']) (o:=['d','e','s','r','e','v','e','r']) (by kernel_rfl) own];kernel_rfl
theorem LY:entryFor table "reversed.__iter__"= some Builtin.«dict_keyiterator.__iter__»:=entryFor_alias (id':="dict_keyiterator.__iter__") (by kernel_rfl) (by first|rfl|decide +kernel|(unfold String.splitOn;simp +decide [String.splitOnAux])) (by trivial)<|by kernel_rfl
theorem LZ:Slot "reversed" "__init__" "object.__init__":=.of (owner:="object") (n:="__init__") (by rw[typeLookup_type,builtinLookup_eq_fast];kernel_rfl) (by trivial) (by trivial) (by trivial) (by first|exact .inl (by trivial)|exact .inr (by trivial))<|by rw[isSubtype_type];kernel_rfl
theorem called:TypeCalled "reversed" "reversed.__new__" "object.__init__":={by trivial,by trivial,{_,_,F.mro_reversed},F.made_reversed,by trivial,by rw[isSubtype_type];kernel_rfl,LZ}
theorem QG:typeLookup (.type "tuple") "__reversed__"= pure none:=by rw[typeLookup_type,builtinLookup_eq_fast];kernel_rfl
theorem D9:typeLookup (.type "tuple") "__getitem__"= pure (some<|.builtin "tuple.__getitem__"):=by rw[typeLookup_type,builtinLookup_eq_fast];kernel_rfl
theorem L3:isSubtype (.type "tuple") (.type "dict")=pure false:=by rw[isSubtype_type];kernel_rfl
end Rt
noncomputable def Ae(l:Addr)(i:Int):Obj:={cls:=.type "reversed",data:=.fields #[.ref l,rawInt i]}
def rH(h:Heap)(a l:Addr)(i:Int):Prop:=∃o,h.get? a=some o/\o.cls=.type "reversed"/\o.data=.fields #[.ref l,rawInt i]
section
variable{prog:Program}{w:World}{A:Around}{E:Value->Shared->Prop}{s:Shared}
theorem rH.typeIs(x:rH s.heap a l i):s.TypeIs (.ref a) "reversed":=by obtain⟨o,ho,hc,_⟩:=x;exact⟨o,ho,hc⟩
theorem rH.keep(x:rH h a l i)(e:∀o,h.get? a=some o->h'.get? a=some o):rH h' a l i:=by obtain⟨o,ho,r⟩:=x;exact{o,e _ ho,r}
theorem QH(hl:IsTup s.heap l items)(hz:items.size<=sizeLine)(h:Q₁ (.ref s.heap.objs.size) {s with heap:=s.heap.push<|Ae l<|(items.size:Int)-1,toks:=s.toks+1+1}): codeAny (model prog w) A (.call (.builtin "reversed.__new__") {[.type "reversed",.ref l],[]}) (wants Q₁ E) s:=by
 refine codeAny_of_tree ?_;show wpAny _ A.in1 (do checkBuiltinCall "reversed.__new__" {[.type "reversed",.ref l],[]};again (.builtin "reversed.__new__" {[.type "reversed",.ref l],[]})) _ _ s;refine zc<|yX (F.newCall_reversed_1 _)<|zD {plainId_quiet F.plain_reversed_new _,yQ F.entry_reversed_new ?_};rw[Around.under_plainId F.plain_reversed_new _];unfold Builtin.«reversed.__new__»;refine zc<|yX (newClass_reversed _) ?_;refine zc<|yX (a:=()) (by first|rfl|kernel_rfl)<|zc<|yX (a:=()) (by first|rfl|kernel_rfl) ?_;refine zc<|wpAny_specialOf hl.typeIs Rt.QG ?_;refine zc<|zc<|wpAny_isInstance hl.typeIs Rt.L3<|zc<|wpAny_specialOf hl.typeIs Rt.D9 ?_;show wpAny _ _ (if (["tuple.__getitem__","str.__getitem__","bytes.__getitem__","bytearray.__getitem__","memoryview.__getitem__","numpy.ndarray.__getitem__","sqlite3.Row.__getitem__"]:List String).contains "tuple.__getitem__"= true then pure true else _) _ _ _;rw[if_pos<|by trivial];refine zD ?_
 show wpAny _ _ (do
     let nW <-call (Value.builtin "len") [Value.ref l]
     let __x <-asInt? nW
     match __x with
      |some n=>do
       let nW <-Builtin.SmallTypes.newRecord (Value.type "reversed") [Value.ref l,rawInt (n-1)]
       ret nW
      |x=>unsupported "internal:reversed.__new__") _ _ _
 refine zc<|len_tuple hl (by rw[yd]at hz;lia) ?_;refine zc<|yX (a:=some ((items.size:Nat):Int)) rfl ?_;exact zc (m:=newObj (.type "reversed")<|.fields #[.ref l,rawInt<|((items.size:Nat):Int)-1])<|yI<|zD h
theorem L4(hl:IsTup s.heap l items)(hz:items.size<=sizeLine)(h:Q (.ref s.heap.objs.size) {s with heap:=s.heap.push<|Ae l<|(items.size:Int)-1,toks:=s.toks+1+1}): wpAny (model prog w) A (call (.type "reversed") [.ref l]) Q E s:=by refine callType_codes Rt.called (F.typeCall_reversed_1 _) F.entry_object_init (Q₁:=λobj bc=>bc.TypeIs obj "reversed"/\Q obj bc) (QH hl hz {{_,zk _ rfl,rfl},h}) λobj bc h₁=>?_;exact{h₁.1,F.args_object_init_2 obj _,object_init_meets Rt.called.init.lookup Rt.called.made (by decide) prog w A.in1 _ bc ⟨h₁.1,rfl,h₁.2⟩}
theorem sqx(h:k<n):seqIndex? ((k:Nat):Int) n=some k:=by have e:(if ((k:Nat):Int)<0 then ((k:Nat):Int)+(n:Int) else ((k:Nat):Int))=((k:Nat):Int):=if_neg (by lia);unfold seqIndex?;dsimp only;rw[e,if_pos<|by simp;lia];rfl
theorem L5{it l:Addr}{i:Nat}{items:Array Value}{x:Value}{Q:Option Value->Shared->Prop}(hit:rH s.heap it l (i:Int))(hl:IsTup s.heap l items)(hz:items.size<=sizeLine)(hx:items[i]?=some x) (hQ:∀h' tk,rH h' it l ((i:Int)-1)->Heap.SameBut it s.heap h'->Q (some x) {s with heap:=h',toks:=tk}):wpAny (model prog w) A (pyNext<|.ref it) Q E s:=by obtain⟨o,ho,hc,hd⟩:=id hit;have hi:i<items.size:=(Array.getElem?_eq_some_iff.mp hx).1;unfold pyNext;refine zc<|wpAny_attempt<|wpAny_callSpecial?_slot (name:=Str.ofString "__next__") hit.typeIs Rt.mH<|yM Rt.mH hit.typeIs Rt.D1 ?_<|Rt.D5 _;unfold Builtin.«reversed.__next__»;refine zc<|yX (a:=(Value.ref it,[])) rfl<|zc<|yi ho hd (x:=.ref l) rfl<|zc<|yi ho hd (x:=rawInt (i:Int)) rfl ?_;show wpAny _ _ (if (i:Int)<0 then _ else _) _ _ s;rw[if_neg<|by lia];show wpAny _ _ (specialOf (.ref l) "__getitem__" >>=_) _ _ s;refine zc<|wpAny_specialOf hl.typeIs Rt.D9 ?_;show wpAny _ _ (mkInt (i:Int) >>=_) _ _ s;refine zc<|wpAny_mkInt ?_;refine zc<|wpAny_attempt<|getItem_tuple (j:=i) hl (by lia) (by rw[yd]at hz;lia) (sqx hi) hx ?_;refine zc<|yi ho hd (x:=rawInt (i:Int)) rfl ?_;show wpAny _ _ (setField (.ref it) 1 (rawInt<|(i:Int)-1) >>=λ_=>ret x) _ _ _;refine zc<|yS ho hd (by simp)<|zD {x,rfl,zD<|hQ _ _ ?_<|yB ..};exact{_,yw _ ho<|Obj.isFreed_of_fields<|yy hd _,(Obj.cls_mapFields ..).trans hc,by rw[yy hd];simp}
theorem QI(hh:A.handled=none)(hit:rH s.heap it l (-1))(hQ:∀h',Heap.ExtBut it s.heap h'->Q none {s with heap:=h'}):wpAny (model prog w) A (pyNext<|.ref it) Q E s:=by
 obtain⟨o,ho,hc,hd⟩:=id hit;unfold pyNext;refine zc<|wpAny_attempt<|wpAny_callSpecial?_slot (name:=Str.ofString "__next__") hit.typeIs Rt.mH<|yM Rt.mH hit.typeIs Rt.D1 ?_<|Rt.D5 _;unfold Builtin.«reversed.__next__»;refine zc<|yX (a:=(Value.ref it,[])) rfl<|zc<|yi ho hd (x:=.ref l) rfl<|zc<|yi ho hd (x:=rawInt (-1)) rfl ?_;show wpAny _ _ (if (-1:Int)<0 then _ else _) _ _ s;rw[if_pos<|by decide];refine zc<|wpAny_rule ?_;have hd1:=yy hd (·.setIfInBounds 1 (rawInt (-1)));have Sk:=yw (Obj.mapFields (·.setIfInBounds 1 (rawInt (-1)))) ho<|Obj.isFreed_of_fields hd1;refine zc (m:=setField (.ref it) 1 (rawInt (-1)) >>=λ_=>setField (.ref it) 0 .none)<|zc<|yS ho hd (by simp)<|yS Sk hd1 (by simp) ?_;have eb:Heap.ExtBut it s.heap ((s.heap.update it (Obj.mapFields (·.setIfInBounds 1 (rawInt (-1))))).update it (Obj.mapFields (·.setIfInBounds 0 Value.none))):=λb u hb e=>by rw[yq _ _<|Ne.symm hb,yq _ _<|Ne.symm hb];exact e
 refine zc ?_;show wpAny _ _ (newExc (.type "StopIteration") [] >>=_) _ _ _;refine zc ?_;simp only[newExc,newTuple];refine zc<|yI ?_ (by size_fits);refine zc (m:=firstArgMember _ _)<|yX (a:=Value.none) (by first|rfl|(simp only[firstArgMember];rfl)) ?_;refine yI ?_ (by size_fits);simp only[raiseNew];refine zc<|wpAny_handled ?_;first|rw[show A.in1.handled=none from hh]|rw[hh]
 refine zc<|zD<|wpAny_throw ?_;refine zc<|wpAny_isInstance (T:="StopIteration") (b:=true) {_,zk _ rfl,rfl} isSubtype_stop ?_;exact zD<|hQ _<|(eb.push _).push _
theorem D_(hit:rH s.heap it l i)(h:Q (.ref it) s):wpAny (model prog w) A (pyIter<|.ref it) Q E s:=by refine wpAny_pyIter_slot hit.typeIs Rt.D8<|yM Rt.D8 hit.typeIs Rt.LY ?_<|Rt.LX _;show wpAny _ _ (ret<|.ref it) _ _ s;exact zD !{"reversed",_,hit.typeIs,Rt.mH.lookup,h}
end
end L2
namespace L2
open PySem PySem.Spec PyProof.Rows
def Vu(K:Frag)(a:Addr)(n:Nat):It:={λi H=>∃xs x,g_ K H a xs/\xs.length=n/\i<n/\xs[n-1-i]?=some x,λi H x H'=>H'=H/\∀xs,g_ K H a xs->xs.length=n->xs[n-1-i]?=some x,λi _=>n<=i}
theorem L6{P:Program}{w:World}{K:Frag}{tg:Expr}(a it:Addr)(n:Nat):Turn P w K tg (Vu K a n) [it] it (λi h=>i<=n/\rH h it a ((n:Int)-1-(i:Int))) where
 mem:=by simp
 obj:=λi h st b hb=>by
  have e:b=it:=by simpa using hb
  subst e
  obtain⟨_,o,e,c,d⟩:=st
  exact{o,e,λv z=>by rw[d]at z;cases z}
 keep:=λi h h' st k=>{st.1,st.2.keep λo e=>k it (by simp) o e}
 item:=by
  intro X hP hw hK hc i pins s σ H E I hf st hg
  subst hP hw hK
  obtain⟨xs,x,hq,hn,hi,hx⟩:=hg
  obtain⟨ay,rv,p,hz⟩:=I.tuple hq
  obtain⟨u,hu,ru⟩:=rv.get hx
  obtain⟨f0,f1,f2,f3,f4,f5⟩:=hf it<|by simp
  have e:(n:Int)-1-(i:Int)=((n-1-i:Nat):Int):=by lia
  have hit:=st.2
  rw[e]at hit
  refine L5 hit p (by rw[zq,<-rv.length];exact hz) (x:=u) (by simpa using hu) λh' tk eZ sb=>?_
  have I1:Inv X pins σ H {s with heap:=h',toks:=tk}:=I.turned (t':=tk) (λb o hb e=>(sb.2 b hb).trans e) f0 f1 f3 f4 f5
  obtain⟨o,e1,c,d⟩:=id eZ
  refine{u,rfl,uj (s:={s with heap:=h',toks:=tk}) e1 c d (by decide) {x,H,I1,ru,{rfl,λys hy _=>by rw[I.nJ hy hq];exact hx},{hi,?_},λb hb=>(hf b hb).1}}
  have e2:(n:Int)-1-((i+1:Nat):Int)=((n-1-i:Nat):Int)-1:=by lia
  rw[e2];exact eZ
 done:=by
  intro X hP hw hK hc i pins s σ H E I hf st hg
  subst hP hw hK
  obtain⟨f0,f1,f2,f3,f4,f5⟩:=hf it<|by simp
  have hg:n<=i:=hg
  have e:(n:Int)-1-(i:Int) = -1:=by have:=st.1;lia
  have hit:=st.2
  rw[e]at hit
  exact QI (I.ok.hd hc) hit λh' eb=>{rfl,I.turned (t':=s.toks) (λb o hb e=>eb b o hb e) f0 f1 f3 f4 f5}
 self:=λ_ _ _ _ _ st h=>D_ st.2 h
def iRt(K:Frag)(ta:TA):TI:=λσ H R=>ta σ H λvs H1=>∃a xs,vs=[.ref a]/\g_ K H1 a xs/\R (Vu K a xs.length) H1
theorem Vv{X:Cx}{tg a:Expr}{ta:TA}{p pos:Pos}(hg:Gl X "reversed")(hm:X.mg "reversed"= none)(ha:PA X [a] ta)(hs:starEach [a] X.env=[(false,eval a X.env)]):PI X tg (.Call (.Name "reversed" p) [a] [] pos) (iRt X.K ta):=by
 intro pins s σ H R I h;refine Call_<|gG I hg hm boot_reversed<|PyProof.Rows.callWith_type1 (br (ha pos pins s σ H _ I h) λus s1 ⟨vs,H1,I1,r1,q1⟩=>?_) hs rfl;obtain⟨l,xs,e,q,hR⟩:=q1;subst e;obtain⟨u,rfl,ru⟩:=vals1 r1;cases ru;obtain⟨ay,rv,pl,hz⟩:=I1.tuple q;have hn:ay.toArray.size=xs.length:=by rw[zq,rv.length]
 refine L4 pl (by rw[hn];exact hz) ?_;rw[hn];have st:rH (s1.heap.push<|Ae l<|(xs.length:Int)-1) s1.heap.objs.size l ((xs.length:Int)-1-((0:Nat):Int)):={_,zk _ rfl,rfl,by show Data.fields _=Data.fields _;simp};have I2:Inv X pins σ H1 {s1 with heap:=s1.heap.push<|Ae l<|(xs.length:Int)-1,toks:=s1.toks+1+1}:=I1.kept (t':=s1.toks+1+1) λb o e=>za _ e;refine D_ (s:={s1 with heap:=s1.heap.push<|Ae l<|(xs.length:Int)-1,toks:=s1.toks+1+1}) st {_,_,_,_,H1,rfl,I2,L6 l s1.heap.objs.size xs.length,{zT _,st},λb hb=>?_,hR};have hb:b=s1.heap.objs.size:=by simpa using hb
 subst hb;exact I1.pU (zp _)<|I1.aM.fresh<|zp _
section
variable{K:Frag}{X:Cx}{tg:Expr}
def Z6(t:jh):Bc:=λσ S R Z=>t σ S (λds S1=>∃es,ds=[.tup es]/\R {es.reverse,λ_=>True} S1) Z
theorem irt{t:jh}(hm:X.mg "reversed"= none)(ha:DA K X [a] t)(hg:autoParam (Gl X "reversed") qQJ)(hs:autoParam (starEach [a] X.env=[(false,eval a X.env)]) qQJ)(hK:autoParam (X.K=K) qQJ):DI K X tg (.Call (.Name "reversed" p) [a] [] pos) (Z6 t):=by subst hK;exact⟨λy=>(Vv (X:=y.cx) hg hm (ha.of y) hs).mono <| by rintro τ H R ⟨σ,S,RI,Z,aB,hS,q,hR,hZ⟩;exact{σ,S,_,Z,aB,hS,q,by rintro ds S1 vs H1 ⟨es,e,r1⟩ v1 s1 k1;subst e;obtain⟨v,rfl,r⟩:=v1.one;obtain⟨a,xs,rfl,hq,t⟩:=r.tup;refine{a,xs,rfl,.inl<|.of hq,hR _ S1 _ H1 r1 (λi S2 H2 k2 s2 Xa=>?_) s1 k1};have Qo:g_ X.K H2 a xs:=.inl<|.of<|k2.t _ _ hq;have t2:=RvAll.ts k2 _ t;have hl:xs.length=es.length:=t.len;refine{λd hd=>?_,λh=>by rw[yC]at h;show xs.length<=i;lia};have hi:i<es.length:=(by have:=(ze.mp hd).1;rwa [yC]at this);rw[List.getElem?_reverse hi]at hd;obtain⟨v,e1,r⟩:=t2.get hd;rw[hl];refine{⟨xs,v,Qo,hl,hi,e1⟩,λx' H' ⟨e2,e3⟩=>?_};subst e2;have:=e3 xs Qo hl;rw[e1]at this;cases this;exact{r,.refl _,s2},hZ}⟩
end
section
variable{K:Frag}{X:Cx}{pos:Pos}
def QJ(tc:my)(tb:mE):mE:=λDe σ S Z=>∃P:Nat->SD->au->Prop,(∃m,P m σ S)/\∀m σ S,P m σ S->tc σ S (λb S1=>if b=true then tb {De with nx:=λaG S'=>∃m',m'<m/\P m' aG S',ct:=λaG S'=>∃m',m'<m/\P m' aG S',bk:=De.nx} σ S1 Z else De.nx σ S1) (Z σ)
theorem Z7(hc:DT K X c tc)(hb:GP K X true body tb):DS K X true (.While c body [] pos) (QJ tc tb):=
 ⟨λy=>(G1 (X:=y.cx) (y.ok.loop rfl) (hc.of y)<|hb.of y).mono <| by rintro D τ H ⟨σ,S,De,Z,aB,hS,⟨P,⟨m,p0⟩,turn⟩,hD,hZ⟩;exact
  ⟨λm Se H'=>∃σ S,iB K H' σ Se/\Rs K S H'/\P m σ S/\Kp K H H',⟨m,σ,S,aB,hS,p0,.refl _⟩,by rintro m Zw H1 ⟨xw,S1,a1,s1,p1,k1⟩;exact⟨xw,S1,_,Z xw,a1,s1,turn m xw S1 p1,λb S2 H2 r2 s2 k2=>by
   cases b with
   |true =>
    rw[if_pos rfl]at r2⊢
    refine{λτ3 H3=>∃σ S,iB K H3 σ τ3/\Rs K S H3/\(∃m',m'<m/\P m' σ S)/\Kp K H H3,by rintro τ3 H3 ⟨gq,S3,a3,s3,⟨m',hm,p3⟩,k3⟩;exact⟨m',hm,gq,S3,a3,s3,p3,k3⟩,?_}
    have kk:=k1.trans k2
    exact{xw,S2,_,Z,a1.ts k2,s2,r2,{λQr S5 ZG H5 r5 a5 s5 k5=>{Qr,S5,a5,s5,r5,kk.trans k5},hD.rt.kp kk,hD.nx.kp kk,λQr S5 ZG H5 r5 a5 s5 k5=>{Qr,S5,a5,s5,r5,kk.trans k5}},hZ.kp kk}
   |false =>
    rw[if_neg zd]at r2⊢
    exact hD.nx _ _ _ _ r2 (a1.ts k2) s2<|k1.trans k2,(hZ.kp k1).at a1⟩⟩⟩
def Z8(i:Nat)(te:TD):mE:=λDe σ S Z=>∃a:Int,σ[i]?=some (some<|.int a)/\te σ S (λd S1=>∃b:Int,d=.int b/\De.nx (σ.set i<|some<|.int<|a+b) S1) (Z σ)
theorem sau(hN:X.N.Nodup)(he:DE K X e te)(hi:autoParam (X.N[i]?=some x) qQJ)(hx:autoParam (Loc X.env.scope x) qQ8)(hf:autoParam (X.fn x=true\/X.env.scope.names.lookup x=some .local) qQ8): DS K X b (.AugAssign (.Name x pos') .Add e pos) (Z8 i te):=⟨λy=>(O6 (X:=y.cx) hN hi hx (he.of y) O7 hf).mono <| by rintro D τ H ⟨σ,S,De,Z,aB,hS,⟨a,ha,t⟩,hD,hZ⟩;obtain⟨v,e1,r⟩:=aB.get ha;exact{v,e1,σ,S,_,Z σ,aB,hS,t,by rintro d S1 u H1 ⟨c,e2,n⟩ rv s1 k1;subst e2;exact{a,c,r.int,rv.int,hD.nx _ _ _ _ n ((aB.ts k1).set i<|aP _) s1 k1},hZ.at aB}⟩
noncomputable def vD:V->D|.int i=>.int i|.str z=>.str z|.bl b=>.bl b|_=>.av
noncomputable def IA:V->Bool|.int _=>true|.str _=>true|_=>false
def Vx(kvs:List<|Str×V)(ty:TD):TD:=λσ S R Z=>ty σ S (λy S1=>∃z,y=.str z/\R ((kvs.lookup z).elim .av vD) S1) Z
theorem mgk{w:World}{ad:Addr}{kvs:List<|Str×V}{o e:Expr}{apos aO:Pos}{ty:TD}(d:J6 w K ad kvs)(hf:(kvs.all λp=>IA p.2)=true)(ho:∀Y:Cx,Y.env=X.env->Y.mg=X.mg->PE Y o (tC<|.ref ad))(he:DE K X e ty)(hw:autoParam (X.w=w) qQJ)(hK:autoParam (X.K=K) qQJ)(m:autoParam (M1 X o "get" apos e aO) qQ4): DE K X (.Call (.Attribute o "get" apos) [e] [] aO) (Vx kvs ty):=⟨λy=>(HK (X:=y.cx) hw hK (ho y.cx rfl rfl) (he.of y) ⟨m.base,m.GJ,m.line,m.trees⟩).mono <| by rintro τ H Q ⟨σ,S,R,Z,aB,hS,q,hR,hZ⟩;exact⟨ad,kvs,rfl,d,σ,S,_,Z,aB,hS,q,by
 rintro yv S1 v H1 ⟨z,e1,r⟩ rv s1 k1;subst e1;refine{z,rv.str,hR _ _ _ _ r ?_ s1 k1};have fl:∀v,kvs.lookup z=some v->IA v=true:=λv hv=>by have:=ym hv;exact yg.mp hf _ this
 cases q:kvs.lookup z with|none=>exact fI|some v=>have:=fl v q;cases v with|int i=>exact aP i|str i=>exact dQ i|_=>(cases this),hZ⟩⟩
end
theorem gK(hm:X.mg x=some (.ref a))(hg:autoParam (Gl X x) qQJ)(hd:autoParam ((x==("__debug__": Str))=false) qQZ):∀Y:Cx,Y.env=X.env->Y.mg=X.mg->PE Y (.Name x pos) (tC<|.ref a):=λY e1 e2=>Dw (X:=Y) (u:=.ref a) (show Y.env.kindOf x=_ by rw[e1];exact hg) (by rw[e2];exact hm) rfl hd
structure Fb(K:Frag)(x q:Str)(st:Stmt)(ps:List Str)(f:Addr)(d:FuncData):Prop where
 F:vM K x q st f d
 b:Binds K d ps []
structure FJ(K:Frag)(mg:Str->Option Value)(x:Str)(st:Stmt)(ps:List Str)(f:Addr)(d:FuncData):Prop extends Fb K x x st ps f d where
 k:keepIn K (.ref f)=true
 m:mg x=some (.ref f)
structure N6(K:Frag)(c:Addr)(x q:Str)(st:Stmt)(ps:List Str)(f:Addr)(d:FuncData):Prop extends Fb K x q st ps f d where
 e:Meth K c x f
abbrev Ok(P:Program)(w:World)(base:Heap){K:Frag}{mg:Str->Option Value}{x:Str}{st:Stmt}{ps:List Str}{f:Addr}{d:FuncData}(_:FJ K mg x st ps f d)(k:Nat)(sp:kI):Prop:=bK P w K mg base (fH P w mg) k f d ps<|qv K sp
abbrev oZ(P:Program)(w:World)(mg:Str->Option Value)(base:Heap){K:Frag}{c:Addr}{x q:Str}{st:Stmt}{ps:List Str}{f:Addr}{d:FuncData}(_:N6 K c x q st ps f d)(k:Nat)(sp:kI):Prop:=bK P w K mg base (fH P w mg) k f d ps<|qv K sp
theorem fsc{N P:List Str}{sc:Scope}(a:autoParam (sc.kind=.function/\sc.isCoroutine=false/\sc.isGenerator=false/\N.take P.length=P) qQ4)(b:autoParam (N.Nodup/\(∀x∈P,sc.names.lookup x=some .local\/sc.names.lookup x=some .cell)/\∀y∈sc.names,y.2≠.free) qJX):gw N P sc:=⟨a.1,a.2.1,a.2.2.1,b.1,a.2.2.2,b.2.1,b.2.2⟩
section
variable{R:Prop}{K:Frag}{h:Heap}{mg:Str->Option Value}{od an:Option Addr}{sl:Array (Option Value)}{oc dV kV dc pm cd ct:Value}{f da:Addr}{Ea:Option Addr}{dn:Nat}{Eb:Array (Option Value)}{c:Addr}{tk:Tok}{d:FuncData}
theorem fn1(X:K.In h)(G:h.Ns mainGlobals mg)(x:Str)(st:Stmt)(ps:List Str)(a:nsIn K mainGlobals x=some (some<|.ref f))(l:K.lookup f=some {oc,od,.func<|fnOf x x (aX st) (aU st) (ae st) dV kV dc pm an cd ct,sl}) (e:codeIn K cd x=true) (k:keepIn K (.ref f)=true) (b:∀us:List Value,us.length=ps.length->bindArgs (fnOf x x (aX st) (aU st) (ae st) dV kV dc pm an cd ct) {us,[]}=pure (ps.zip us)) (g:∀d,FJ K mg x st ps f d->R):R:=g _ {{{_,_,_,_,_,_,_,_,_,_,rfl,l,e},.all b},k,mg_of X G a}
theorem Z9(X:K.In h)(G:h.Ns mainGlobals mg)(x:Str)(st:Stmt)(ps:List Str)(a:nsIn K mainGlobals x=some (some<|.ref f))(l:K.lookup f=some {oc,od,.func<|fnOf x x (aX st) (aU st) (ae st) dV kV dc pm an cd ct,sl}) (e:codeIn K cd x=true) (k:keepIn K (.ref f)=true) (b:∀us:List Value,us.length=ps.length->bindArgs (fnOf x x (aX st) (aU st) (ae st) dV kV dc pm an cd ct) {us,[]}=pure (ps.zip us)) (g:∀d,d.code=cd->(∀(s:Shared)(us:List Value),us.length=ps.length->BindsTo s d {us,[]} (ps.zip us))->FJ K mg x st ps f d->R):R:=g _ rfl (λs us h=>.of_eq<|b us h) {{{_,_,_,_,_,_,_,_,_,_,rfl,l,e},.all b},k,mg_of X G a}
theorem fm1(C:qr K c)(x q:Str)(st:Stmt)(ps:List Str)(a:findIn K (.ref c) x=some (some<|.ref f))(i:isFn K (.ref f)=true)(l:K.lookup f=some {oc,od,.func<|fnOf x q (aX st) (aU st) (ae st) dV kV dc pm an cd ct,sl}) (e:codeIn K cd q=true) (k:keepIn K (.ref f)=true) (b:∀us:List Value,us.length=ps.length->bindArgs (fnOf x q (aX st) (aU st) (ae st) dV kV dc pm an cd ct) {us,[]}=pure (ps.zip us)) (g:∀d,N6 K c x q st ps f d->R):R:=g _ {{{_,_,_,_,_,_,_,_,_,_,rfl,l,e},.all b},a,i,k}
theorem fmd(C:qr K c)(x q:Str)(st:Stmt)(ps:List Str)(a:findIn K (.ref c) x=some (some<|.ref f))(i:isFn K (.ref f)=true)(l:K.lookup f=some {oc,od,.func<|fnOf x q (aX st) (aU st) (ae st) (.ref da) kV dc pm an cd ct,sl}) (t:K.lookup da=some {.type "tuple",Ea,.seq #[.none] dn,Eb}) (e:codeIn K cd q=true) (k:keepIn K (.ref f)=true) (b:∀(s:Shared) (us:List Value),s.heap.get? da=some {.type "tuple",Ea,.seq #[.none] dn,Eb}->us.length=ps.length->BindsTo s (fnOf x q (aX st) (aU st) (ae st) (.ref da) kV dc pm an cd ct) {us,[]} (ps.zip us)) (b2:∀(s:Shared) (us:List Value),s.heap.get? da=some {.type "tuple",Ea,.seq #[.none] dn,Eb}->us.length+1=ps.length->BindsTo s (fnOf x q (aX st) (aU st) (ae st) (.ref da) kV dc pm an cd ct) {us,[]} (ps.zip<|us++[.none])) (g:∀d,N6 K c x q st ps f d->Binds K d ps [.none]->R):R:=g _ {{{_,_,_,_,_,_,_,_,_,_,rfl,l,e},λs us hK hl=>by rw[List.append_nil]at hl⊢;exact b s us (hK _ _ t) hl},a,i,k} λs us hK hl=>b2 s us (hK _ _ t)<|by simpa using hl
theorem Bd(X:K.In h)(G:h.Ns mainGlobals mg)(x:Str)(a:nsIn K mainGlobals x=some none)(g:mg x=none->R):R:=g<|PySem.W.mg_none_of X G a
theorem L7(X:K.In h)(G:h.Ns mainGlobals mg)(x:Str)(i:Int)(a:nsIn K mainGlobals x=some (some<|.int i tk))(g:mg x=some (.int i tk)->R):R:=g<|mg_of X G a
theorem Vy(X:K.In h)(G:h.Ns mainGlobals mg)(x:Str)(a:nsIn K mainGlobals x=some (some<|.ref c))(l:K.lookup c=some o)(g:mg x=some (.ref c)->K.lookup c=some o->R):R:=g (mg_of X G a) l
theorem L8(X:K.In h)(G:h.Ns mainGlobals mg)(x:Str)(a:nsIn K mainGlobals x=some (some<|.ref c))(e:excIn K c L2.nQ "ValueError.__new__"= true)(g:mg x=some (.ref c)->excIn K c L2.nQ "ValueError.__new__"= true->R):R:=g (mg_of X G a) e
theorem gvc(X:K.In h)(G:h.Ns mainGlobals mg)(x:Str)(a:nsIn K mainGlobals x=some (some<|.ref c))(pg:plainGet K c Str.empty=true)(hd:hasDictIn K c=true)(po:plainOver K c=true)(sa:findIn K (.ref c) "__setattr__"= some (some<|.builtin "object.__setattr__"))(ms:makesIn K c=true)(kc:keepIn K (.ref c)=true) (g:mg x=some (.ref c)->qr K c->makesIn K c=true->keepIn K (.ref c)=true->R):R:=g (mg_of X G a) ⟨pg,hd,po,sa⟩ ms kc
theorem L9(C:qr K c)(x:Str)(a:findIn K (.ref c) x=some none)(g:findIn K (.ref c) x=some none->R):R:=g a
theorem QK{P:Addr}(l:K.lookup c=some o)(e:codeHdIn [(c,o)] c P=true):codeHdIn K c P=true:=by unfold codeHdIn at e⊢;rw[l];rw[show([(c,o)]:Frag).lookup c=some o by simp]at e;exact e
theorem gvm{P:Addr}(X:K.In h)(e:d.code=.ref c)(o:K.lookup c=some {oC,od,.fields vC,sl})(q:vC[11]?=some (.ref P))(hh:codeHdIn [(c,{oC,od,.fields vC,sl})] c P=true)(g:codeHdIn K c P=true->R):R:=g<|QK o hh
end
section
variable{Q:List Value->Prop}
theorem Xr(h:Q [])(us:List Value)(e:us.length=0):Q us:=by cases us with|nil=>exact h|cons a us=>cases e
theorem FK(h:∀a us,us.length=n->Q (a::us))(us:List Value)(e:us.length=n+1):Q us:=by cases us with|nil=>(cases e)|cons a us=>exact h a us<|Nat.succ.inj e
theorem So(h:∀a,Q [a]):∀us:List Value,us.length=1->Q us:=FK λa=>Xr<|h a
theorem ln2(h:∀a b,Q [a,b]):∀us:List Value,us.length=2->Q us:=FK λa=>So<|h a
theorem QL(h:∀a b c,Q [a,b,c]):∀us:List Value,us.length=3->Q us:=FK λa=>ln2<|h a
theorem Vz(h:∀a b c d,Q [a,b,c,d]):∀us:List Value,us.length=4->Q us:=FK λa=>QL<|h a
theorem VA(h:∀a b c d e,Q [a,b,c,d,e]):∀us:List Value,us.length=5->Q us:=FK λa=>Vz<|h a
theorem Sr(h:∀a b c d e f,Q [a,b,c,d,e,f]):∀us:List Value,us.length=6->Q us:=FK λa=>VA<|h a
theorem Z_(h:∀a,Q [a])(us:List Value)(e:us.length+1=2):Q us:=So h us<|Nat.succ.inj e
theorem aaa(h:∀a b,Q [a,b])(us:List Value)(e:us.length+1=3):Q us:=ln2 h us<|Nat.succ.inj e
theorem VB(h:∀a b c d e,Q [a,b,c,d,e])(us:List Value)(e:us.length+1=6):Q us:=VA h us<|Nat.succ.inj e
end
section
variable{K:Frag}{X:Cx}{x:Str}{st:Stmt}{ps:List Str}{f:Addr}{fd:FuncData}{sp:kI}{e:Expr}{es:List Expr}{p pos:Pos}
theorem aV{t:jh}(T:FJ K X.mg x st ps f fd)(F:bK X.prog X.w K X.mg X.base (fH X.prog X.w X.mg) k f fd ps<|qv K sp)(hr:bV k' X.A)(ha:DA K X (e::es) t)(hle:autoParam (k<=k') qJK) (hg:autoParam (Gl X x) qQJ) (pW:autoParam ((x==("__debug__": Str))=false) qQZ) (he:autoParam (starEach (e::es) X.env=(false,eval e X.env)::starEach es X.env) qQJ) (dO:autoParam ((backTo pos<|starEach es X.env).any (·.1)=false) qQJ) (hK:autoParam (X.K=K) qQJ): DE K X (.Call (.Name x p) (e::es) [] pos) (NN sp [] t):=cf (F.mono hle) hr T.m T.k T.b d0 ha hg pW he dO hK
end
theorem bV.u(r:bV k A):A.units+64<cLine:=r.units
end L2
namespace L2
open PySem PySem.Spec PyProof.Rows PySem.SeqAt
def isStrOf(z:Str):Value->Bool|.str y _=>y==z|_=>false
end L2
namespace L2
open PySem PySem.Spec PyProof.Rows
section
variable{K:Frag}
theorem RvAll.thr(h:RvAll K H [a,b,c] vs):∃x y z,vs=[x,y,z]/\Rv K H a x/\Rv K H b y/\Rv K H c z:=by obtain⟨x,vs1,rfl,h1,h⟩:=h.cons;obtain⟨y,vs2,rfl,h2,h⟩:=h.cons;obtain⟨z,vs3,rfl,h3,h⟩:=h.cons;rw[h.nil];exact⟨x,y,z,rfl,h1,h2,h3⟩
theorem QM:bootBuiltins "max"= some (.builtin "max"):=by with_unfolding_all rfl
noncomputable def jB:List D->List D->List D->List D|x::xs,y::ys,z::zs=>.tup [x,y,z]::jB xs ys zs|_,_,_=>[]
theorem nX:∀{xs ys zs:List D},xs.length=ys.length->xs.length=zs.length->(jB xs ys zs).length=xs.length|[],_,_,_,_=>by rw[jB.eq_def]|x::xs,y::ys,z::zs,h,k=>congrArg Nat.succ<|nX (Nat.succ.inj h)<|Nat.succ.inj k
theorem nY:∀{xs ys zs:List D}{i:Nat}{d:D},(jB xs ys zs)[i]?=some d->∃x y z,xs[i]?=some x/\ys[i]?=some y/\zs[i]?=some z/\d=.tup [x,y,z]|x::xs,y::ys,z::zs,0,d,h=>{x,y,z,rfl,rfl,rfl,(zU h).symm}|x::xs,y::ys,z::zs,i+1,d,h=>nY (i:=i) h|[],_,_,i,d,h=>by rw[jB.eq_def]at h;simp at h|_::_,[],_,i,d,h=>by rw[jB.eq_def]at h;simp at h|_::_,_::_,[],i,d,h=>by rw[jB.eq_def]at h;simp at h
def QN(t:jh):Bc:=λσ S R Z=>t σ S (λds S1=>∃xs ys zs,ds=[.tup xs,.tup ys,.tup zs]/\xs.length=ys.length/\xs.length=zs.length/\R {jB xs ys zs,λ_=>True} S1) Z
end
mutual
inductive Dr (S:au):D->PyData->Prop where
 |av:Dr S .av .none
 |bl (b:Bool):Dr S (.bl b) (.bool b)
 |int (i:Int):Dr S (.int i) (.int i)
 |str (z:Str):Dr S (.str z) (.str z)
 |tup {ds:List D}{ps:List PyData} : FL S ds ps->Dr S (.tup ds) (.tuple ps)
 |ref {a:Addr}{ds:List D}{ps:List PyData} : S a=some (.lst ds)->FL S ds ps->Dr S (.ref a) (.list ps)
inductive FL (S:au):List D->List PyData->Prop where
 |nil:FL S [] []
 |cons {d:D}{ds:List D}{p:PyData}{ps:List PyData} : Dr S d p->FL S ds ps->FL S (d::ds) (p::ps)
end
section
variable{K:Frag}{H:Hp}{S:au}
mutual
theorem Dr.dt(hS:Rs K S H):Dr S d p->Rv K H d v->Dt K H p v|.av,r=>by simp only[Dt];exact r.av|.bl b,r=>by simp only[Dt];exact r.bl|.int b,r=>by simp only[Dt];exact r.int|.str b,r=>by simp only[Dt];exact r.str|.tup h,r=>(by obtain⟨a,xs,rfl,q,t⟩:=r.tup;simp only[Dt];exact{a,xs,rfl,.of q,FL.dt hS h t})|.ref e h,r=>by obtain⟨xs,e1,t⟩:=hS.lst e;rw[r.ref];simp only[Dt];exact{_,xs,rfl,.of e1,FL.dt hS h t}
theorem FL.dt(hS:Rs K S H){ds:List D}{ps:List PyData}{vs:List V} : FL S ds ps->RvAll K H ds vs->DtAll K H ps vs|.nil,r=>by rw[r.nil];simp only[DtAll]|.cons h t,r=>by obtain⟨y,ys,rfl,r1,r2⟩:=r.cons;simp only[DtAll];exact{y,ys,rfl,Dr.dt hS h r1,FL.dt hS t r2}
end
end
def eqR(neg:Bool):uE:=λx y S R=>∃p q,Dr S x p/\Dr S y q/\p.canLay0=true/\q.canLay0=true/\(p.depth<=64\/q.depth<=64)/\R (.bl<|if neg then !PyData.eqv p q else PyData.eqv p q) S
section
variable{K:Frag}
theorem VC:oX K (compareOp .Eq) (eqR false):=by rintro X hK hu pins s σ H x y v u Q I rx ry ⟨d,e,S,R,r1,r2,hS,⟨p,q,h1,h2,c1,c2,dp,h⟩,hR⟩;subst hK;exact HB hu pins s σ H x y v u Q I rx ry {p,q,h1.dt hS r1,h2.dt hS r2,c1,c2,dp,hR.now hS h<|bY _}
theorem N7:oX K (compareOp .NotEq) (eqR true):=by rintro X hK hu pins s σ H x y v u Q I rx ry ⟨d,e,S,R,r1,r2,hS,⟨p,q,h1,h2,c1,c2,dp,h⟩,hR⟩;subst hK;exact HC hu pins s σ H x y v u Q I rx ry {p,q,h1.dt hS r1,h2.dt hS r2,c1,c2,dp,hR.now hS h<|bY _}
end
theorem rJ(h1:Dr S x p)(h2:Dr S y p)(c:p.canLay0=true)(d:p.depth<=64)(q:R (.bl<|!neg) S):eqR neg x y S R:={p,p,h1,h2,c,c,.inl d,by rw[show(if neg then !PyData.eqv p p else PyData.eqv p p)=!neg by rw[SeqAt.eqv_refl p c];cases neg<;>rfl];exact q}
def lR:Stmt->Str|.FunctionDef n _ _ _ _ _ _ _ _ _=>n|_=>Str.empty
def tQ(s:Stmt):List Str:=(aX s).args.map λa=>a.arg
def FN(K:Frag)(mg:Str->Option Value)(top:Nat->Stmt)(f:Nat->Addr)(d:Nat->FuncData)(l:List Nat):Prop:=∀i∈l,FJ K mg (lR<|top i) (top i) (tQ<|top i) (f i)<|d i
def Ci(K:Frag)(c:Addr)(q:Str)(cl:Stmt)(f:Nat->Addr)(d:Nat->FuncData)(l:List Nat):Prop:=∀i∈l,N6 K c (lR<|inClass cl i) (q++lR (inClass cl i)) (inClass cl i) (tQ<|inClass cl i) (f i)<|d i
section
variable{K:Frag}{h:Heap}{mg:Str->Option Value}{od an:Option Addr}{sl:Array (Option Value)}{oc dV kV dc pm cd ct:Value}{x:Addr}{top:Nat->Stmt}{l:List Nat}{c:Addr}{q:Str}{cl:Stmt}
theorem af(X:K.In h)(G:h.Ns mainGlobals mg)(i:Nat)(ni:i∉l)(a:nsIn K mainGlobals (lR<|top i)=some (some<|.ref x))(o:K.lookup x=some {oc,od,.func<|fnOf (lR<|top i) (lR<|top i) (aX<|top i) (aU<|top i) (ae<|top i) dV kV dc pm an cd ct,sl}) (e:codeIn K cd (lR<|top i)=true) (k:keepIn K (.ref x)=true) (b:∀us:List Value,us.length=(tQ<|top i).length->bindArgs (fnOf (lR<|top i) (lR<|top i) (aX<|top i) (aU<|top i) (ae<|top i) dV kV dc pm an cd ct) {us,[]}=pure ((tQ<|top i).zip us)) (g:∃f d,FN K mg top f d l):∃f d,FN K mg top f d (i::l):=by refine fn1 X G _ _ _ a o e k b λd0 F=>?_;obtain⟨f,d,A⟩:=g;refine{λj=>if j=i then x else f j,λj=>if j=i then d0 else d j,λj hj=>?_};by_cases z:j=i;subst z;dsimp only;rw[if_pos rfl,if_pos rfl];exact F;dsimp only;rw[if_neg z,if_neg z];exact A j<|(zi.mp hj).resolve_left z
theorem af0:∃f d,FN K mg top f d []:={λ_=>0,λ_=>fnOf Str.empty Str.empty (aX<|.Pass {0,0,0,0}) [] (ae<|.Pass {0,0,0,0}) .none .none .none .none none .none .none,λ_ h=>nomatch h}
theorem afx{R:Prop}(_:K.In h)(_:h.Ns mainGlobals mg)(g:∃f d,FN K mg top f d l)(r:∀f d,FN K mg top f d l->R):R:=by obtain⟨f,d,A⟩:=g;exact r f d A
theorem amx{R:Prop}(_:qr K c)(g:∃f d,Ci K c q cl f d l)(r:∀f d,Ci K c q cl f d l->R):R:=by obtain⟨f,d,A⟩:=g;exact r f d A
theorem am(C:qr K c)(i:Nat)(ni:i∉l)(a:findIn K (.ref c) (lR<|inClass cl i)=some (some<|.ref x))(w:isFn K (.ref x)=true)(o:K.lookup x=some {oc,od,.func<|fnOf (lR<|inClass cl i) (q++lR (inClass cl i)) (aX<|inClass cl i) (aU<|inClass cl i) (ae<|inClass cl i) dV kV dc pm an cd ct,sl}) (e:codeIn K cd (q++lR (inClass cl i))=true) (k:keepIn K (.ref x)=true) (b:∀us:List Value,us.length=(tQ<|inClass cl i).length->bindArgs (fnOf (lR<|inClass cl i) (q++lR (inClass cl i)) (aX<|inClass cl i) (aU<|inClass cl i) (ae<|inClass cl i) dV kV dc pm an cd ct) {us,[]}=pure ((tQ<|inClass cl i).zip us)) (g:∃f d,Ci K c q cl f d l):∃f d,Ci K c q cl f d (i::l):=by refine fm1 C _ _ _ _ a w o e k b λd0 F=>?_;obtain⟨f,d,A⟩:=g;refine{λj=>if j=i then x else f j,λj=>if j=i then d0 else d j,λj hj=>?_};by_cases z:j=i;subst z;dsimp only;rw[if_pos rfl,if_pos rfl];exact F;dsimp only;rw[if_neg z,if_neg z];exact A j<|(zi.mp hj).resolve_left z
theorem am0:∃f d,Ci K c q cl f d []:={λ_=>0,λ_=>fnOf Str.empty Str.empty (aX<|.Pass {0,0,0,0}) [] (ae<|.Pass {0,0,0,0}) .none .none .none .none none .none .none,λ_ h=>nomatch h}
end
section
variable{K:Frag}{X:Cx}{x q:Str}{st:Stmt}{ps:List Str}{C f:Addr}{fd:FuncData}{sp:kI}{o e:Expr}{es:List Expr}{apos pos:Pos}{k k':Nat}
theorem o9{t:jh}(he:DE K X o ta)(c:qr K C)(T:N6 K C x q st ps f fd)(F:bK X.prog X.w K X.mg X.base (fH X.prog X.w X.mg) k f fd ps<|qv K sp)(hr:bV k' X.A)(ha:DA K X (e::es) t)(hle:autoParam (k<=k') qJK)
  (xI:autoParam (starEach (e::es) X.env=(false,eval e X.env)::starEach es X.env) qQJ) (dO:autoParam ((backTo pos<|starEach es X.env).any (·.1)=false) qQJ)
  (ht:autoParam (eval (.Call (.Attribute o x apos) (e::es) [] pos) X.env=(do
   let ov <-eval o X.env
   standAt apos.atName
   let (f,first) <-holding [ov] (getMethod ov x pl)
   callWith pos f first (backTo pos<|starEach (e::es) X.env) (backToKw pos<|keywordEach [] X.env))) qQJ) (hK:autoParam (X.K=K) qQJ):
  DE K X (.Call (.Attribute o x apos) (e::es) [] pos) (DQ C x sp [] ta t):=Zt he c T.e (F.mono hle) hr T.b d0 ha xI dO ht hK
theorem gu(he:DE K X o ta)(c:qr K C)(T:N6 K C x q st ps f fd)(F:bK X.prog X.w K X.mg X.base (fH X.prog X.w X.mg) k f fd ps<|qv K sp)(hr:bV k' X.A)(hle:autoParam (k<=k') qJK)
  (ht:autoParam (eval (.Call (.Attribute o x apos) [] [] pos) X.env=(do
   let ov <-eval o X.env
   standAt apos.atName
   let (f,first) <-holding [ov] (getMethod ov x pl)
   callWith pos f first (backTo pos<|starEach [] X.env) (backToKw pos<|keywordEach [] X.env))) qQJ) (hK:autoParam (X.K=K) qQJ):
  DE K X (.Call (.Attribute o x apos) [] [] pos) (DQ C x sp [] ta LD):=US he c T.e (F.mono hle) hr T.b d0 ht hK
end
section
variable{K:Frag}{X:Cx}
def VD:D->Option Int->Option Int->au->KD->Prop:=λx lo hi S R=>match x with|.ref a=>∃ds,S a=some (.lst ds)/\∀p,S p=none->R (.ref p) (S.set p<|.lst<|dP ds lo hi)|.jn ds=>∀p,S p=none->R (.ref p) (S.set p<|.lst<|dP ds lo hi)|_=>False
theorem VE(hK:X.K=K):Yo X (λx lo hi H Q=>∃d S R,Rv K H d x/\Rs K S H/\VD d lo hi S R/\Cn K H R Q):=by rintro pins s σ H x v vl vu lo hi sl Q I rx hs pl pu ⟨d,S,R,r1,hS,h,hR⟩;subst hK;cases d with|ref a=>(obtain⟨ds,e,h⟩:=h;obtain⟨xs,e1,t⟩:=hS.lst e;exact DJ pins s σ H _ v vl vu lo hi sl Q I rx hs pl pu {a,xs,r1.ref,.of e1,λp hp=>hR.new hS hp (h p)<|t.cut lo hi})|jn ds=>(obtain⟨a,xs,rfl,q,t⟩:=r1.jn;exact DJ pins s σ H _ v vl vu lo hi sl Q I rx hs pl pu {a,xs,rfl,q.sq,λp hp=>hR.new hS hp (h p)<|t.cut lo hi})|_=>exact h.elim
def aac(te:TD)(tl th:Sh):TD:=λσ S R Z=>te σ S (λx S1=>tl σ S1 (λl S2=>th σ S2 (λu S3=>VD x l u S3 R) Z) Z) Z
theorem QO{e:Expr}{lo hi:Option Expr}{te:TD}{tl th:Sh}{p2 pos:Pos}(he:DE K X e te)(hl:DO K X lo tl)(hu:DO K X hi th)(hK:autoParam (X.K=K) qQJ):DE K X (.Subscript e (.Slice lo hi none p2) pos) (aac te tl th):=
 ⟨λy=>(Hc (X:=y.cx) (VE hK) (he.of y) (hl.of y)<|hu.of y).mono <| by rintro τ H Q ⟨σ,S,R,Z,aB,hS,q,hR,hZ⟩;exact
  ⟨σ,S,_,Z,aB,hS,q,λd S1 x H1 r1 v1 s1 k1=>⟨σ,S1,_,Z,aB.ts k1,s1,r1,λl S2 H2 r2 s2 k2=>⟨σ,S2,_,Z,aB.ts<|k1.trans k2,s2,r2,λu S3 H3 r3 s3 k3=>⟨d,S3,R,Rv.ts (k2.trans k3) _ v1,s3,r3,hR.kp<|(k1.trans k2).trans k3⟩,hZ.kp<|k1.trans k2⟩,hZ.kp k1⟩,hZ⟩⟩
def aad:uE:=λx y S R=>match x,y with|.int i,.int j=>R (.int<|i+j) S|.str a,.str b=>a.length+b.length<=sizeLine/\R (.str<|a++b) S|.ref a,.ref b=>∃xs ys,S a=some (.lst xs)/\S b=some (.lst ys)/\xs.length+ys.length<=sizeLine/\∀p,S p=none->R (.ref p) (S.set p<|.lst<|xs++ys)|_,_=>False
theorem aY:oX K (binaryOp .Add) aad:=by rintro X hK hu pins s σ H x y v u Q I rx ry ⟨d,e,S,R,r1,r2,hS,h,hR⟩;subst hK;cases d<;>cases e<;>first|exact False.elim h|exact G6 pins s σ H x y v u Q I rx ry {_,_,r1.int,r2.int,hR.now hS h<|aP _}|exact qO pins s σ H x y v u Q I rx ry {_,_,r1.str,r2.str,h.1,hR.now hS h.2<|dQ _}|skip;obtain⟨xs,ys,e1,e2,hl,q⟩:=h;obtain⟨vs,h1,t1⟩:=hS.lst e1;obtain⟨ws,h2,t2⟩:=hS.lst e2;exact Hi pins s σ H x y v u Q I rx ry {_,_,vs,ws,r1.ref,r2.ref,h1,h2,by rw[t1.len,t2.len];exact hl,λp hp=>hR.new hS hp (q p)<|t1.app t2}
end
structure W(sp:kI)(ds:List D)(S:au)(R:KD)(Z:KX):Prop where
 of:sp ds S R Z
theorem bK.w{P:Program}{w:World}{K:Frag}{mg:Str->Option Value}{base:Heap}{k:Nat}{f:Addr}{fd:FuncData}{ps:List Str}{sp:kI}(F:bK P w K mg base (fH P w mg) k f fd ps<|qv K sp):bK P w K mg base (fH P w mg) k f fd ps (qv K<|W sp):=F.LM λ_ _ _ _ h=>h.of
def scN(s:Stmt):List Str:=((ae s).names.filter λp=>p.2==.local||p.2==.cell).map (·.1)
theorem bE(s:Stmt)(a:autoParam ((ae s).kind=.function/\(ae s).isCoroutine=false/\(ae s).isGenerator=false/\(scN s).take (tQ s).length=tQ s) qQ4)(b:autoParam ((scN s).Nodup/\(∀x∈tQ s,(ae s).names.lookup x=some .local\/(ae s).names.lookup x=some .cell)/\∀y∈(ae s).names,y.2≠.free) qJX):gw (scN s) (tQ s) (ae s):=fsc a b
section
variable{P:Program}{w:World}{K:Frag}{mg:Str->Option Value}{base:Heap}{x qual:Str}{st:Stmt}{f:Addr}{fd:FuncData}{N ps:List Str}{k:Nat}{sp:kI}
theorem vM.bL(F:vM K x qual st f fd)(S:gw N ps<|ae st) (mm:∀(gY:Value)(A:Around)(outer:List Env)(s:Shared)(H:Hp)(E:XK)(ds:List D)(S:au)(R:KD)(Z:KX),bV k (A.deeper<|PyProof.Rows.envOfC qual (ae st) s.heap.objs.size f gY)->sp ds S R Z->∃t,GP K (kG (fH P w mg) P w K mg base N qual (ae st) f gY A outer s H E) true (aU st) t/\t {nx:=λ_ S'=>Fo S'<|R .av,rt:=λd S'=>Fo S'<|R d} (jA N ds) S λ_ C S'=>Fo S'<|Z C) (len:∀ds S R Z,sp ds S R Z->ds.length=ps.length:=by intro _ _ _ _ h;first|(cases h;subst_vars;rfl;done)|(repeat first|(obtain⟨e,_⟩:=h;rw[e];rfl;done)|obtain⟨_,h⟩:=h)):bK P w K mg base (fH P w mg) (k+1) f fd ps (qv K sp):=F.ok S len mm
end
section
variable{R:Prop}{K:Frag}{h:Heap}{mg:Str->Option Value}{od an:Option Addr}{sl:Array (Option Value)}{oc kV dc pm cd ct:Value}{f da:Addr}{Ea:Option Addr}{dn:Nat}{Eb:Array (Option Value)}
theorem VF(X:K.In h)(G:h.Ns mainGlobals mg)(x:Str)(st:Stmt)(ps:List Str)(ar:Array Value)(a:nsIn K mainGlobals x=some (some<|.ref f))(l:K.lookup f=some {oc,od,.func<|fnOf x x (aX st) (aU st) (ae st) (.ref da) kV dc pm an cd ct,sl}) (t:K.lookup da=some {.type "tuple",Ea,.seq ar dn,Eb}) (e:codeIn K cd x=true) (k:keepIn K (.ref f)=true) (b:∀(s:Shared) (us:List Value),s.heap.get? da=some {.type "tuple",Ea,.seq ar dn,Eb}->us.length=ps.length->BindsTo s (fnOf x x (aX st) (aU st) (ae st) (.ref da) kV dc pm an cd ct) {us,[]} (ps.zip us)) (b2:∀(s:Shared) (us:List Value),s.heap.get? da=some {.type "tuple",Ea,.seq ar dn,Eb}->us.length+1=ps.length->BindsTo s (fnOf x x (aX st) (aU st) (ae st) (.ref da) kV dc pm an cd ct) {us,[]} (ps.zip<|us++[.none])) (g:∀d,FJ K mg x st ps f d->Binds K d ps [.none]->R):R:=g _ {{{_,_,_,_,_,_,_,_,_,_,rfl,l,e},λs us hK hl=>by rw[List.append_nil]at hl⊢;exact b s us (hK _ _ t) hl},k,mg_of X G a} λs us hK hl=>b2 s us (hK _ _ t)<|by simpa using hl
end
structure abG(X:Cx)(N:List Str)(src:List (Option Nat))(scope:Scope):Prop where
 kind:scope.kind=.function
 nd:(scope.names.map Prod.fst).Nodup
 loc:∀y∈scope.names,y.2=.local->scope.names.lookup y.1=some .local
 Ba:∀y∈scope.names,y.2=.free->X.env.kindOf y.1=some .cell\/X.env.kindOf y.1=some .free
 len:src.length=N.length
 src:∀(i j:Nat)(x:Str),src[i]?=some (some j)->N[i]?=some x->X.N[j]?=some x/\scope.names.lookup x=some .free/\OL X.env.scope x
section
variable{R:Prop}{K:Frag}{h:Heap}{mg:Str->Option Value}{od an:Option Addr}{sl:Array (Option Value)}{oc kV dc pm cd ct:Value}{f da:Addr}{Ea:Option Addr}{dn:Nat}{Eb:Array (Option Value)}
theorem aaf(X:K.In h)(G:h.Ns mainGlobals mg)(x:Str)(st:Stmt)(ps:List Str)(ar:Array Value)(a:nsIn K mainGlobals x=some (some<|.ref f))(l:K.lookup f=some {oc,od,.func<|fnOf x x (aX st) (aU st) (ae st) (.ref da) kV dc pm an cd ct,sl}) (t:K.lookup da=some {.type "tuple",Ea,.seq ar dn,Eb}) (e:codeIn K cd x=true) (k:keepIn K (.ref f)=true) (b:∀(s:Shared) (us:List Value),s.heap.get? da=some {.type "tuple",Ea,.seq ar dn,Eb}->us.length=ps.length->BindsTo s (fnOf x x (aX st) (aU st) (ae st) (.ref da) kV dc pm an cd ct) {us,[]} (ps.zip us)) (b2:∀(s:Shared) (us:List Value),s.heap.get? da=some {.type "tuple",Ea,.seq ar dn,Eb}->us.length+2=ps.length->BindsTo s (fnOf x x (aX st) (aU st) (ae st) (.ref da) kV dc pm an cd ct) {us,[]} (ps.zip<|us++[.none,.none])) (b3:∀(s:Shared) (us:List Value),s.heap.get? da=some {.type "tuple",Ea,.seq ar dn,Eb}->us.length+3=ps.length->BindsTo s (fnOf x x (aX st) (aU st) (ae st) (.ref da) kV dc pm an cd ct) {us,[]} (ps.zip<|us++[.none,.none,.none])) (g:∀d,FJ K mg x st ps f d->Binds K d ps [.none,.none]->Binds K d ps [.none,.none,.none]->R):R:=g _ {{{_,_,_,_,_,_,_,_,_,_,rfl,l,e},λs us hK hl=>by rw[List.append_nil]at hl⊢;exact b s us (hK _ _ t) hl},k,mg_of X G a} (λs us hK hl=>b2 s us (hK _ _ t)<|by simpa using hl) λs us hK hl=>b3 s us (hK _ _ t)<|by simpa using hl
variable{Q:List Value->Prop}
theorem aag(h:∀a b c d,Q [a,b,c,d])(us:List Value)(e:us.length+2=6):Q us:=Vz h us<|by lia
theorem aah(h:∀a b c,Q [a,b,c])(us:List Value)(e:us.length+3=6):Q us:=QL h us<|by lia
end
section
variable{K:Frag}{p:Pos}{e:Expr}
structure adK(P:Program)(w:World)(K:Frag)(mg:Str->Option Value)(base:Heap)(k:Nat)(f:Addr)(sp:Sp):Prop where
 ex:∃fd ps,bK P w K mg base (fH P w mg) k f fd ps sp/\Binds K fd ps []
 kp:keepIn K (.ref f)=true
inductive CvR {ι:Type} (i:Nat) (fa:ι->Addr) (σ:SD) (p:ι->Prop):Prop where
 |mk (o:ι) (e:σ[i]?=some (some<|.ref<|fa o)) (r:p o)
end
section
variable{R:Prop}{K:Frag}{h:Heap}{mg:Str->Option Value}{tk:Tok}
theorem gvs(X:K.In h)(G:h.Ns mainGlobals mg)(x:Str)(z:Str)(a:nsIn K mainGlobals x=some (some<|.str z tk))(g:mg x=some (.str z tk)->R):R:=g<|mg_of X G a
end
theorem IB{kvs:List<|Key×V}{k:Key}{v:V}(h:∀x∈kvs,x.1≠k):putK kvs k v=kvs++[(k,v)]:=by unfold putK;rw[if_neg];rw[List.any_eq_true];rintro⟨x,hx,e⟩;exact h x hx<|zt e
theorem uL:∀{more acc:List (Key×V)},((acc++more).map Prod.fst).Nodup->ju acc more=acc++more
 |[],acc,_=>by rw[List.append_nil];rfl
 |p::r,acc,h=>by
  have e:putK acc p.1 p.2=acc++[p]:=IB λx hx e=>by rw[zy,List.nodup_append]at h;exact h.2.2 x.1 (zj.mpr ⟨x,hx,rfl⟩) p.1 (zj.mpr ⟨p,zm,rfl⟩) e
  show ju (putK acc p.1 p.2) r=_;rw[e,uL<|by rw[List.append_assoc];exact h,List.append_assoc];rfl
def vT:List (Str×TD)->SD->au->(List (Key×D)->au->Prop)->KX->Prop|[],_,S,R,_=>R [] S| (k,t)::r,σ,S,R,Z=>t σ S (λd S1=>vT r σ S1 (λl S2=>R ((.inr k,d)::l) S2) Z) Z
section
variable{K:Frag}
theorem Af:∀{l:List (Str×TD)}{H:Hp}{S:au}{R:List (Key×D)->au->Prop}{Q:List (V×V)->Hp->Prop},iB K H σ τ->Rs K S H->vT l σ S R Z->(∀QP S' kvs H',R QP S'->bQ K H' QP kvs->QP.map Prod.fst=l.map (λx=>Sum.inr x.1)->Rs K S' H'->Kp K H H'->Q (kvs.map λkv=>(kV kv.1,kv.2)) H')->DN K H Z (E τ)->vp (l.map λkt=>(T K E<|dC<|.str kt.1,T K E kt.2)) τ H Q|[],H,S,R,Q,_,hS,q,hR,_=>hR [] S [] H q .nil rfl hS (.refl _)| (k,t)::r,H,S,R,Q,aB,hS,q,hR,hZ=>{σ,S,λd S'=>d=.str k/\t σ S' (λd S1=>vT r σ S1 (λl S2=>R ((.inr k,d)::l) S2) Z) Z,Z,aB,hS,⟨rfl,q⟩,by rintro d S1 v H1 ⟨e,q1⟩ v1 s1 k1;subst e;refine{σ,S1,_,Z,aB.ts k1,s1,q1,λd2 S2 v2 H2 q2 r2 s2 k2=>?_,hZ.kp k1};refine Af (aB.ts<|k1.trans k2) s2 q2 (λQP S3 kvs H3 q3 rk ek s3 k3=>?_)<|hZ.kp<|k1.trans k2;have:=hR _ S3 ((.inr k,v2)::kvs) H3 q3 (.cons {rfl,Rv.ts k3 _ r2} rk) (by rw[zu,zu,ek]) s3<|(k1.trans k2).trans k3;rw[v1.str];exact this,hZ}
variable{X:Cx}{pos:Pos}
structure Xs(K:Frag)(X:Cx)(pos:Pos)(keys:List (Option Expr))(values:List Expr)(l:List (Str×TD)):Prop where
 of:∀{b:Bool}(y:Ev X b),TY y.cx pos keys values<|l.map λkt=>(T K y.E<|dC<|.str kt.1,T K y.E kt.2)
theorem dp0:Xs K X pos [] [] []:=⟨λy=>K1⟩
theorem Xt{t:TD}(hk:DE K X ke<|dC<|.str k)(hv:DE K X v t)(hr:Xs K X pos ks vs l):Xs K X pos (some ke::ks) (v::vs) ((k,t)::l):=⟨λy=>Hn (hk.of y) (hv.of y)<|hr.of y⟩
def VG(l:List<|Str×TD):TD:=λσ S R Z=>∀p,S p=none->vT l σ (S.set p<|.cB []) (λQP S2=>S2 p=some (.cB [])/\R (.ref p) (S2.set p<|.cB QP)) Z
theorem edd(h:Xs K X pos keys values l)(hn:autoParam ((l.map Prod.fst).Nodup) qJX)(hl:autoParam (l.length<=15) qQZ)(Ho:autoParam (keys.all (·.isSome)=true) qQJ)(hlen:autoParam (keys.length=values.length) qQJ)(h0:keys≠[]:=by exact List.cons_ne_nil _ _)(Yy:autoParam (keys.length<=15) qQZ):DE K X (.Dict keys values pos) (VG l):=by
 refine⟨λy=>(K2 (X:=y.cx) (h.of y) Ho hlen h0 Yy).mono λτ H Q ⟨σ,S,R,Z,aB,hS,q,hR,hZ⟩ p hp=>?_⟩;refine Af (aB.ts<|.new hp) (hS.new (c:=.cB []) hp {[],aE,.nil}) (q p<|hS.fresh hp) (λQP S2 kvs H2 ⟨e1,q2⟩ rk ek s2 k2=>?_)<|hZ.kp<|.new hp;obtain⟨xs,e2,t⟩:=s2.cB e1;cases t;have ekv:∀{a:List (Key×D)}{b:List (Key×V)},bQ K H2 a b->a.map Prod.fst=b.map Prod.fst:=λh=>by induction h with|nil=>rfl|cons r _ ih=>rw[zu,zu,r.1,ih]
 have em:ju [] kvs=kvs:=uL (by rw[List.nil_append,<-ekv rk,ek,show(l.map λx=>(Sum.inr x.1:Key))=(l.map Prod.fst).map Sum.inr by rw[zG];rfl];exact List.Pairwise.map _ (λa b hab e=>hab<|yK e) hn);have Qy:kvs.length<=15:=by have:=congrArg List.length<|(ekv rk).symm.trans ek;rw[zb,zb]at this;lia
 have kk:=s2.gM (o:=.dK kvs) e1;refine{e2,kvs,rfl,Qy,?_};rw[em];exact hR _ _ _ _ q2 (gL p) (s2.put (c:=.cB _) e1 {_,aE,rk.ts kk})<|((Kp.new hp).trans k2).trans kk
end
noncomputable def fK(N:Nat)(v:Nat->Value):Array Value:=((List.range N).map v).toArray
structure ZN(n N:Nat)(l:Nat->Addr)(i:Nat)(h:Heap):Prop where
 z:IsZip h (n+N+2) (n+N) (n+N+1) .none
 t:mx h (n+N) (fK N λj=>.ref<|n+j)
 o:∃arr:Array Value,arr.size=N/\mx h (n+N+1) arr
 it:∀j,j<N->h.IsTupleIter (n+j) (l j) i
theorem ko:(fK N v).size=N:=by unfold fK;simp
theorem jC:(fK N v).toList.length=N:=by unfold fK;simp
theorem L_(h:arr.size=N)(e:∀j,j<N->arr[j]?=some (v j)):arr=fK N v:=by refine Array.ext (by rw[h,ko]) λj h1 h2=>?_;have:=e j (by lia);rw[Array.getElem?_eq_getElem h1]at this;rw[zU this];simp[fK]
section
variable{prog:Program}{w:World}{A:Around}{E:Value->Shared->Prop}{s:Shared}{n N:Nat}{l:Nat->Addr}{i:Nat}{xs:Nat->Array Value}
theorem FO{v:Nat->Value}{Q:Value->Shared->Prop}(h1:1<=N)(h3:N<=3)(lt:∀j,j<N->l j<n)(hs:ZN n N l i s.heap)(tu:∀j,j<N->s.heap.IsTuple (l j) (xs j))(ev:∀j,j<N->(xs j)[i]?=some (v j)) (hQ:∀h',IsZip h' (n+N+2) (n+N) (n+N+1) (rawInt s.heap.objs.size)->mx h' (n+N+1) (fK N v)->(∀j,j<N->h'.IsTupleIter (n+j) (l j) (i+1))->mx h' s.heap.objs.size (fK N v)->(∀c o,c≠n+N+2->c≠n+N+1->(∀j,j<N->c≠n+j)->s.heap.get? c=some o->h'.get? c=some o)->Q (.ref s.heap.objs.size) {s with heap:=h'}): wpAny (model prog w) A (Builtin.«zip.__next__» {[.ref<|n+N+2],[]}) (λfin s'=>∃v,fin=.done (.ret v)/\Q v s') E s:=by
 obtain⟨hz,hI,⟨arr,na,hO⟩,hit⟩:=hs;show wpAny _ _ (field (.ref<|n+N+2) 2 >>=_) _ _ _;refine zc<|yi hz rfl (x:=.bool false) rfl ?_;show wpAny _ _ (field (.ref<|n+N+2) 3 >>=_) _ _ _;refine zc<|yi hz rfl (x:=.ref<|n+N) rfl ?_;refine zc<|wpAny_seqItems hI rfl ?_;have he:(fK N λj=>Value.ref<|n+j).isEmpty=false:=by rw[Array.isEmpty_eq_false_iff];intro e;have:=congrArg Array.size e;rw[ko]at this;simp at this;lia
 dsimp only;rw[if_neg<|by rw[he];exact zd];refine zc ?_;unfold Builtin.SmallTypes.ownedTupleIsFree;refine zc<|yi hz rfl (x:=.none) rfl<|zD ?_;simp only[if_true];refine zc<|wpAny_rule ?_;refine zc<|yi hz rfl (x:=.ref<|n+N+1) rfl ?_;refine zc<|wpAny_setField_rec hz (by simp) λh0 Ma q0=>?_;replace Ma:IsZip h0 (n+N+2) (n+N) (n+N+1) .ellipsis:=Ma;have k0:∀c o,c≠n+N+2->s.heap.get? c=some o->h0.get? c=some o:=λc o d e=>q0.extBut _ _ d e;refine zc<|wpAny_forIn_list _ (λrest b s'=>∃(k:Nat)(h':Heap)(a':Array Value),k<=N/\rest=((fK N λj=>Value.ref<|n+j).toList.zipIdx).drop k/\b=(none,())/\s'={s with heap:=h'}/\mx h' (n+N+1) a'/\a'.size=N/\(∀j,j<k->a'[j]?=some (v j))/\(∀j,j<N->h'.IsTupleIter (n+j) (l j) (if j<k then i+1 else i))/\IsZip h' (n+N+2) (n+N) (n+N+1) .ellipsis/\h'.objs.size=s.heap.objs.size/\(∀c o,c≠n+N+2->c≠n+N+1->(∀j,j<N->c≠n+j)->s.heap.get? c=some o->h'.get? c=some o)) _ ?_ ?_ _ _ ?_;rintro x rest b s' ⟨k,h',a',hk,e1,rfl,rfl,O,ha,hv,J,Z,sz,kp⟩;have dM:k<N:=by have:=congrArg List.length e1;rw[zS,List.length_drop,List.length_zipIdx,jC]at this;lia
 have e2:((fK N λj=>Value.ref<|n+j).toList.zipIdx).drop k=(Value.ref<|n+k,k)::((fK N λj=>Value.ref<|n+j).toList.zipIdx).drop (k+1):=by rw[List.drop_eq_getElem_cons<|by rw[List.length_zipIdx,jC];exact dM];simp[fK]
 rw[e2]at e1;cases e1;have lk:@LT.lt Nat _ (l k) n:=lt k dM;have Jk:=J k dM;rw[if_neg<|yA _]at Jk;have T0:Heap.IsTuple h' (l k) (xs k):=by obtain⟨o,a1,a2⟩:=tu k dM;exact{o,kp _ _ (by show @Ne Nat _ _;lia) (by show @Ne Nat _ _;lia) (λj _=>by show @Ne Nat _ _;lia) a1,a2}
 refine zc<|wpAny_onRaise ?_;show wpAny _ _ (Builtin.SmallTypes.nextOf (.ref<|n+k) >>=_) _ _ _;refine zc<|BO (s:={s with heap:=h'}) Jk T0 (ev k dM) λg1 m0 q1=>zD ?_;have O1:mx g1 (n+N+1) a':=q1.extBut _ _ (by show @Ne Nat _ _;lia) O;refine zc<|wpAny_seqItems (s:={s with heap:=g1}) O1 rfl ?_;refine zc<|Fv (s:={s with heap:=g1}) O1 (by lia) λg2 O2 q2=>?_;refine zc<|wpAny_letGo<|zD ?_;refine{k+1,g2,_,dM,rfl,rfl,rfl,O2,by rw[Array.size_setIfInBounds];exact ha,λj hj=>?_,λj hj=>?_,q2.extBut _ _ (by show @Ne Nat _ _;lia)<|q1.extBut _ _ (by show @Ne Nat _ _;lia) Z,by rw[q2.1,q1.1];exact sz,λc o d1 d2 d3 e=>q2.extBut _ _ d2<|q1.extBut _ _ (d3 k dM)<|kp c o d1 d2 d3 e};by_cases z:j=k;subst z;rw[Array.getElem?_setIfInBounds_self_of_lt<|by lia];rw[Array.getElem?_setIfInBounds_ne<|Ne.symm z];exact hv j (by lia);by_cases z:j=k;subst z;rw[if_pos<|Nat.lt_succ_self _];exact vG q2.extBut (by show @Ne Nat _ _;lia) m0;have:=J j hj;rw[show(if j<k+1 then i+1 else i)=if j<k then i+1 else i by by_cases y:j<k;rw[if_pos y,if_pos<|by lia];rw[if_neg y,if_neg<|by lia]];exact vG q2.extBut (by show @Ne Nat _ _;lia)<|vG q1.extBut (by show @Ne Nat _ _;lia) this;rintro b s' ⟨k,h',a',hk,e1,rfl,rfl,O,ha,hv,J,Z,sz,kp⟩;have dM:k=N:=by have:=congrArg List.length e1;rw[List.length_nil,List.length_drop,List.length_zipIdx,jC]at this;lia
 subst dM;have ea:=L_ ha hv;subst ea;refine zc<|wpAny_seqItems (s:={s with heap:=h'}) O rfl ?_;refine zc<|wpAny_newTuple ?_ (hsz:=by rw[jC];exact Y0 h3);have lz:n+k+2<h'.objs.size:=zw Z;show wpAny _ _ (Builtin.SmallTypes.ownedTupleHandOut (.ref<|n+k+2) (.ref h'.objs.size) >>=_) _ _ _;refine zc ?_;unfold Builtin.SmallTypes.ownedTupleHandOut;have hzM:IsZip (h'.push {cls:=.type "tuple",data:=.seq<|fK k v}) (n+k+2) (n+k) (n+k+1) .ellipsis:=za _ Z;refine zc<|wpAny_setField_rec (s:={s with heap:=h'.push {cls:=.type "tuple",data:=.seq<|fK k v}}) hzM (by simp) λg1 Ss r1=>?_;replace Ss:IsZip g1 (n+k+2) (n+k) (n+k+1) (rawInt h'.objs.size):=Ss;refine wpAny_setField_rec (s:={s with heap:=g1}) Ss (by simp) λg2 QD r2=>?_;replace QD:IsZip g2 (n+k+2) (n+k) (n+k+1) (rawInt h'.objs.size):=QD;have up:∀c o,c≠n+k+2->h'.get? c=some o->g2.get? c=some o:=λc o d e=>r2.extBut _ _ d<|r1.extBut _ _ d<|za _ e;have hT:mx g2 h'.objs.size (fK k v):=r2.extBut _ _ (yo lz)<|r1.extBut _ _ (yo lz)<|zk _ rfl;rw[sz]at QD hT;refine zD !⟨?_⟩;show Q (.ref h'.objs.size) _;rw[sz];refine hQ g2 QD (up _ _ (by show @Ne Nat _ _;lia) O) (λj hj=>?_) hT λc o d1 d2 d3 e=>up c o d1<|kp c o d1 d2 d3 e;have:=J j hj;rw[if_pos hj]at this;exact NG (λo e=>up _ o (by show @Ne Nat _ _;lia) e) this;refine{0,h0,arr,zT _,rfl,rfl,rfl,k0 _ _ (by show @Ne Nat _ _;lia) hO,na,λj hj=>absurd hj<|Nat.not_lt_zero _,λj hj=>?_,Ma,q0.1,λc o d _ _ e=>k0 c o d e};rw[if_neg<|Nat.not_lt_zero _];obtain⟨o,a1,a2⟩:=hit j hj;exact{o,k0 _ _ (by show @Ne Nat _ _;lia) a1,a2}
theorem IC(h1:1<=N)(hh:A.handled=none)(hs:ZN n N l i s.heap)(lt:l 0<n)(t0:s.heap.IsTuple (l 0)<|xs 0)(e0:(xs 0)[i]?=none) (hE:∀h' e,(∀c o,c≠n+N+2->c≠n+0->s.heap.get? c=some o->h'.get? c=some o)->(∃o,h'.get? e=some o/\o.cls=.type "StopIteration")->E (.ref e) {s with heap:=h'}): wpAny (model prog w) A (Builtin.«zip.__next__» {[.ref<|n+N+2],[]}) Q E s:=by
 obtain⟨hz,hI,⟨arr,na,hO⟩,hit⟩:=hs;show wpAny _ _ (field (.ref<|n+N+2) 2 >>=_) _ _ _;refine zc<|yi hz rfl (x:=.bool false) rfl ?_;show wpAny _ _ (field (.ref<|n+N+2) 3 >>=_) _ _ _;refine zc<|yi hz rfl (x:=.ref<|n+N) rfl ?_;refine zc<|wpAny_seqItems hI rfl ?_;have he:(fK N λj=>Value.ref<|n+j).isEmpty=false:=by rw[Array.isEmpty_eq_false_iff];intro e;have:=congrArg Array.size e;rw[ko]at this;simp at this;lia
 dsimp only;rw[if_neg<|by rw[he];exact zd];refine zc ?_;unfold Builtin.SmallTypes.ownedTupleIsFree;refine zc<|yi hz rfl (x:=.none) rfl<|zD ?_;simp only[if_true];refine zc<|wpAny_rule ?_;refine zc<|yi hz rfl (x:=.ref<|n+N+1) rfl ?_;refine zc<|wpAny_setField_rec hz (by simp) λh0 Ma q0=>?_;replace Ma:IsZip h0 (n+N+2) (n+N) (n+N+1) .ellipsis:=Ma;have lk:@LT.lt Nat _ (l 0) n:=lt;have J0:Heap.IsTupleIter h0 (n+0) (l 0) i:=by obtain⟨o,a1,a2⟩:=hit 0 h1;exact{o,q0.extBut _ _ (by show @Ne Nat _ _;lia) a1,a2}
 have T0:Heap.IsTuple h0 (l 0) (xs 0):=by obtain⟨o,a1,a2⟩:=t0;exact{o,q0.extBut _ _ (by show @Ne Nat _ _;lia) a1,a2}
 have e2:(fK N λj=>Value.ref<|n+j).toList.zipIdx=(Value.ref<|n+0,0)::((fK N λj=>Value.ref<|n+j).toList.zipIdx).drop 1:=by have:=List.drop_eq_getElem_cons (l:=(fK N λj=>Value.ref<|n+j).toList.zipIdx) (i:=0) (by rw[List.length_zipIdx,jC];exact h1);rw[List.drop_zero]at this;rw[this];simp[fK]
 rw[e2,List.forIn_cons];refine zc<|zc<|zc<|wpAny_onRaise ?_;show wpAny _ _ (Builtin.SmallTypes.nextOf (.ref<|n+0) >>=_) _ _ _;refine zc<|q_ (s:={s with heap:=h0}) hh J0 T0 e0 λh1 e q1 he=>?_;obtain⟨oe,hoe,hce⟩:=he;have Ss:IsZip h1 (n+N+2) (n+N) (n+N+1) .ellipsis:=q1 _ _ (by show @Ne Nat _ _;lia) Ma;have ez:e≠n+N+2:=λx=>by subst x;rw[Ss]at hoe;cases hoe;simp at hce
 refine wpAny_setField_rec (s:={s with heap:=h1}) Ss (by simp) λh2 _ q2=>hE h2 e (λc o dz d0 x=>q2.extBut _ _ dz<|q1 _ _ d0<|q0.extBut _ _ dz x) {oe,q2.extBut _ _ ez hoe,hce}
end
noncomputable def QQ(K:Frag)(N:Nat)(l:Nat->Addr):It:={λi H=>∃(xs:Nat->List V)(x:Nat->V),∀j,j<N->g_ K H (l j) (xs j)/\(xs j)[i]?=some (x j),λi H y H'=>∃T,H T=none/\y=.ref T/\∀(xs:Nat->List V)(x:Nat->V),(∀j,j<N->g_ K H (l j) (xs j)/\(xs j)[i]?=some (x j))->H'=upd H T (.tup<|(List.range N).map x),λi H=>∃xs:Nat->List V,(∀j,j<N->g_ K H (l j) (xs j))/\(xs 0).length<=i}
noncomputable def Su(n N:Nat):List Addr:=(List.range<|N+3).map λj=>n+j
theorem qy(h:b∈Su n N):∃j,j<N+3/\b=n+j:=by obtain⟨j,hj,e⟩:=zj.mp h;exact{j,zV.mp hj,e.symm}
theorem fL(h:j<N+3):(n+j:Nat)∈Su n N:=zj.mpr {j,zV.mpr h,rfl}
theorem Cj(h:∀j,j<N->RelV (x j) (u j)):Vals ((List.range N).map x) ((List.range N).map u):=by
 have:∀l:List Nat,(∀j∈l,j<N)->Vals (l.map x) (l.map u):=by intro l;induction l with|nil=>exact λ_=>.nil|cons a l ih=>exact λhl=>.cons (h a<|hl a zm)<|ih λj hj=>hl j<|zh _ hj
 exact this _ λj hj=>zV.mp hj
theorem uM{P:Program}{w:World}{K:Frag}{es:List Expr}{kk:Nat}{tp:Pos}{n N:Nat}{l:Nat->Addr}(h1:1<=N)(h3:N<=3)(lt:∀j,j<N->l j<n):Turn P w K (.Tuple es kk tp) (QQ K N l) (Su n N) (n+N+2) (ZN n N l) where
 mem:=fL (j:=N+2)<|by lia
 obj:=λi h st b hb=>by
  obtain⟨j,hj,rfl⟩:=qy hb
  by_cases q:j<N
  ·obtain⟨o,e,c,d⟩:=st.it j q;exact{o,e,λv z=>by rw[d]at z;cases z}
  ·obtain⟨arr,na,hO⟩:=st.o
   have:j=N\/j=N+1\/j=N+2:=by lia
   rcases this with rfl|rfl|rfl
   ·exact{_,st.t,λv z=>by cases z}
   ·exact{_,hO,λv z=>by cases z}
   ·exact{_,st.z,λv z=>by cases z}
 keep:=λi h h' st k=>by
  obtain⟨hz,hI,⟨arr,na,hO⟩,J⟩:=st
  exact{k _ (fL (j:=N+2)<|by lia) _ hz,k _ (fL (j:=N)<|by lia) _ hI,{arr,na,k _ (fL (j:=N+1)<|by lia) _ hO},λj hj=>NG (λo e=>k _ (fL<|by lia) o e)<|J j hj}
 item:=by
  intro X hP hw hK hc i pins s σ H E I hf st hg
  subst hP hw hK
  obtain⟨xs,x,hx⟩:=hg
  have ex:∀j,∃(ay:List Value)(u:Value),j<N->Vals (xs j) ay/\s.heap.IsTuple (l j) ay.toArray/\ay[i]?=some u/\RelV (x j) u:=λj=>by
   by_cases q:j<N
   ·obtain⟨ay,rv,p,_⟩:=I.tuple (hx j q).1
    obtain⟨u,hu,ru⟩:=rv.get (hx j q).2
    exact{ay,u,λ_=>⟨rv,p,hu,ru⟩}
   ·exact{[],.none,λh=>absurd h q}
  have fx:=Classical.axiomOfChoice ex
  obtain⟨ay,fx⟩:=fx
  obtain⟨u,fx⟩:=Classical.axiomOfChoice fx
  have hT:s.TypeIs (.ref<|n+N+2) "zip":={_,st.z,rfl}
  have lz:@LT.lt Nat _ (n+N+2) s.heap.objs.size:=zw st.z
  unfold pyNext
  refine zc<|wpAny_attempt<|wpAny_callSpecial?_slot (name:=Str.ofString "__next__") hT F.slot_zip_next<|yM F.slot_zip_next hT F.entry_zip_next (FO h1 h3 lt st (xs:=λj=>(ay j).toArray) (v:=u) (λj hj=>(fx j hj).2.1) (λj hj=>by simpa using (fx j hj).2.2.1) λg1 z1 O1 m1 T1 kp=>zD !⟨?_⟩)<|F.args_zip_next_1 _
  refine wpAny_letOwnedTupleGo_zip (s:={s with heap:=g1}) z1 λg2 z2 r2=>?_
  have Xp:∀c o,c∉Su n N->s.heap.get? c=some o->g2.get? c=some o:=λc o hc e=>r2.extBut _ _ (λz=>hc<|z ▸ fL (j:=N+2) (by lia))<|kp c o (λz=>hc<|z ▸ fL (j:=N+2) (by lia)) (λz=>hc<|z ▸ fL (j:=N+1) (by lia)) (λj hj z=>hc<|z ▸ fL (by lia)) e
  have T2:mx g2 s.heap.objs.size (fK N u):=r2.extBut _ _ (yo lz) T1
  have I2:Inv X pins σ (upd H s.heap.objs.size<|.tup<|(List.range N).map x) {s with heap:=g2}:=I.Ln (t':=s.toks) (Su n N) hf Xp (Heap.get?_none_of_le<|zp _) {by rw[zb,List.length_range];exact smz<|zO h3<|by decide,_,Cj λj hj=>(fx j hj).2.2.2,{_,T2,rfl,rfl,_,rfl}}
  refine{.ref s.heap.objs.size,_,I2,rfl,{_,I.aM.fresh<|zp _,rfl,λys y hy=>?_},{z2,?_,{_,ko,r2.extBut _ _ (by show @Ne Nat _ _;lia) O1},λj hj=>vG r2.extBut (by show @Ne Nat _ _;lia)<|m1 j hj},λb hb=>?_}
  ·congr 2
   refine zW λj hj=>?_
   have hj:=zV.mp hj
   have:=I.nJ (hy j hj).1 (hx j hj).1
   have e:=(hy j hj).2
   rw[this,(hx j hj).2]at e
   exact zU e
  ·exact r2.extBut _ _ (by show @Ne Nat _ _;lia) (kp _ _ (by show @Ne Nat _ _;lia) (by show @Ne Nat _ _;lia) (λj hj=>by show @Ne Nat _ _;lia) st.t)
  ·obtain⟨j,hj,rfl⟩:=qy hb
   rw[aw<|by show @Ne Nat _ _;lia]
   exact(hf _ hb).1
 done:=by
  intro X hP hw hK hc i pins s σ H E I hf st hg
  subst hP hw hK
  obtain⟨xs,hx,hl⟩:=hg
  obtain⟨ID,rv0,p0,_⟩:=I.tuple<|hx 0 h1
  have hT:s.TypeIs (.ref<|n+N+2) "zip":={_,st.z,rfl}
  have Sv:=rv0.length
  unfold pyNext
  refine zc<|wpAny_attempt<|wpAny_callSpecial?_slot (name:=Str.ofString "__next__") hT F.slot_zip_next<|yM F.slot_zip_next hT F.entry_zip_next (IC h1 (I.ok.hd hc) st (lt 0 h1) (xs:=λ_=>ID.toArray) p0 (by simp;lia) λh1 e kp he=>?_)<|F.args_zip_next_1 _
  obtain⟨o,ho,LU⟩:=he
  refine zc<|wpAny_isInstance (T:="StopIteration") (b:=true) ⟨o,ho,LU⟩ isSubtype_stop<|zD {rfl,?_}
  exact I.Ll (t':=s.toks) (Su n N) hf λc o hc e=>kp c o (λz=>hc<|z ▸ fL (j:=N+2) (by lia)) (λz=>hc<|z ▸ fL (j:=0) (by lia)) e
 self:=λA' i s Q E st h=>wpAny_pyIter_zip st.z h
noncomputable def two(a b:Addr):Nat->Addr:=λj=>if j=0 then a else b
noncomputable def QR(a b c:Addr):Nat->Addr:=λj=>if j=0 then a else if j=1 then b else c
theorem Xu{p:Nat->Prop}(h0:p 0)(h1:p 1):∀j,j<2->p j|0,_=>h0|1,_=>h1|j+2,h=>by lia
theorem Xv{p:Nat->Prop}(h0:p 0)(h1:p 1)(h2:p 2):∀j,j<3->p j|0,_=>h0|1,_=>h1|2,_=>h2|j+3,h=>by lia
section
variable{X:Cx}{a b c:Expr}{ta:TA}{p pos tp:Pos}{es:List Expr}{kk:Nat}
theorem QS(hg:Gl X "zip")(hm:X.mg "zip"= none)(ha:PA X [a,b] ta)(hs:starEach [a,b] X.env=[(false,eval a X.env),(false,eval b X.env)])(xJ:starEach [b] X.env=[(false,eval b X.env)]): PI X (.Tuple es kk tp) (.Call (.Name "zip" p) [a,b] [] pos) (λσ H R=>ta σ H λvs H1=>∃l0 l1,vs=[.ref l0,.ref l1]/\(∃xs,g_ X.K H1 l0 xs)/\(∃xs,g_ X.K H1 l1 xs)/\R (QQ X.K 2<|two l0 l1) H1):=by intro pins s σ H R I h;refine Call_<|gG I hg hm boot_zip<|PyProof.Rows.callWith_type1 (br (ha pos pins s σ H _ I h) λus s1 ⟨vs,H1,I1,r1,q1⟩=>?_) (by rw[hs,xJ]) (by rw[xJ];rfl);obtain⟨l0,l1,e,⟨BP,q0⟩,⟨BQ,q2⟩,q⟩:=q1;subst e;obtain⟨u,v,rfl,r,r'⟩:=r1.two;cases r;cases r';obtain⟨ID,rv0,p0,_⟩:=I1.tuple q0;obtain⟨QT,Vr,p1,_⟩:=I1.tuple q2;refine BU (show s1.heap.IsTuple l0 ID.toArray from p0) (show s1.heap.IsTuple l1 QT.toArray from p1) λh' zs kp=>?_;have zn:ZN s1.heap.objs.size 2 (two l0 l1) 0 h':={zs.1,zs.2.1,zs.2.2.1,Xu zs.2.2.2.1 zs.2.2.2.2};refine wpAny_pyIter_zip (s:={s1 with heap:=h'}) zs.1 {_,_,_,_,H1,rfl,I1.kept (t':=s1.toks) kp,uM (by decide) (by decide)<|Xu p0.lt p1.lt,zn,λb hb=>?_,q};obtain⟨j,_,rfl⟩:=qy hb;exact I1.pU (Nat.le_add_right _ _)<|I1.aM.fresh<|Nat.le_add_right _ _
theorem QU(hg:Gl X "zip")(hm:X.mg "zip"= none)(ha:PA X [a,b,c] ta)(hs:starEach [a,b,c] X.env=[(false,eval a X.env),(false,eval b X.env),(false,eval c X.env)])(xJ:starEach [b,c] X.env=[(false,eval b X.env),(false,eval c X.env)]): PI X (.Tuple es kk tp) (.Call (.Name "zip" p) [a,b,c] [] pos) (λσ H R=>ta σ H λvs H1=>∃l0 l1 l2,vs=[.ref l0,.ref l1,.ref l2]/\(∃xs,g_ X.K H1 l0 xs)/\(∃xs,g_ X.K H1 l1 xs)/\(∃xs,g_ X.K H1 l2 xs)/\R (QQ X.K 3<|QR l0 l1 l2) H1):=by intro pins s σ H R I h;refine Call_<|gG I hg hm boot_zip<|PyProof.Rows.callWith_type1 (br (ha pos pins s σ H _ I h) λus s1 ⟨vs,H1,I1,r1,q1⟩=>?_) (by rw[hs,xJ]) (by rw[xJ];rfl);obtain⟨l0,l1,l2,e,⟨BP,q0⟩,⟨BQ,q2⟩,⟨Sa,q3⟩,q⟩:=q1;subst e;obtain⟨u,v,z,rfl,r,r',r''⟩:=r1.three;cases r;cases r';cases r'';obtain⟨ID,rv0,p0,_⟩:=I1.tuple q0;obtain⟨QT,Vr,p1,_⟩:=I1.tuple q2;obtain⟨pX,Sn,p2,_⟩:=I1.tuple q3;refine B4 (show s1.heap.IsTuple l0 ID.toArray from p0) (show s1.heap.IsTuple l1 QT.toArray from p1) (show s1.heap.IsTuple l2 pX.toArray from p2) λh' zs kp=>?_;have zn:ZN s1.heap.objs.size 3 (QR l0 l1 l2) 0 h':={zs.1,zs.2.1,zs.2.2.1,Xv zs.2.2.2.1 zs.2.2.2.2.1 zs.2.2.2.2.2};refine wpAny_pyIter_zip (s:={s1 with heap:=h'}) zs.1 {_,_,_,_,H1,rfl,I1.kept (t':=s1.toks) kp,uM (by decide) (by decide)<|Xv p0.lt p1.lt p2.lt,zn,λb hb=>?_,q};obtain⟨j,_,rfl⟩:=qy hb;exact I1.pU (Nat.le_add_right _ _)<|I1.aM.fresh<|Nat.le_add_right _ _
end
section
variable{K:Frag}{X:Cx}{a c e:Expr}{t:jh}{p pos tp:Pos}{es:List Expr}{kk:Nat}
theorem izn(hm:X.mg "zip"= none)(ha:DA K X [a,c] t)(hg:autoParam (Gl X "zip") qQJ)(hs:autoParam (starEach [a,c] X.env=[(false,eval a X.env),(false,eval c X.env)]) qQJ)(xJ:autoParam (starEach [c] X.env=[(false,eval c X.env)]) qQJ)(hK:autoParam (X.K=K) qQJ): DI K X (.Tuple es kk tp) (.Call (.Name "zip" p) [a,c] [] pos) (Vb t):=by subst hK;exact⟨λy=>(QS (X:=y.cx) hg hm (ha.of y) hs xJ).mono λτ H R ⟨σ,S,RI,Z,aB,hS,q,hR,hZ⟩=>{σ,S,_,Z,aB,hS,q,λds S1 vs H1 ⟨xs,ys,e,hl,r1⟩ v1 s1 k1=>by subst e;obtain⟨v,u,rfl,ra,rb⟩:=v1.two;obtain⟨a,va,rfl,qa,ta⟩:=ra.tup;obtain⟨b,vb,rfl,qb,tb⟩:=rb.tup;refine{a,b,rfl,{va,.of qa},{vb,.of qb},hR _ S1 _ H1 r1 (λi S2 H2 k2 s2 _=>?_) s1 k1};have VH:g_ X.K H2 a va:=.of<|k2.t _ _ qa;have VI:g_ X.K H2 b vb:=.of<|k2.t _ _ qb;have la:va.length=xs.length:=ta.len;let f:Nat->List V:=λj=>if j=0 then va else vb;refine{λd hd=>?_,λh=>{f,Xu VH VI,by show va.length<=i;unfold cC at h;rw[List.length_zipWith]at h;lia}};unfold cC at hd;obtain⟨x,y',e1,e2,e3⟩:=List.getElem?_zipWith_eq_some.mp hd;subst e3;obtain⟨vx,f1,g1⟩:=(RvAll.ts k2 _ ta).get e1;obtain⟨vy,f2,g2⟩:=(RvAll.ts k2 _ tb).get e2;let g:Nat->V:=λj=>if j=0 then vx else vy;have ok:∀j,j<2->g_ X.K H2 (two a b j) (f j)/\(f j)[i]?=some (g j):=Xu ⟨VH,f1⟩ ⟨VI,f2⟩;refine{⟨f,g,ok⟩,λx' H' ⟨T,hT,e4,e5⟩=>?_};have:=e5 f g ok;subst this e4;have kk:Kp X.K H2 (upd H2 T<|.tup [vx,vy]):=.new hT;exact{jy aE<|RvAll.ts kk _<|aQ g1<|aQ g2 bC,kk,s2.grow hT},hZ}⟩
theorem aak(hm:X.mg "zip"= none)(ha:DA K X [a,c,e] t)(hg:autoParam (Gl X "zip") qQJ)(hs:autoParam (starEach [a,c,e] X.env=[(false,eval a X.env),(false,eval c X.env),(false,eval e X.env)]) qQJ)(xJ:autoParam (starEach [c,e] X.env=[(false,eval c X.env),(false,eval e X.env)]) qQJ)(hK:autoParam (X.K=K) qQJ): DI K X (.Tuple es kk tp) (.Call (.Name "zip" p) [a,c,e] [] pos) (QN t):=by subst hK;exact⟨λy=>(QU (X:=y.cx) hg hm (ha.of y) hs xJ).mono λτ H R ⟨σ,S,RI,Z,aB,hS,q,hR,hZ⟩=>{σ,S,_,Z,aB,hS,q,λds S1 vs H1 ⟨xs,ys,zs,e,hl,PC,r1⟩ v1 s1 k1=>by subst e;obtain⟨v,u,w,rfl,ra,rb,rc⟩:=v1.thr;obtain⟨a,va,rfl,qa,ta⟩:=ra.tup;obtain⟨b,vb,rfl,qb,tb⟩:=rb.tup;obtain⟨c,vc,rfl,qc,tc⟩:=rc.tup;refine{a,b,c,rfl,{va,.of qa},{vb,.of qb},{vc,.of qc},hR _ S1 _ H1 r1 (λi S2 H2 k2 s2 _=>?_) s1 k1};have VH:g_ X.K H2 a va:=.of<|k2.t _ _ qa;have VI:g_ X.K H2 b vb:=.of<|k2.t _ _ qb;have qc2:g_ X.K H2 c vc:=.of<|k2.t _ _ qc;have la:va.length=xs.length:=ta.len;let f:Nat->List V:=λj=>if j=0 then va else if j=1 then vb else vc;refine{λd hd=>?_,λh=>{f,Xv VH VI qc2,by show va.length<=i;rw[la,<-nX hl PC];exact h}};obtain⟨x,y',z,e1,e2,e3,e4⟩:=nY hd;subst e4;obtain⟨vx,f1,g1⟩:=(RvAll.ts k2 _ ta).get e1;obtain⟨vy,f2,g2⟩:=(RvAll.ts k2 _ tb).get e2;obtain⟨vz,f3,g3⟩:=(RvAll.ts k2 _ tc).get e3;let g:Nat->V:=λj=>if j=0 then vx else if j=1 then vy else vz;have ok:∀j,j<3->g_ X.K H2 (QR a b c j) (f j)/\(f j)[i]?=some (g j):=Xv ⟨VH,f1⟩ ⟨VI,f2⟩ ⟨qc2,f3⟩;refine{⟨f,g,ok⟩,λx' H' ⟨T,hT,e4,e5⟩=>?_};have:=e5 f g ok;subst this e4;have kk:Kp X.K H2 (upd H2 T<|.tup [vx,vy,vz]):=.new hT;exact{jy aE<|RvAll.ts kk _<|aQ g1<|aQ g2<|aQ g3 bC,kk,s2.grow hT},hZ}⟩
end
end L2
namespace My
open PySem L2
def top(i:Nat):Stmt:=PySem.Challenge.pw_pageturns_k43_several_walks.main.body.getD i<|.Pass {0,0,0,0}
abbrev FP:Stmt:=top 20
abbrev IE:Stmt:=top 21
abbrev FQ:Stmt:=top 22
abbrev p6:Stmt:=top 29
abbrev Ck:Stmt:=top 31
abbrev vU:Stmt:=top 34
abbrev k7:Stmt:=top 44
abbrev lS:Stmt:=top 47
abbrev Co:Stmt:=top 49
abbrev tR:Stmt:=top 57
abbrev Ag:Stmt:=top 58
abbrev Ah:Stmt:=top 62
abbrev rK:Stmt:=top 66
abbrev h_:Stmt:=top 68
abbrev ia:Stmt:=top 69
abbrev fM:Stmt:=top 70
abbrev Cp:Stmt:=top 101
abbrev uN:Stmt:=top 103
abbrev IF:Stmt:=top 106
abbrev FR:Stmt:=top 107
abbrev IG:Stmt:=top 111
abbrev eG:Stmt:=top 90
abbrev bx:Stmt:=top 92
structure eQ where
 (nZ lT FT Ai FU N8 mI rL vV jD jE iG uO mJ ib lU rM rN uP rO mK fN aI ak gy aR fh aL:Addr)
 (ic fO uQ o_ n5 IH gz jF:FuncData)
 (mL n6 mM rP kJ Aj kK mO Al Mb VJ:Tok)
 ts:List Addr
 (f II Cq:Nat->Addr)
 (d VL QV:Nat->FuncData)
structure Txt(w:World)(K:Frag)(mg:Str->Option Value)(t:eQ):Prop where
 fn:FN K mg top t.f t.d [17,18,19,20,21,22,23,24,25,26,29,30,31,32,33,34,35,41,42,43,44,45,46,47,48,49,50,51,57,58,59,60,61,62,63,65,66,67,69,75,76,77,78,79,80,81,82,83,84,85,93,95,96,97,98,99,100,101,102,103,104,105,106,107,108,109,110]
 fP:Ci K t.aI "Walk." eG t.II t.VL [0,1,2,3,4,9,10,11,12,13,14]
 eO:Ci K t.ak "Shelf." bx t.Cq t.QV [0,1,2,3,4,5,6,7,8,13]
 fQ:FJ K mg "sorted_by_keys" (top 68) ["rows","way"] t.nZ t.ic
 eI:FJ K mg "sorted_by_values" (top 70) ["columns","part","rows"] t.lT t.fO
 qz:FJ K mg "page_on" (top 73) ["shelf","order","sieve","size","gap","moment"] t.FT t.uQ
 Am:Binds K t.uQ ["shelf","order","sieve","size","gap","moment"] [.none]
 kr:FJ K mg "page_back" (top 74) ["shelf","order","sieve","size","gap","moment"] t.Ai t.o_
 tT:Binds K t.o_ ["shelf","order","sieve","size","gap","moment"] [.none]
 qA:FJ K mg "stretch" (top 86) ["shelf","order","sieve","fore","hinder","moment"] t.FU t.n5
 N9:Binds K t.n5 ["shelf","order","sieve","fore","hinder","moment"] [.none,.none]
 Ao:Binds K t.n5 ["shelf","order","sieve","fore","hinder","moment"] [.none,.none,.none]
 law:FJ K mg "law" (top 111) ["_law_script"] t.N8 t.IH
 dy:N6 K t.ak "worths_at" "Shelf.worths_at" (inClass bx 9) ["self","key","moment"] t.mI t.gz
 fi:Binds K t.gz ["self","key","moment"] [.none]
 fq:N6 K t.ak "all_at" "Shelf.all_at" (inClass bx 10) ["self","moment"] t.rL t.jF
 n8:Binds K t.jF ["self","moment"] [.none]
 lV:mg "MOST_NAME_SIGNS"= some (.int 8 t.mL)
 mP:mg "MOST_KEY_SIGNS"= some (.int 12 t.n6)
 lW:mg "MOST_WORD_SIGNS"= some (.int 40 t.mM)
 p7:mg "MOST_COLUMNS"= some (.int 8 t.rP)
 jG:mg "MOST_PARTS_orders"= some (.int 8 t.kJ)
 vW:mg "MOST_DEEP"= some (.int 8 t.Aj)
 jH:mg "MOST_PARTS_sieves"= some (.int 200 t.kK)
 lX:mg "MOST_IN_A_TUPLE"= some (.int 8 t.mO)
 vX:mg "MOST_ROWS"= some (.int 1000 t.Al)
 mQ:mg "START"= some (.str "start" t.Mb)
 IJ:mg "END"= some (.str "end" t.VJ)
 IK:mg "KINDS"= some (.ref t.vV)
 IL:∀H,Rv K H (.kt [.str "number",.str "word"])<|.ref t.vV
 vY:mg "OTHER_WAY"= some (.ref t.jD)
 Ap:J6 w K t.jD [("up",.str "down"),("down",.str "up")]
 vZ:mg "OTHER_END"= some (.ref t.jE)
 Aq:J6 w K t.jE [("first",.str "last"),("last",.str "first")]
 tU:mg "OTHER_SIDE"= some (.ref t.iG)
 v5:J6 w K t.iG [("ahead",.str "behind"),("behind",.str "ahead")]
 Cr:mg "LENGTHS"= some (.ref t.uO)
 FV:J6 w K t.uO [("every",.int 1),("is",.int 3),("below",.int 3),("above",.int 3),("begins",.int 3),("key",.int 2),("not",.int 2),("and",.int 2),("or",.int 2)]
 bb:mg "len"= none
 k8:mg "all"= none
 VM:mg "any"= none
 ax:mg "isinstance"= none
 ft:mg "range"= none
 Ec:mg "int"= none
 pb:mg "str"= none
 QW:mg "bool"= none
 bJ:mg "tuple"= none
 QX:mg "dict"= none
 N_:mg "set"= none
 IM:mg "zip"= none
 ie:mg "sorted"= none
 Oa:mg "min"= none
 VN:mg "max"= none
 rQ:mg "reversed"= none
 gN:mg "BadColumns"= some (.ref t.mJ)
 dR:excIn K t.mJ L2.nQ "ValueError.__new__"= true
 ku:mg "BadRow"= some (.ref t.ib)
 ig:excIn K t.ib L2.nQ "ValueError.__new__"= true
 eR:mg "BadOrder"= some (.ref t.lU)
 dH:excIn K t.lU L2.nQ "ValueError.__new__"= true
 pe:mg "BadSieve"= some (.ref t.rM)
 iH:excIn K t.rM L2.nQ "ValueError.__new__"= true
 eS:mg "BadPlace"= some (.ref t.rN)
 dI:excIn K t.rN L2.nQ "ValueError.__new__"= true
 Cs:mg "BadSize"= some (.ref t.uP)
 n_:excIn K t.uP L2.nQ "ValueError.__new__"= true
 FW:mg "HasKey"= some (.ref t.rO)
 rR:excIn K t.rO L2.nQ "ValueError.__new__"= true
 IP:mg "NoKey"= some (.ref t.mK)
 v7:excIn K t.mK L2.nQ "ValueError.__new__"= true
 Ar:mg "NoMoment"= some (.ref t.fN)
 lY:excIn K t.fN L2.nQ "ValueError.__new__"= true
 Mc:mg "Walk"= some (.ref t.aI)
 aC:qr K t.aI
 Md:Mk K t.aI (t.II 0)
 eP:findIn K (.ref t.aI) "shelf"= some none
 dq:findIn K (.ref t.aI) "order"= some none
 gO:findIn K (.ref t.aI) "sieve"= some none
 fu:findIn K (.ref t.aI) "size"= some none
 fw:findIn K (.ref t.aI) "fore"= some none
 dS:findIn K (.ref t.aI) "hinder"= some none
 IQ:mg "Shelf"= some (.ref t.ak)
 ai:qr K t.ak
 IS:Mk K t.ak (t.Cq 0)
 cX:findIn K (.ref t.ak) "columns"= some none
 cL:findIn K (.ref t.ak) "deeds"= some none
 bS:findIn K (.ref t.ak) "runs"= some none
 gA:t.ic.code=.ref t.gy
 dU:codeHdIn K t.gy t.aR=true
 mR:t.aR∈t.ts
 fj:t.fO.code=.ref t.fh
 dk:codeHdIn K t.fh t.aL=true
 kL:t.aL∈t.ts
 np:[t.aR,t.aL].Nodup
 ta:∀b∈t.ts,b=t.aR\/b=t.aL
 bl:∀(s:Shared)(u:Value),BindsTo s t.IH {[u],[]} [("_law_script",u)]
section
variable{w:World}{K:Frag}{mg:Str->Option Value}{t:eQ}(T:Txt w K mg t)
def Txt.jI:=T.fn 17<|by decide
def Txt.ij:=T.fn 18<|by decide
def Txt.oa:=T.fn 19<|by decide
def Txt.qB:=T.fn 20<|by decide
def Txt.lZ:=T.fn 21<|by decide
def Txt.v8:=T.fn 22<|by decide
def Txt.v9:=T.fn 23<|by decide
def Txt.jJ:=T.fn 24<|by decide
def Txt.compared:=T.fn 25<|by decide
def Txt.dJ:=T.fn 26<|by decide
def Txt.gQ:=T.fn 29<|by decide
def Txt.oh:=T.fn 30<|by decide
def Txt.mS:=T.fn 31<|by decide
def Txt.eJ:=T.fn 32<|by decide
def Txt.kx:=T.fn 33<|by decide
def Txt.l4:=T.fn 34<|by decide
def Txt.cz:=T.fn 35<|by decide
def Txt.v_:=T.fn 41<|by decide
def Txt.Ct:=T.fn 42<|by decide
def Txt.wb:=T.fn 43<|by decide
def Txt.eT:=T.fn 44<|by decide
def Txt.wc:=T.fn 45<|by decide
def Txt.jK:=T.fn 46<|by decide
def Txt.eK:=T.fn 47<|by decide
def Txt.oi:=T.fn 48<|by decide
def Txt.jL:=T.fn 49<|by decide
def Txt.e_:=T.fn 50<|by decide
def Txt.rS:=T.fn 51<|by decide
def Txt.eU:=T.fn 57<|by decide
def Txt.oj:=T.fn 58<|by decide
def Txt.dW:=T.fn 59<|by decide
def Txt.jM:=T.fn 60<|by decide
def Txt.gR:=T.fn 61<|by decide
def Txt.passes:=T.fn 62<|by decide
def Txt.iI:=T.fn 63<|by decide
def Txt.cg:=T.fn 65<|by decide
def Txt.iJ:=T.fn 66<|by decide
def Txt.rT:=T.fn 67<|by decide
def Txt.fR:=T.fn 69<|by decide
def Txt.l5:=T.fn 75<|by decide
def Txt.iK:=T.fn 76<|by decide
def Txt.kz:=T.fn 77<|by decide
def Txt.iL:=T.fn 78<|by decide
def Txt.fz:=T.fn 79<|by decide
def Txt.iM:=T.fn 80<|by decide
def Txt.iN:=T.fn 81<|by decide
def Txt.eV:=T.fn 82<|by decide
def Txt.cM:=T.fn 83<|by decide
def Txt.qC:=T.fn 84<|by decide
def Txt.jN:=T.fn 85<|by decide
def Txt.gB:=T.fn 93<|by decide
def Txt.fE:=T.fn 95<|by decide
def Txt.iO:=T.fn 96<|by decide
def Txt.qD:=T.fn 97<|by decide
def Txt.om:=T.fn 98<|by decide
def Txt.qE:=T.fn 99<|by decide
def Txt.Ed:=T.fn 100<|by decide
def Txt.rV:=T.fn 101<|by decide
def Txt.we:=T.fn 102<|by decide
def Txt.iP:=T.fn 103<|by decide
def Txt.wg:=T.fn 104<|by decide
def Txt.oo:=T.fn 105<|by decide
def Txt.wj:=T.fn 106<|by decide
def Txt.wk:=T.fn 107<|by decide
def Txt.Cu:=T.fn 108<|by decide
def Txt.IT:=T.fn 109<|by decide
def Txt.wm:=T.fn 110<|by decide
def Txt.gT:=T.fP 0<|by decide
def Txt.wq:=T.fP 1<|by decide
def Txt.oq:=T.fP 2<|by decide
def Txt.l6:=T.fP 3<|by decide
def Txt.ot:=T.fP 4<|by decide
def Txt.jO:=T.fP 9<|by decide
def Txt.fA:=T.fP 10<|by decide
def Txt.dX:=T.fP 11<|by decide
def Txt.dA:=T.fP 12<|by decide
def Txt.dD:=T.fP 13<|by decide
def Txt.cD:=T.fP 14<|by decide
def Txt.fS:=T.eO 0<|by decide
def Txt.fF:=T.eO 1<|by decide
def Txt.cY:=T.eO 2<|by decide
def Txt.eL:=T.eO 3<|by decide
def Txt.cq:=T.eO 4<|by decide
def Txt.bN:=T.eO 5<|by decide
def Txt.cu:=T.eO 6<|by decide
def Txt.az:=T.eO 7<|by decide
def Txt.fG:=T.eO 8<|by decide
def Txt.cw:=T.eO 13<|by decide
end
def As:=bE<|top 17
def wu:=bE<|top 18
def wx:=bE<|top 19
def Cv:=bE<|top 20
def FX:=bE<|top 21
def Cw:=bE<|top 22
def Cy:=bE<|top 23
def Au:=bE<|top 24
def ph:=bE<|top 25
def eE:=bE<|top 26
def ow:=bE<|top 29
def wz:=bE<|top 30
def Av:=bE<|top 31
def tV:=bE<|top 32
def wA:=bE<|top 33
def tW:=bE<|top 34
def Aw:=bE<|top 35
def FY:=bE<|top 41
def FZ:=bE<|top 42
def Cz:=bE<|top 43
def fT:=bE<|top 44
def CA:=bE<|top 45
def rW:=bE<|top 46
def kM:=bE<|top 47
def wB:=bE<|top 48
def pj:=bE<|top 49
def bG:=bE<|top 50
def pq:=bE<|top 51
def bH:=bE<|top 57
def wC:=bE<|top 58
def mT:=bE<|top 59
def jP:=bE<|top 60
def eM:=bE<|top 61
def uR:=bE<|top 62
def p8:=bE<|top 63
def mU:=bE<|top 65
def i8:=bE<|top 66
def gC:=bE<|top 67
def mV:=bE<|top 68
def cE:=bE<|top 69
def kN:=bE<|top 70
def CB:=bE<|top 73
def wD:=bE<|top 74
def k9:=bE<|top 75
def i9:=bE<|top 76
def wF:=bE<|top 77
def tX:=bE<|top 78
def p9:=bE<|top 79
def tY:=bE<|top 80
def tZ:=bE<|top 81
def rX:=bE<|top 82
def cj:=bE<|top 83
def rY:=bE<|top 84
def jQ:=bE<|top 85
def fU:=bE<|top 86
def jR:=bE<|top 93
def wG:=bE<|top 95
def cN:=bE<|top 96
def CC:=bE<|top 97
def cZ:=bE<|top 98
def rZ:=bE<|top 99
def Ax:=bE<|top 100
def Ay:=bE<|top 101
def eN:=bE<|top 102
def cO:=bE<|top 103
def ik:=bE<|top 104
def F9:=bE<|top 105
def F_:=bE<|top 106
def cP:=bE<|top 107
def Ga:=bE<|top 108
def bO:=bE<|top 109
def CD:=bE<|top 110
def bT:=bE<|top 111
def ox:=bE<|inClass eG 0
def CF:=bE<|inClass eG 1
def wH:=bE<|inClass eG 2
def t5:=bE<|inClass eG 3
def wI:=bE<|inClass eG 4
def r9:=bE<|inClass eG 9
def fb:=bE<|inClass eG 10
def dY:=bE<|inClass eG 11
def l7:=bE<|inClass eG 12
def l8:=bE<|inClass eG 13
def eW:=bE<|inClass eG 14
def mW:=bE<|inClass bx 0
def wJ:=bE<|inClass bx 1
def p_:=bE<|inClass bx 2
def t6:=bE<|inClass bx 3
def ji:=bE<|inClass bx 4
def ip:=bE<|inClass bx 5
def eF:=bE<|inClass bx 6
def jS:=bE<|inClass bx 7
def wK:=bE<|inClass bx 8
def fV:=bE<|inClass bx 9
def fc:=bE<|inClass bx 10
def jj:=bE<|inClass bx 13
theorem sm(h:n<=1000):n<=sizeLine:=yO<|kj h
theorem r_:0<=sizeLine:=sm<|by decide
theorem t9:1<=sizeLine:=sm<|by decide
theorem cQ:2<=sizeLine:=sm<|by decide
theorem oy:3<=sizeLine:=sm<|by decide
theorem t_:4<=sizeLine:=sm<|by decide
theorem Me:5<=sizeLine:=sm<|by decide
theorem VO:6<=sizeLine:=sm<|by decide
theorem Gb:8<=sizeLine:=sm<|by decide
theorem VP:12<=sizeLine:=sm<|by decide
def Gt(S:au)(d:D):Prop:=(∃k,Qf S d k)/\∀z,d=.str z->z.cps.size<=1000
noncomputable def isLet(c:Nat):Bool:=decide (97<=c)&&decide (c<=122)
noncomputable def Ee(c:Nat):Bool:=decide (48<=c)&&decide (c<=57)
noncomputable def Ef(c:Nat):Bool:=decide (32<=c)&&decide (c<=126)
noncomputable def k_(z:Str):Bool:=decide (1<=z.cps.size)&&decide (z.cps.size<=8)&&z.cps.toList.all isLet
noncomputable def kO(z:Str):Bool:=decide (1<=z.cps.size)&&decide (z.cps.size<=12)&&(z.cps.toList.head?.any isLet)&&z.cps.toList.all λc=>isLet c||Ee c
noncomputable def px(z:Str):Bool:=decide (z.cps.size<=40)&&z.cps.toList.all Ef
noncomputable def ofStr(f:Str->Bool):D->Bool|.str z=>f z|_=>false
noncomputable def sj:D->Bool|.int _=>true|_=>false
noncomputable def jk(kind:Str)(d:D):Bool:=ah d||if kind ="number" then sj d else ofStr px d
def Mf(f:D->Bool):kI:=λds S R _=>∃d,ds=[d]/\Gt S d/\R (.bl<|f d) S
def IU(f:Nat->Bool):kI:=λds S R _=>∃c,ds=[.str ⟨#[c]⟩]/\R (.bl<|f c) S
theorem pz:∀{xs ys:List D}{a b:D},Paired rel xs ys->rel a b->Paired rel (xs++[a]) (ys++[b])|_,_,_,_,.nil,r=>.cons r .nil|_,_,_,_,.cons q t,r=>.cons q<|pz t r
theorem take_snoc{α:Type}{l:List α}{i:Nat}{d:α}(h:l[i]?=some d):l.take (i+1)=l.take i++[d]:=by rw[List.take_add_one,h];rfl
theorem jT{I:s_}{S1:au}{g:y1}{te:TD}{σ:SD}{src:List<|Option Nat}{R:KD}(rel:D->D->Prop)(aM:I.ok S1)(hz:I.xs.length<=1000) (step:∀d,d∈I.xs->∀Q:KD,(∀v,rel d v->Q v S1)->g d (mF σ src) S1 λgq S3=>te gq S3 Q Zf) (fin:∀out,Paired rel I.xs out->∀p,S1 p=none->R (.ref p) (S1.set p<|.lst out)): y3 σ src g mG te R I S1:=by
 refine{λi out S=>S=S1/\Paired rel (I.xs.take i) out,{rfl,.nil},λi out S h=>by rw[h.1];exact aM,?_,?_};rintro i d out S hd ⟨rfl,hp⟩;have hlen:=yG hp;rw[yz]at hlen;refine{kj<|by lia,?_};have e:(λ(gq:SD)(S3:au)=>mG gq S3 (λb S4=>if b=true then te gq S4 (λv S5=>S5=S/\Paired rel (I.xs.take<|i+1) (out++[v])) Zf else S4=S/\Paired rel (I.xs.take<|i+1) out) Zf)=λgq S3=>te gq S3 (λv S5=>S5=S/\Paired rel (I.xs.take<|i+1) (out++[v])) Zf:=by funext gq S3;simp[mG]
 rw[e];exact step d (zo hd) _ λv hv=>{rfl,by rw[take_snoc hd];exact pz hp hv};rintro out S2 ⟨rfl,hp⟩;rw[yr]at hp;exact fin out hp
theorem so:∀{xs out:List D},Paired (λd v=>v=f d) xs out->out=xs.map f|_,_,.nil=>rfl|_,_,.cons r t=>by rw[r,so t];rfl
theorem comp_map(f:D->D)(aM:I.ok S1)(hz:I.xs.length<=1000) (step:∀d,d∈I.xs->∀Q:KD,Q (f d) S1->g d (mF σ src) S1 λgq S3=>te gq S3 Q Zf) (fin:∀p,S1 p=none->R (.ref p) (S1.set p<|.lst<|I.xs.map f)): y3 σ src g mG te R I S1:=jT (λd v=>v=f d) aM hz (λd hd Q h=>step d hd Q<|h _ rfl) λout hp p Ob=>by rw[so hp];exact fin p Ob
theorem kB{I:s_}{S1:au}{g:y1}{tc:my}{te:TD}{σ:SD}{src:List<|Option Nat}{R:KD}(keep:D->Bool)(f:D->D)(aM:I.ok S1)(hz:I.xs.length<=1000) (step:∀d,d∈I.xs->∀(Q:KD)(Q':au->Prop),(keep d=true->Q (f d) S1)->(keep d=false->Q' S1)->g d (mF σ src) S1 λgq S3=>tc gq S3 (λb S4=>if b=true then te gq S4 Q Zf else Q' S4) Zf) (fin:∀p,S1 p=none->R (.ref p) (S1.set p<|.lst<|(I.xs.filter keep).map f)): y3 σ src g tc te R I S1:=by refine{λi out S=>S=S1/\out=((I.xs.take i).filter keep).map f,⟨rfl,rfl⟩,λi out S h=>by rw[h.1];exact aM,?_,?_};rintro i d out S hd ⟨rfl,rfl⟩;have hlen:((I.xs.take i).filter keep).length<=(I.xs.take i).length:=List.length_filter_le _ _;rw[yz]at hlen;refine{by rw[zb];exact kj<|by lia,?_};refine step d (zo hd) _ (λS4=>S4=S/\_=_) (λhk=>{rfl,?_}) λhk=>{rfl,?_};rw[take_snoc hd,List.filter_append,zy,List.filter_cons,if_pos hk];rfl;rw[take_snoc hd,List.filter_append,List.filter_cons,if_neg<|by rw[hk];exact zd];simp;rintro out S2 ⟨rfl,rfl⟩;rw[yr];exact fin
variable{P:Program}{w:World}{K:Frag}{mg:Str->Option Value}{base:Heap}{t:eQ}
theorem jU(T:Txt w K mg t):Ok P w base T.jI 1 (Mf sj):=by
 refine T.jI.F.bL As ?_;obtain⟨d,e,⟨⟨k,hk⟩,hz⟩,q⟩;refine{_,(s1<|sr<|tP (cb c_ T.ax aq<|al 0<|ac (s9 T.Ec vB) an)<|J_<|Ux<|cb c_ T.ax aq<|al 0<|ac (s9 T.QW K_) an),?_};refine !{_,_,_,_,rfl,Lb,hk,_,rfl,?_};have:(BJ k=true/\((sj d=true/\vF k=false)\/(sj d=false/\vF k=true)))\/(BJ k=false/\sj d=false):=by cases d with|av=>(cases hk;exact .inr ⟨rfl,rfl⟩)|bl b=>(cases hk;exact .inl {rfl,.inr ⟨rfl,rfl⟩})|int b=>(cases hk;exact .inl {rfl,.inl ⟨rfl,rfl⟩})|str b=>(cases hk;exact .inr ⟨rfl,rfl⟩)|tup b=>(cases hk;exact .inr ⟨rfl,rfl⟩)|ref a=>(rcases hk with⟨rfl,_⟩|⟨rfl,_⟩<;>exact .inr ⟨rfl,rfl⟩)|_=>exact hk.elim
 rcases this with⟨h1,h2⟩|⟨h1,h2⟩;rw[h1];refine dh !{_,_,_,_,rfl,HD,hk,_,rfl,?_};rcases h2 with⟨h2,h3⟩|⟨h2,h3⟩<;>(rw[h3];rw[h2]at q;exact fo q);rw[h1];rw[h2]at q;exact bh<|fo q
theorem iQ(T:Txt w K mg t):Ok P w base T.ij 1 (IU isLet):=by refine T.ij.F.bL wu ?_;obtain⟨c,e,q⟩;refine{_,(s1<|sr<|cc jz jz hr.u ds (dv 0) ds),?_};refine !!⟨?_⟩;have e1:GK "a" ⟨#[c]⟩=decide (97<=c):=kl 97 c;have e2:GK ⟨#[c]⟩ "z"= decide (c<=122):=kl c 122;unfold isLet at q;refine cA (λh=>?_) λh=>?_;rw[e1.symm.trans h,yc,<-e2]at q;exact fo q;rw[e1.symm.trans h,zX]at q;exact fo q
theorem wL(T:Txt w K mg t):Ok P w base T.oa 1 (IU Ee):=by refine T.oa.F.bL wx ?_;obtain⟨c,e,q⟩;refine{_,(s1<|sr<|cc jz jz hr.u ds (dv 0) ds),?_};refine !!⟨?_⟩;have e1:GK "0" ⟨#[c]⟩=decide (48<=c):=kl 48 c;have e2:GK ⟨#[c]⟩ "9"= decide (c<=57):=kl c 57;unfold Ee at q;refine cA (λh=>?_) λh=>?_;rw[e1.symm.trans h,yc,<-e2]at q;exact fo q;rw[e1.symm.trans h,zX]at q;exact fo q
theorem Ge(h:d∈fJ z):∃c,c∈z.cps.toList/\d=.str ⟨#[c]⟩:=by unfold fJ at h;obtain⟨c,hc,e⟩:=zj.mp h;exact⟨c,hc,e.symm⟩
noncomputable def Eg(f:Nat->Bool):D->D|.str z=>.bl (z.cps.toList.head?.any f)|_=>.av
theorem Gf:(fJ z).map (Eg f)=(z.cps.toList.map f).map D.bl:=by unfold fJ;rw[zG,zG];rfl
theorem all_map{α:Type}{l:List α}{f:α->Bool} : (l.map f).all id=l.all f:=by rw[List.all_map];rfl
theorem oz{z:Str}{f:Nat->Bool}{g:y1}{te:TD}{σ:SD}{src:List<|Option Nat}{S:au}{R:KD}{Z:KX}{i:Nat}(hv:σ[i]?=some (some<|.str z))(hz:z.cps.size<=1000) (step:∀c,c∈z.cps.toList->∀Q:KD,Q (.bl<|f c) S->g (.str ⟨#[c]⟩) (mF σ src) S λgq S3=>te gq S3 Q Zf) (q:R (.bl<|z.cps.toList.all f) S): W6 UO (NJ (DR (NU<|Uu i) src g mG te) LD) σ S (λd S'=>Fo S'<|R d) Z:=by refine{_,hv,z,rfl,?_};refine My.comp_map (I:={fJ z,λ_=>True}) (Eg f) trivial (by show(fJ z).length<=1000;unfold fJ;rw[zb,yt];exact hz) (λd hd Q hQ=>?_) λp hp=>?_;obtain⟨c,hc,rfl⟩:=Ge hd;exact step c hc Q (by simpa [Eg]using hQ);refine{.ref p,z.cps.toList.map f,rfl,?_,S,.new hp,?_};show(S.set p<|.lst<|(fJ z).map<|Eg f) p=_;rw[aa,Gf];rw[all_map];exact q
theorem CG{S:au}{d:D}{k:Kd}(hk:Qf S d k):(∃z,d=.str z/\BK k=true)\/(BK k=false/\∀f,ofStr f d=false):=by cases d with|str b=>(cases hk;exact .inl ⟨b,rfl,rfl⟩)|av=>(cases hk;exact .inr {rfl,λ_=>rfl})|bl b=>(cases hk;exact .inr {rfl,λ_=>rfl})|int b=>(cases hk;exact .inr {rfl,λ_=>rfl})|tup b=>(cases hk;exact .inr {rfl,λ_=>rfl})|ref a=>(rcases hk with⟨rfl,_⟩|⟨rfl,_⟩<;>exact .inr {rfl,λ_=>rfl})|_=>exact hk.elim
theorem QY{S:au}{d:D}{k:Kd}(hk:Qf S d k):(∃ds,d=.tup ds/\q9 k=true)\/(q9 k=false/\∀ds,d≠.tup ds):=by cases d with|tup b=>(cases hk;exact .inl ⟨b,rfl,rfl⟩)|av=>(cases hk;exact .inr {rfl,λ_=>nofun})|bl b=>(cases hk;exact .inr {rfl,λ_=>nofun})|int b=>(cases hk;exact .inr {rfl,λ_=>nofun})|str b=>(cases hk;exact .inr {rfl,λ_=>nofun})|ref a=>(rcases hk with⟨rfl,_⟩|⟨rfl,_⟩<;>exact .inr {rfl,λ_=>nofun})|_=>exact hk.elim
theorem su(T:Txt w K mg t):Ok P w base T.qB 2 (Mf<|ofStr k_):=by
 refine T.qB.F.bL Cv ?_;obtain⟨d,e,⟨⟨k,hk⟩,hz⟩,q⟩;refine{_,(sc (si (twd<|twor (cI<|tv<|cb c_ T.ax aq<|al 0<|ac (s9 T.pb jx) an)<|tw1<|cI<|W5 jz jz hr.u di (cb bj T.bb aK<|al 0 an)<|dg (v:=.int 8) T.lV {_,rfl} λ_=>aP _) (s1<|sr db) s0)<|s1<|sr<|cb kZ T.k8 gJ<|ac (uH (N:=["sign"]) (src:=[none]) (lO (ae FP) ["thing"] rfl rfl<|by trivial) (Qv<|dv 0) (qx<|show(["sign"]:List Str).Nodup by trivial) (a_ rfl) ba (λ_ _ _ _ _=>rB) λ_ _ _ _ _=>(aV T.ij (iQ T) hr<|al 0 an)) an),?_};refine !{_,_,_,_,rfl,cW,hk,_,rfl,?_};rcases CG hk with⟨z,rfl,h0⟩|⟨h0,h1⟩;have hz:=hz z rfl;rw[h0];refine bh ?_;refine !!⟨{sm hz,?_}⟩;refine{_,rfl,?_};have e1:decide ((1:Int)<=(z.length:Nat))=decide (1<=z.cps.size):=by rw[yN];show(1:Int)<=((z.cps.size:Nat):Int)↔_;omega
 have e2:decide (((z.length:Nat):Int)<=8)=decide (z.cps.size<=8):=by rw[yN];show((z.cps.size:Nat):Int)<=8↔_;omega
 unfold ofStr k_ at q;dsimp only at q;refine cA (λh2=>?_) λh2=>?_;rw[e1.symm.trans h2,yc]at q;refine{_,rfl,?_};refine cA (λh3=>?_) λh3=>?_;rw[e2.symm.trans<|nt h3,zX]at q;exact fo q;rw[e2.symm.trans<|nf h3,yc]at q;exact oz rfl hz (λc hc Q hQ=>!⟨c,rfl,hQ⟩) q;rw[e1.symm.trans h2,zX,zX]at q;refine{_,rfl,?_};exact dh<|fo q;rw[h0];rw[h1]at q;exact dh<|dh<|fo q
def aA(c:Str×Str):D:=.tup [.str c.1,.str c.2]
def Gd(cs:List<|Str×Str):Prop:=cs.length<=8/\(cs.map Prod.fst).Nodup/\∀c∈cs,k_ c.1=true/\(c.2 ="number"\/c.2 ="word")
noncomputable def mX(cs:List<|Str×Str):D->Bool|.tup ws=>decide (ws.length=cs.length)&&(List.zipWith (λc v=>jk c.2 v) cs ws).all id|_=>false
noncomputable def oA(cs:List<|Str×Str)(k v:D):Bool:=ofStr kO k&&mX cs v
def Sw(S:au)(d:D):Prop:=Gt S d/\∀ws,d=.tup ws->ws.length<=1000/\∀v∈ws,Gt S v
theorem iq(T:Txt w K mg t):Ok P w base T.lZ 2 (Mf<|ofStr kO):=by
 refine T.lZ.F.bL FX ?_;obtain⟨d,e,⟨⟨k,hk⟩,hz⟩,q⟩;refine{_,(sc (si (twd<|twor (cI<|tv<|cb c_ T.ax aq<|al 0<|ac (s9 T.pb jx) an)<|tw1<|cI<|W5 jz jz hr.u di (cb bj T.bb aK<|al 0 an)<|dg (v:=.int 12) T.mP {_,rfl} λ_=>aP _) (s1<|sr db) s0)<|sc (si (cI<|tv<|aV T.ij (iQ T) hr<|ac (ix hr.u (dv 0) di) an) (s1<|sr db) s0)<|s1<|sr<|cb kZ T.k8 gJ<|ac (uH (N:=["sign"]) (src:=[none]) (lO (ae IE) ["thing"] rfl rfl<|by trivial) (Qv<|dv 0) (qx<|show(["sign"]:List Str).Nodup by trivial) (a_ rfl) ba (λ_ _ _ _ _=>rB) λ_ _ _ _ _=>(eor (aV T.ij (iQ T) hr<|al 0 an)<|J_<|aV T.oa (wL T) hr<|al 0 an)) an),?_};refine !{_,_,_,_,rfl,cW,hk,_,rfl,?_};rcases CG hk with⟨z,rfl,h0⟩|⟨h0,h1⟩;have hz:=hz z rfl;rw[h0];refine bh ?_;refine !!⟨{sm hz,?_}⟩;refine{_,rfl,?_};have e1:decide ((1:Int)<=(z.length:Nat))=decide (1<=z.cps.size):=by rw[yN];show(1:Int)<=((z.cps.size:Nat):Int)↔_;omega
 have e2:decide (((z.length:Nat):Int)<=12)=decide (z.cps.size<=12):=by rw[yN];show((z.cps.size:Nat):Int)<=12↔_;omega
 unfold ofStr kO at q;dsimp only at q;refine cA (λh2=>?_) λh2=>?_;have YZ:=e1.symm.trans h2;rw[YZ,yc]at q;refine{_,rfl,?_};refine cA (λh3=>?_) λh3=>?_;rw[e2.symm.trans<|nt h3,zX,zX]at q;exact fo q;rw[e2.symm.trans<|nf h3,yc]at q;obtain⟨c,r,ec⟩:=len_pos (z:=z)<|zt YZ;have eh:z.cps.toList.head?.any isLet=isLet c:=by rw[ec];rfl
 rw[eh]at q;refine !{c,sm hz,at0 ec,c,rfl,_,rfl,?_};refine cA (λh4=>?_) λh4=>?_;rw[nt h4,zX]at q;exact fo q;rw[nf h4,yc]at q;refine oz (f:=λc=>isLet c||Ee c) rfl hz (λc hc Q hQ=>?_) q;refine !{c,rfl,_,rfl,?_};refine cA (λh5=>?_) λh5=>?_;rw[h5,Bool.true_or]at hQ;exact hQ;rw[h5,yV]at hQ;exact{_,rfl,c,rfl,hQ};rw[e1.symm.trans h2,zX,zX,zX]at q;refine{_,rfl,?_};exact dh<|fo q;rw[h0];rw[h1]at q;exact dh<|dh<|fo q
theorem CH(T:Txt w K mg t):Ok P w base T.v8 2 (Mf<|ofStr px):=by
 refine T.v8.F.bL Cw ?_;obtain⟨d,e,⟨⟨k,hk⟩,hz⟩,q⟩;refine{_,(sc (si (twd<|twor (cI<|tv<|cb c_ T.ax aq<|al 0<|ac (s9 T.pb jx) an)<|tw1<|bu rn hr.u (cb bj T.bb aK<|al 0 an)<|dg (v:=.int 40) T.lW {_,rfl} λ_=>aP _) (s1<|sr db) s0)<|s1<|sr<|cb kZ T.k8 gJ<|ac (uH (N:=["sign"]) (src:=[none]) (lO (ae FQ) ["thing"] rfl rfl<|by trivial) (Qv<|dv 0) (qx<|show(["sign"]:List Str).Nodup by trivial) (a_ rfl) ba (λ_ _ _ _ _=>rB) λ_ _ _ _ _=>(cc jz jz hr.u ds (dv 0) ds)) an),?_};refine !{_,_,_,_,rfl,cW,hk,_,rfl,?_};rcases CG hk with⟨z,rfl,h0⟩|⟨h0,h1⟩;have hz:=hz z rfl;rw[h0];refine bh ?_;refine !!⟨{sm hz,?_}⟩;refine{_,rfl,?_};have e2:decide ((40:Int)<((z.length:Nat):Int))=!decide (z.cps.size<=40):=by rw[yE];simp only[decide_eq_true_iff,Bool.not_eq_true',yn];show(40:Int)<((z.cps.size:Nat):Int)↔_;omega
 unfold ofStr px at q;dsimp only at q;refine cA (λh3=>?_) λh3=>?_;rw[nt<|e2.symm.trans h3,zX]at q;exact fo q;rw[nf<|e2.symm.trans h3,yc]at q;refine oz (f:=Ef) rfl hz (λc hc Q hQ=>?_) q;refine !!⟨?_⟩;have e3:GK " " ⟨#[c]⟩=decide (32<=c):=kl 32 c;have e4:GK ⟨#[c]⟩ "~"= decide (c<=126):=kl c 126;unfold Ef at hQ;refine cA (λh=>?_) λh=>?_;rw[e3.symm.trans h,yc,<-e4]at hQ;exact hQ;rw[e3.symm.trans h,zX]at hQ;exact hQ;rw[h0];rw[h1]at q;exact dh<|dh<|fo q
inductive sv (ds:List D) (S:au) (R:KD) (Z:KX):Prop where
 |mk (kind d) (h0:ds=[.str kind,d]) (h1:Gt S d) (h2:R (.bl<|jk kind d) S)
theorem jV(T:Txt w K mg t):Ok P w base T.jJ 3 sv:=by refine T.jJ.F.bL Au ?_;obtain⟨kind,d,e,hd,q⟩;refine{_,(sc (si (bu iE hr.u (dv 1) dn) (s1<|sr db) s0)<|sc (si (bu bz hr.u (dv 0) ds) (s1<|sr<|aV T.jI (jU T) hr<|al 1 an) s0)<|s1<|sr<|aV T.v8 (CH T) hr<|al 1 an),?_};refine !!⟨?_⟩;unfold jk at q;refine cA (λh=>?_) λh=>?_;rw[h,Bool.true_or]at q;exact fo q;rw[h,yV]at q;refine !!⟨?_⟩;refine cA (λh=>?_) λh=>?_;rw[if_pos<|zt h]at q;exact !{d,rfl,hd,fo q};rw[if_neg<|yh h]at q;exact !{d,rfl,hd,fo q}
theorem gt_str(h:z.cps.size<=1000):Gt S (.str z):={{.str,rfl},λy e=>by cases e;exact h}
theorem oB(h:k_ z=true):z.cps.size<=1000:=by unfold k_ at h;simp only[zM,zY]at h;lia
theorem Gg(h:∀c v,f (.tup [aA c,v])=.bl (jk c.2 v)):(cC (cs.map aA) ws).map f=(List.zipWith (λc v=>jk c.2 v) cs ws).map D.bl:=by unfold cC;induction cs generalizing ws with|nil=>(cases ws<;>rfl)|cons c cs ih=>cases ws with|nil=>rfl|cons v ws=>show f (.tup [aA c,v])::(List.zipWith _ (cs.map aA) ws).map f=.bl (jk c.2 v)::_;rw[h,ih]
noncomputable def pairF:D->D|.tup [.tup [_,.str k],v]=>.bl (jk k v)|_=>.av
inductive uS (ds:List D) (S:au) (R:KD) (Z:KX):Prop where
 |mk (z) (h0:ds=[.str z]) (h1:(z ="number"\/z ="word")) (h2:R (.bl true) S)
theorem CI(T:Txt w K mg t):Ok P w base T.v9 1 uS:=by
 refine T.v9.F.bL Cy ?_;obtain⟨z,e,hz,q⟩;refine{_,(s1<|sr<|tP (cb c_ T.ax aq<|al 0<|ac (s9 T.pb jx) an)<|J_<|cm yY hr.u (dv 0)<|dg (v:=.ref t.vV) T.IK rfl T.IL),?_};refine !{_,_,_,_,rfl,cW,rfl,_,rfl,dh !{rfl,rfl,?_}};have e:BC (mC<|.str z) ([D.str "number",D.str "word"].map mC)=true:=by rcases hz with rfl|rfl<;>decide +kernel
 show Fo S (R<|.bl<|if false=true then _ else BC (mC<|.str z) ([D.str "number",D.str "word"].map mC));rw[if_neg zd,e];exact fo q
inductive pA (ds:List D) (S:au) (R:KD) (Z:KX):Prop where
 |mk (c) (h0:ds=[aA c]) (h1:k_ c.1=true) (h2:(c.2 ="number"\/c.2 ="word")) (h3:R (.bl true) S)
theorem wM(T:Txt w K mg t):Ok P w base T.oh 3 pA:=by refine T.oh.F.bL wz ?_;obtain⟨c,e,h1,h2,q⟩;refine{_,(sc (si (twd<|twor (cI<|tv<|cb c_ T.ax aq<|al 0<|ac (s9 T.bJ bp) an)<|tw1<|bu lP hr.u (cb bj T.bb aK<|al 0 an) di) (s1<|sr db) s0)<|s1<|sr<|tP (aV T.qB (su T) hr<|ac (ix hr.u (dv 0) di) an)<|J_<|aV T.v9 (CI T) hr<|ac (ix hr.u (dv 0) di) an),?_};refine !{_,_,_,_,rfl,aZ,rfl,_,rfl,?_};refine bh !!!⟨bh ?_⟩;refine !!!{gt_str<|oB h1,_,rfl,?_};show if k_ c.1=true then _ else _;rw[h1];exact dh !!!{h2,fo q}
inductive sx (ds:List D) (S:au) (R:KD) (Z:KX):Prop where
 |mk (cs:List<|Str×Str) (h0:ds=[.tup<|cs.map aA]) (h1:cs.length<=8) (h2:∀p,S p=none->R (.ref p) (S.set p<|.lst<|(cs.map Prod.fst).map D.str))
theorem pB(T:Txt w K mg t):Ok P w base T.mS 1 sx:=by
 refine T.mS.F.bL Av ?_;obtain⟨cs,e,hl,q⟩;refine{_,(s1<|sr<|uH (N:=["name","kind"]) (src:=[none,none]) (lO (ae Ck) ["columns"] rfl rfl<|by trivial) (NR<|dv 0) (ZL<|show(["name","kind"]:List Str).Nodup by trivial) (vA rfl rfl) vO (λ_ _ _ _ _=>rB) λ_ _ _ _ _=>(dv 0)),?_};refine !{_,.inl rfl,?_};refine comp_map (λd=>match d with|.tup (x::_)=>x|_=>.av) trivial (by show(cs.map aA).length<=1000;rw[zb];lia) (λd hd Q hQ=>?_) λp hp=>?_;obtain⟨c,hc,rfl⟩:=zj.mp hd;exact !{rfl,_,_,rfl,_,_,rfl,rfl,_,rfl,hQ};have e:(cs.map aA).map (λd=>match d with|.tup (x::_)=>x|_=>.av)=(cs.map Prod.fst).map D.str:=by rw[zG,zG];rfl
 show Fo (S.set p<|.lst<|(cs.map aA).map _) (R<|.ref p);rw[e];exact fo<|q p hp
inductive i_ (ds:List D) (S:au) (R:KD) (Z:KX):Prop where
 |mk (cs) (h0:ds=[.tup<|cs.map aA]) (h1:Gd cs) (h2:R .av S)
theorem oE(T:Txt w K mg t):Ok P w base T.gQ 4 i_:=by
 refine T.gQ.F.bL ow ?_;obtain⟨cs,e,⟨hl,hn,hg⟩,q⟩;refine{_,(sc (si (twd<|twor (cI<|tv<|cb c_ T.ax aq<|al 0<|ac (s9 T.bJ bp) an)<|tw1<|bu rn hr.u (cb bj T.bb aK<|al 0 an)<|dg (v:=.int 8) T.p7 {_,rfl} λ_=>aP _) (s1<|rA ⟨T.dR⟩ T.gN<|ac ds an) s0)<|sc (si (cI<|tv<|cb kZ T.k8 gJ<|ac (uH (N:=["column"]) (src:=[none]) (lO (ae p6) ["columns"] rfl rfl<|by trivial) (NR<|dv 0) (qx<|show(["column"]:List Str).Nodup by trivial) (a_ rfl) ba (λ_ _ _ _ _=>rB) λ_ _ _ _ _=>(aV T.oh (wM T) hr<|al 0 an)) an) (s1<|rA ⟨T.dR⟩ T.gN<|ac ds an) s0)<|s1<|si (bu lP hr.u (lse (aV T.mS (pB T) hr<|al 0 an) T.bb T.N_)<|cb bj T.bb aK<|al 0 an) (s1<|rA ⟨T.dR⟩ T.gN<|ac ds an) s0),?_};refine !{_,_,_,_,rfl,aZ,rfl,_,rfl,?_};have e1:decide ((8:Int)<((cs.map aA).length:Nat))=false:=zB (by rw[zb];lia);refine bh !!!⟨?_⟩;show if decide ((8:Int)<((cs.map aA).length:Nat))=true then _ else _;rw[e1];refine bh ?_;refine !{_,.inl rfl,?_};refine comp_map (λ_=>.bl true) trivial (by show(cs.map aA).length<=1000;rw[zb];lia) (λd hd Q hQ=>?_) λp hp=>?_;obtain⟨c,hc,rfl⟩:=zj.mp hd;exact !{c,rfl,(hg c hc).1,(hg c hc).2,hQ};have e2:(cs.map aA).map (λ_=>D.bl true)=(cs.map λ_=>true).map D.bl:=by rw[zG,zG];rfl
 have e3:(cs.map λ_=>true).all id=true:=by rw[all_map];exact yg.mpr λ_ _=>rfl
 refine{.ref p,cs.map λ_=>true,rfl,?_,_,rfl,?_};show(S.set p<|.lst<|(cs.map aA).map _) p=_;rw[aa,e2];rw[e3];refine bh ?_;refine !{cs,rfl,hl,λp2 jf=>?_};refine{cs.map Prod.fst,aa,by rw[zb];lia,_,rfl,_,rfl,_,rfl,?_};have e4:decide ((((i4<|cs.map Prod.fst).length:Nat):Int)=(((cs.map aA).length:Nat):Int))=true:=zC (by rw[(uD _).mpr hn,zb,zb]);show if (if true=true then !decide ((((i4<|cs.map Prod.fst).length:Nat):Int)=(((cs.map aA).length:Nat):Int)) else _)=true then _ else _;rw[if_pos rfl,e4];exact bh {S,(Sub.new hp).trans<|.new jf,q}
inductive mY (ds:List D) (S:au) (R:KD) (Z:KX):Prop where
 |mk (cs d) (h0:ds=[.tup<|cs.map aA,d]) (h1:cs.length<=8) (h2:Sw S d) (h3:R (.bl<|mX cs d) S)
theorem ua(T:Txt w K mg t):Ok P w base T.l4 4 mY:=by
 refine T.l4.F.bL tW ?_;obtain⟨cs,d,e,hl,⟨⟨⟨k,hk⟩,hz⟩,hw⟩,q⟩;refine{_,(sc (si (twd<|twor (cI<|tv<|cb c_ T.ax aq<|al 1<|ac (s9 T.bJ bp) an)<|tw1<|bu lP hr.u (cb bj T.bb aK<|al 1 an)<|cb bj T.bb aK<|al 0 an) (s1<|sr db) s0)<|s1<|sr<|cb kZ T.k8 gJ<|ac (uH (N:=["column","value"]) (src:=[none,none]) (lO (ae vU) ["columns","thing"] rfl rfl<|by trivial) (izn T.IM<|al 0<|al 1 an) (ZL<|show(["column","value"]:List Str).Nodup by trivial) (vA rfl rfl) vO (λ_ _ _ _ _=>rB) λ_ _ _ _ _=>(aV T.jJ (jV T) hr<|ac (ix hr.u (dv 0) di)<|al 1 an)) an),?_};refine !{_,_,_,_,rfl,aZ,hk,_,rfl,?_};rcases QY hk with⟨ws,rfl,h0⟩|⟨h0,h1⟩;obtain⟨hw1,UY⟩:=hw ws rfl;rw[h0];refine bh !!!!!⟨?_⟩;have e1:decide (((ws.length:Nat):Int)=(((cs.map aA).length:Nat):Int))=decide (ws.length=cs.length):=by rw[yN,zb];lia
 unfold mX at q;dsimp only at q;show if (if true=true then !decide (((ws.length:Nat):Int)=(((cs.map aA).length:Nat):Int)) else _)=true then _ else _;rw[if_pos rfl,e1];refine cA (λh=>?_) λh=>?_;rw[nt h,zX]at q;exact fo q;have h:=nf h;rw[h,yc]at q;have h:=zt h;refine !!{cs.map aA,ws,rfl,by rw[zb];exact h.symm,?_};refine comp_map pairF trivial (by show(cC (cs.map aA) ws).length<=1000;unfold cC;rw[List.length_zipWith,zb];lia) (λd hd Q hQ=>?_) λp hp=>?_;unfold cC at hd;obtain⟨i,ei⟩:=zZ hd;obtain⟨x,y,e2,e3,e4⟩:=List.getElem?_zipWith_eq_some.mp ei;subst e4;rw[zf]at e2;cases e5:cs[i]? with|none=>(rw[e5]at e2;cases e2)|some c=>rw[e5]at e2;cases e2;exact !{rfl,_,_,rfl,_,_,rfl,rfl,_,rfl,_,rfl,_,rfl,c.2,y,rfl,UY y<|zo e3,hQ}
 refine{.ref p,List.zipWith (λc v=>jk c.2 v) cs ws,rfl,?_,S,.new hp,q};show(S.set p<|.lst<|(cC (cs.map aA) ws).map pairF) p=_;rw[aa,Gg λ_ _=>rfl];rw[h0];have e:mX cs d=false:=by cases d with|tup ws=>exact absurd rfl (h1 ws)|_=>rfl
 rw[e]at q;exact dh<|dh<|fo q
inductive pC (t:eQ) (ds:List D) (S:au) (R:KD) (Z:KX):Prop where
 |mk (cs k v) (h0:ds=[.tup<|cs.map aA,.tup [k,v]]) (h1:cs.length<=8) (h2:Gt S k) (h3:Sw S v) (h4:(oA cs k v=true->R .av S)) (h5:(oA cs k v=false->Z t.ib S))
theorem mZ(T:Txt w K mg t):Ok P w base T.kx 5 (pC t):=by refine T.kx.F.bL wA ?_;obtain⟨cs,k,v,e,hl,hk,hv,q1,q2⟩;refine{_,(sc (si (twd<|twor (cI<|tv<|cb c_ T.ax aq<|al 1<|ac (s9 T.bJ bp) an)<|tw1<|bu lP hr.u (cb bj T.bb aK<|al 1 an) di) (s1<|rA ⟨T.ig⟩ T.ku<|ac ds an) s0)<|sc (si (cI<|tv<|aV T.lZ (iq T) hr<|ac (ix hr.u (dv 1) di) an) (s1<|rA ⟨T.ig⟩ T.ku<|ac ds an) s0)<|s1<|si (cI<|tv<|aV T.l4 (ua T) hr<|al 0<|ac (ix hr.u (dv 1) di) an) (s1<|rA ⟨T.ig⟩ T.ku<|ac ds an) s0),?_};refine !{_,_,_,_,rfl,aZ,rfl,_,rfl,?_};refine bh !!!⟨bh ?_⟩;refine !!{k,rfl,hk,_,rfl,?_};unfold oA at q1 q2;refine cA (λh=>?_) λh=>?_;rw[nt h,zX]at q2;exact{sm<|by decide,fo<|q2 rfl};rw[nf h,yc]at q1 q2;refine !!!{cs,v,rfl,hl,hv,_,rfl,?_};refine cA (λh=>?_) λh=>?_;exact{sm<|by decide,fo<|q2<|nt h};exact fo<|q1<|nf h
theorem bg(h:n<=100000):n<sizeLine:=by rw[yd];lia
structure Std where
 b:Nat
 e:Option Nat
 ws:List D
def eD:Option Nat->D|none=>.av|some n=>.int (n:Nat)
def jW(s:Std):D:=.tup [.int (s.b:Nat),eD s.e,.tup s.ws]
noncomputable def IV:List Std->Int->D|[],_=>.av|s::r,m=>if (s.b:Int)<=m then (match s.e with|none=>.tup s.ws|some n=>if m<=(n:Int) then .tup s.ws else .av) else IV r m
noncomputable def wt(l:List Std)(m:Int):D:=IV l.reverse m
abbrev Ra:=List<|Str×Addr×List Std
abbrev mi:=List<|Str×List Std
def ir(ra:Ra):mi:=ra.map λr=>(r.1,r.2.2)
def dZ(ra:Ra):List (Key×D):=ra.map λr=>(Sum.inr r.1,D.ref r.2.1)
noncomputable def lu(rs:mi)(k:Str):Option (List Std):=(rs.find? λr=>decide<|r.1=k).map (·.2)
noncomputable def tm(ra:Ra)(k:Str):Option (Addr×List Std):=(ra.find? λr=>decide<|r.1=k).map (·.2)
noncomputable def tq(ra:Ra)(k:Str)(s:List Std):Ra:=ra.map λr=>if r.1=k then (r.1,r.2.1,s) else r
noncomputable def CJ(rs:mi)(k:Str)(s:List Std):mi:=if (lu rs k).isSome then rs.map λr=>if r.1=k then (r.1,s) else r else rs++[(k,s)]
theorem gU(ra:Ra)(k:Str):lu (ir ra) k=(tm ra k).map (·.2):=by unfold lu tm ir;induction ra with|nil=>rfl|cons r ra ih=>rw[zu,ya,ya];by_cases h:r.1=k;rw[zC h];rfl;rw[zB h];exact ih
theorem iu(ra:Ra)(k:Str):bZ (dZ ra) (.inr k)=(tm ra k).map λp=>D.ref p.1:=by unfold bZ tm dZ;induction ra with|nil=>rfl|cons r ra ih=>rw[zu,ya,ya];by_cases h:r.1=k;rw[zC h];have:decide ((Sum.inr r.1:Key)=.inr k)=true:=zC (by rw[h]);dsimp only;rw[this];rfl;rw[zB h];have:decide ((Sum.inr r.1:Key)=.inr k)=false:=zB λe=>h<|yK e;dsimp only;rw[this];exact ih
theorem dE(h:tm ra k=some (l,s)):(k,l,s)∈ra:=by unfold tm at h;cases q:ra.find? λr=>decide (r.1=k) with|none=>(rw[q]at h;cases h)|some r=>rw[q]at h;have h1:=List.find?_some q;have h2:=List.mem_of_find?_eq_some q;obtain⟨k',l',s'⟩:=r;have e:k'=k:=zt h1;cases h;rw[<-e];exact h2
theorem m6(h:tm ra k=none):∀r∈ra,r.1≠k:=by unfold tm at h;intro r hr e;have:=List.find?_eq_none.mp (Option.map_eq_none_iff.mp h) r hr;simp[e]at this
theorem gD:∀{l:List α}{x y:α},(l.map f).Nodup->x∈l->y∈l->f x=f y->x=y|z::l,x,y,nd,hx,hy,e=>by rw[zu]at nd;obtain⟨n1,n2⟩:=yp.mp nd;rcases zi.mp hx with ex|HH;rcases zi.mp hy with ey|TQ;rw[ex,ey];exact absurd (zj.mpr {y,TQ,by rw[<-e,ex]}) n1;rcases zi.mp hy with ey|TQ;exact absurd (zj.mpr {x,HH,by rw[e,ey]}) n1;exact gD n2 HH TQ e
structure CK(C:Addr)(S:au)(a ld lr:Addr)(cs:List (Str×Str))(dl:List D)(ra:Ra):Prop where
 ins:S a=some (.ins C [("columns",.tup<|cs.map aA),("deeds",.ref ld),("runs",.ref lr)])
 xB:S ld=some (.lst dl)
 run:S lr=some (.cB<|dZ ra)
 cell:∀r∈ra,S r.2.1=some (.lst<|r.2.2.map jW)
 kn:(ra.map (·.1)).Nodup
 an:(ld::ra.map (·.2.1)).Nodup
 sz:∀r∈ra,r.2.2.length<=dl.length
def fp(a ld lr:Addr)(ra:Ra):List Addr:=a::ld::lr::ra.map (·.2.1)
def bI(C:Addr)(S:au)(a:Addr)(F:List Addr)(cs:List<|Str×Str)(dl:List D)(rs:mi):Prop:=∃ld lr ra,CK C S a ld lr cs dl ra/\F=fp a ld lr ra/\rs=ir ra
def Be(F F':List Addr)(S S':au):Prop:=∀b c,b∉F->S b=some c->b∉F'/\S' b=some c
theorem Be.trans(a:Be F F1 S S1)(b:Be F1 F2 S1 S2):Be F F2 S S2:=λp c h e=>by obtain⟨h1,e1⟩:=a p c h e;exact b p c h1 e1
section
variable{C a ld lr:Addr}{S:au}{cs:List (Str×Str)}{dl:List D}{ra:Ra}
theorem CK.CL(h:CK C S a ld lr cs dl ra){l:Addr}{ds:List D}(e:S l=some (.lst ds)):l≠a/\l≠lr:=by constructor;rintro rfl;rw[h.ins]at e;cases e;rintro rfl;rw[h.run]at e;cases e
theorem CK.put(h:CK C S a ld lr cs dl ra)(hk:tm ra k=some (l,s))(hs:s'.length<=dl.length):CK C (S.set l<|.lst<|s'.map jW) a ld lr cs dl (tq ra k s'):=by
 have hm:=dE hk;have hl:=h.cell _ hm;obtain⟨n1,n2⟩:=h.CL hl;obtain⟨nd1,nd2⟩:=yp.mp h.an;have n3:l≠ld:=λe=>nd1 (by rw[<-e];exact zj.mpr {_,hm,rfl});have e1:(tq ra k s').map (·.1)=ra.map (·.1):=by unfold tq;rw[zG];exact zW λr _=>by dsimp only[Function.comp];split<;>rfl
 have e2:(tq ra k s').map (·.2.1)=ra.map (·.2.1):=by unfold tq;rw[zG];exact zW λr _=>by dsimp only[Function.comp];split<;>rfl
 have e3:dZ (tq ra k s')=dZ ra:=by unfold dZ tq;rw[zG];exact zW λr _=>by dsimp only[Function.comp];split<;>rfl
 refine{by rw[ag n1.symm];exact h.ins,by rw[ag n3.symm];exact h.xB,by rw[ag n2.symm,e3];exact h.run,λr hr=>?_,by rw[e1];exact h.kn,by rw[e2];exact h.an,λr hr=>?_};unfold tq at hr;obtain⟨r0,xC,e⟩:=zj.mp hr;by_cases q:r0.1=k;rw[if_pos q]at e;have er:r0=(k,l,s):=gD h.kn xC hm q;subst er e;rw[aa];rw[if_neg q]at e;subst e;have:r0.2.1≠l:=λe=>q (by have:=gD nd2 xC hm e;rw[this]);rw[ag this];exact h.cell _ xC;unfold tq at hr;obtain⟨r0,xC,e⟩:=zj.mp hr;by_cases q:r0.1=k;rw[if_pos q]at e;subst e;exact hs;rw[if_neg q]at e;subst e;exact h.sz _ xC
theorem CK.add(h:CK C S a ld lr cs dl ra)(hk:tm ra k=none)(hl:S l=none)(hs:s.length<=dl.length)(e1:S' l=some (.lst<|s.map jW))(e2:S' lr=some (.cB<|dZ<|ra++[(k,l,s)]))(e3:∀b,b≠l->b≠lr->S' b=S b):CK C S' a ld lr cs dl (ra++[(k,l,s)]):=by
 have n1:a≠l:=gZ h.ins hl;have n2:ld≠l:=gZ h.xB hl;have n3:a≠lr:=by rintro rfl;have:=h.run;rw[h.ins]at this;cases this
 have n4:ld≠lr:=by rintro rfl;have:=h.run;rw[h.xB]at this;cases this
 refine{by rw[e3 _ n1 n3];exact h.ins,by rw[e3 _ n2 n4];exact h.xB,e2,λr hr=>?_,?_,?_,λr hr=>?_};rcases zL.mp hr with hr|hr;have hc:=h.cell r hr;rw[e3 _ (gZ hc hl) (h.CL hc).2];exact hc;rw[zA.mp hr];exact e1;rw[zy];exact mr h.kn λm=>by obtain⟨r,hr,e⟩:=zj.mp m;exact m6 hk r hr e
 rw[zy,<-List.cons_append];refine mr h.an λm=>?_;rcases zi.mp m with e|m;exact n2 e.symm;obtain⟨r,hr,e⟩:=zj.mp m;exact gZ (h.cell r hr) hl e;rcases zL.mp hr with hr|hr;exact h.sz r hr;rw[zA.mp hr];exact hs
theorem CK.Mg(h:CK C S a ld lr cs dl ra)(d:D):CK C (S.set ld<|.lst<|dl++[d]) a ld lr cs (dl++[d]) ra:=by obtain⟨n1,n2⟩:=h.CL h.xB;obtain⟨nd1,nd2⟩:=yp.mp h.an;refine{by rw[ag n1.symm];exact h.ins,aa,by rw[ag n2.symm];exact h.run,λr hr=>?_,h.kn,h.an,λr hr=>by rw[zx];exact zO (h.sz r hr)<|Nat.le_add_right _ _};rw[ag λe=>nd1<|by rw[<-e];exact zj.mpr ⟨r,hr,rfl⟩];exact h.cell r hr
end
def VQ(C:Addr):kI:=λds S R _=>∃a F cs dl rs,ds=[.ref a]/\bI C S a F cs dl rs/\R (.int (dl.length:Nat)) S
theorem wN(T:Txt w K mg t):oZ P w mg base T.fG 1 (VQ t.ak):=by refine T.fG.F.bL wK ?_;obtain⟨a,F,cs,dl,rs,e,⟨ld,lr,ra,h,_⟩,q⟩;refine{_,(s1<|sr<|cb bj T.bb aK<|ac (fl T.ai T.cL<|dv 0) an),?_};exact !{a,_,_,rfl,h.ins,rfl,_,rfl,.inl {dl,h.xB,fo q}}
inductive fk (t:eQ) (ds:List D) (S:au) (R:KD) (Z:KX):Prop where
 |mk (a F cs dl rs) (h0:ds=[.ref a]) (h1:bI t.ak S a F cs dl rs) (h2:R (.tup<|cs.map aA) S)
theorem aN(T:Txt w K mg t):oZ P w mg base T.az 1 (fk t):=by refine T.az.F.bL jS ?_;obtain⟨a,F,cs,dl,rs,e,⟨ld,lr,ra,h,_⟩,q⟩;refine{_,(s1<|sr<|fl T.ai T.cX<|dv 0),?_};exact !{a,_,_,rfl,h.ins,rfl,fo q}
noncomputable def ub(n:Nat):D->Option Int|.av=>some n|.int i=>(if 0<=i/\i<=(n:Int) then some i else none)|_=>none
def Mh(C N:Addr):kI:=λds S R Z=>∃a F cs dl rs m,ds=[.ref a,m]/\bI C S a F cs dl rs/\Gt S m/\(∀i,ub dl.length m=some i->R (.int i) S)/\(ub dl.length m=none->Z N S)
theorem ja(T:Txt w K mg t):oZ P w mg base T.cw 2 (Mh t.ak t.fN):=by
 refine T.cw.F.bL jj ?_;obtain⟨a,F,cs,dl,rs,m,e,hS,hm,q1,q2⟩;obtain⟨ld,lr,ra,h,hF,tj⟩:=id hS;refine{_,(sc (si (bu iE hr.u (dv 1) dn) (s1<|sr<|gu (dv 0) T.ai T.fG (wN T) hr) s0)<|sc (si (twd<|twor (cI<|tv<|aV T.jI (jU T) hr<|al 1 an)<|tw1<|cI<|W5 jz jz hr.u di (dv 1)<|gu (dv 0) T.ai T.fG (wN T) hr) (s1<|rA ⟨T.lY⟩ T.Ar<|ac ds an) s0)<|s1<|sr<|dv 1),?_};refine !!⟨?_⟩;refine cA (λh1=>?_) λh1=>?_;have e:m=.av:=by cases m<;>first|rfl|cases h1
 subst e;exact !{a,_,rfl,h.ins,rfl,a,F,cs,dl,rs,rfl,hS,fo<|q1 _ rfl};refine !{m,rfl,hm,_,rfl,?_};refine cA (λh2=>?_) λh2=>?_;have h2:=nt h2;have e:ub dl.length m=none:=by cases m with|av=>(cases h1)|int i=>(cases h2)|_=>rfl
 exact dh {sm<|by decide,fo<|q2 e};have h2:=nf h2;obtain⟨i,rfl⟩:∃i,m=.int i:=by cases m<;>first|exact{_,rfl}|cases h2
 refine !!⟨?_⟩;refine cA (λh3=>?_) λh3=>?_;have h3:0<=i:=zt h3;refine !{a,_,rfl,h.ins,rfl,a,F,cs,dl,rs,rfl,hS,_,rfl,?_};refine cA (λh4=>?_) λh4=>?_;have h4:¬i<=((dl.length:Nat):Int):=yh<|nt h4;exact{sm<|by decide,fo<|q2<|if_neg λz=>h4 z.2};have h4:i<=((dl.length:Nat):Int):=zt<|nf h4;exact{_,rfl,fo<|q1 i<|if_pos ⟨h3,h4⟩};have h3:¬0<=i:=yh h3;exact{_,rfl,dh {sm<|by decide,fo<|q2<|if_neg λz=>h3 z.1}}
inductive lg (ds:List D) (S:au) (R:KD) (Z:KX):Prop where
 |mk (l uT m) (h0:ds=[.ref l,.int m]) (h1:S l=some (.lst<|uT.map jW)) (h2:R (wt uT m) S)
theorem jX(T:Txt w K mg t):Ok P w base T.gB 1 lg:=by
 refine T.gB.F.bL jR ?_;obtain⟨l,uT,m,e,hl,q⟩;refine{_,(sc (xy<|GQ (irv T.rQ<|al 0 an) (gn (i:=2) jR.nd)<|s1<|si (bu jz hr.u (ix hr.u (dv 2) di)<|dv 1) (s1<|sr<|LF (twd<|twor (bu iE hr.u (ix hr.u (dv 2) di) dn)<|tw1<|bu jz hr.u (dv 1)<|ix hr.u (dv 2) di) (ix hr.u (dv 2) di) dn) s0)<|s1<|sr dn),?_};refine{λaG S'=>S'=S/\wt uT m=.av,?_,?_};refine !{_,_,rfl,hl,?_};refine{λi aG S'=>(∃o,aG=[some<|.ref l,some<|.int m,o])/\S'=S/\wt uT m=IV (uT.reverse.drop i) m,{⟨none,rfl⟩,rfl,by rw[List.drop_zero];rfl},λi aG S' h=>by rw[h.2.1];exact hl,?_,?_};rintro i d aG S' hd ⟨⟨o,rfl⟩,rfl,hw⟩;rw[<-List.map_reverse,zf]at hd;cases e1:uT.reverse[i]? with|none=>(rw[e1]at hd;cases hd)|some sd=>rw[e1]at hd;cases hd;have e2:uT.reverse.drop i=sd::uT.reverse.drop (i+1):=(by obtain⟨hi,e⟩:=ze.mp e1;rw[List.drop_eq_getElem_cons hi,e]);obtain⟨sb,se,sw⟩:=sd;rw[e2]at hw;refine !!!!⟨?_⟩;unfold IV at hw;refine cA (λh=>?_) λh=>?_;rw[if_pos<|zt h]at hw;refine !!!⟨?_⟩;(cases se with|none=>refine dh<|dh !!⟨?_⟩;rw[hw]at q;exact fo q|some n=>refine bh !!!!⟨?_⟩;dsimp only at hw;refine cA (λh=>?_) λh=>?_;rw[if_pos<|zt h]at hw;rw[hw]at q;exact !!⟨fo q⟩;rw[if_neg<|yh h]at hw;rw[hw]at q;exact fo q);rw[if_neg<|yh h]at hw;exact{{_,rfl},rfl,hw}
 rintro aG S' ⟨_,rfl,hw⟩;refine fo {rfl,?_};rw[hw,yC,zb,List.drop_eq_nil_of_le<|by rw[yC];exact zp _];rfl;rintro aG S' ⟨rfl,hw⟩;rw[hw]at q;exact fo q
noncomputable def Bf(rs:mi)(k:D)(i:Int):D:=match k with|.str z=>(if kO z=true then wt ((lu rs z).getD []) i else .av)|_=>.av
def VR(C N:Addr):kI:=λds S R Z=>∃a F cs dl rs k m,ds=[.ref a,k,m]/\bI C S a F cs dl rs/\Gt S k/\Gt S m/\(∀i,ub dl.length m=some i->R (Bf rs k i) S)/\(ub dl.length m=none->Z N S)
theorem m7(T:Txt w K mg t):oZ P w mg base T.dy 3 (VR t.ak t.fN):=by
 refine T.dy.F.bL fV ?_;obtain⟨a,F,cs,dl,rs,k,m,e,hS,hk,hm,q1,q2⟩;obtain⟨ld,lr,ra,h,hF,tj⟩:=id hS;refine{_,(sc (b_ (i:=3) fV.nd<|o9 (dv 0) T.ai T.cw (ja T) hr<|al 2 an)<|sc (si (cI<|tv<|aV T.lZ (iq T) hr<|al 1 an) (s1<|sr dn) s0)<|s1<|sr<|aV T.gB (jX T) hr<|ac (mg2 hr.u (fl T.ai T.bS<|dv 0) (dv 1)<|cy an)<|al 3 an),?_};refine !{a,_,rfl,h.ins,rfl,_,rfl,a,F,cs,dl,rs,m,rfl,hS,hm,λi hi=>?_,λhn=>fo<|q2 hn};have q:=q1 i hi;refine !{k,rfl,hk,_,rfl,?_};refine cA (λh1=>?_) λh1=>?_;have e:Bf rs k i=.av:=by cases k with|str z=>exact if_neg (by rw[show kO z=false from nt h1];exact zd)|_=>rfl
 rw[e]at q;exact fo q;have h1:=nf h1;obtain⟨z,rfl⟩:∃z,k=.str z:=by cases k with|str z=>exact⟨z,rfl⟩|_=>cases h1
 have e:Bf rs (.str z) i=wt ((lu rs z).getD []) i:=if_pos h1;rw[e]at q;refine !{a,_,_,rfl,h.ins,rfl,lr,_,rfl,h.run,_,rfl,sm<|by decide,λp hp=>{dZ ra,.inr z,?_,rfl,?_}};rw[ag<|gZ h.run hp];exact h.run;rw[iu];refine{_,rfl,?_};cases e1:tm ra z with|none=>have e2:lu rs z=none:=(by rw[tj,gU,e1];rfl);rw[e2]at q;exact{p,[],i,rfl,aa,S,.new hp,q}|some ls=>obtain⟨l,uT⟩:=ls;have e2:lu rs z=some uT:=(by rw[tj,gU,e1];rfl);rw[e2]at q;have hc:=h.cell _<|dE e1;exact{l,uT,i,rfl,by rw[ag<|gZ hc hp];exact hc,S,.new hp,q}
theorem Oc(h:tm ra k=some (l,s)):CJ (ir ra) k s'=ir (tq ra k s'):=by unfold CJ;rw[gU,h,if_pos<|show(Option.map (λx:Addr×List Std=>x.2)<|some (l,s)).isSome=true from rfl];unfold ir tq;rw[zG,zG];exact zW λr _=>by dsimp only[Function.comp];split<;>rfl
theorem QZ(h:tm ra k=none):CJ (ir ra) k s=ir (ra++[(k,l,s)]):=by unfold CJ;rw[gU,h,if_neg<|show ¬(Option.map (λx:Addr×List Std=>x.2) none).isSome=true from zd];unfold ir;rw[zy];rfl
theorem Q0(h:tm ra k=none):dput (dZ ra) (.inr k) (.ref l)=dZ (ra++[(k,l,s)]):=by
 unfold dput;have e:((dZ ra).any λkv=>decide<|kv.1=.inr k)=false:=by rw[List.any_eq_false];intro x hx;unfold dZ at hx;obtain⟨r,hr,rfl⟩:=zj.mp hx;simp only[zY];exact λe=>m6 h r hr<|yK e
 rw[e,if_neg zd];unfold dZ;rw[zy];rfl
theorem IW:fp a ld lr (tq ra k s)=fp a ld lr ra:=by unfold fp tq;rw[zG];congr 3;exact zW λr _=>by dsimp only[Function.comp];split<;>rfl
theorem sy(h:l∈F):Be F F S (S.set l c):=λb x hb e=>{hb,by rw[ag<|show b≠l from λz=>hb<|by rw[z];exact h];exact e}
theorem IX(h:r∈ra):r.2.1∈fp a ld lr ra:=zh _<|zh _<|zh _<|zj.mpr ⟨r,h,rfl⟩
def Mi(C:Addr):kI:=λds S R _=>∃a F cs dl rs z ws,ds=[.ref a,.str z,.tup ws]/\bI C S a F cs dl rs/\((lu rs z).getD []).length<dl.length/\dl.length<=9000/\rs.length<=9000/\∀S' F',bI C S' a F' cs dl (CJ rs z<|(lu rs z).getD []++[Std.mk dl.length none ws])->Be F F' S S'->R .av S'
theorem Az(T:Txt w K mg t):oZ P w mg base T.bN 2 (Mi t.ak):=by
 refine T.bN.F.bL ip ?_;rintro _ _ _ _ _ _ _ S R Z hr ⟨a,F,cs,dl,rs,z,ws,e,⟨ld,lr,ra,h,hF,tj⟩,hl,hd,hn,q⟩;subst e hF tj;have Nm:(dZ ra).length<=9000:=by unfold ir at hn;unfold dZ;rw[zb]at hn⊢;exact hn
 refine{_,(s1<|se<|bm zK zQ zR bF (ms2 (fl T.ai T.bS<|dv 0) (dv 1)<|cy an)<|ac (ck<|ac (gu (dv 0) T.ai T.fG (wN T) hr)<|ac dn<|al 2 an) an),?_};refine !{a,_,_,rfl,h.ins,rfl,lr,dZ ra,rfl,h.run,_,rfl,sm<|by decide,λp hp=>{dZ ra,.inr z,?_,rfl,bg<|by lia,λd xu=>?_,λhn=>?_}};rw[ag<|gZ h.run hp];exact h.run;rw[iu]at xu;cases e1:tm ra z with|none=>(rw[e1]at xu;cases xu)|some ls=>obtain⟨l,uT⟩:=ls;rw[e1]at xu;cases xu;have e2:lu (ir ra) z=some uT:=(by rw[gU,e1];rfl);rw[e2]at q hl;have hc:=h.cell _<|dE e1;have Ko:(S.set p<|.lst []) l=some (.lst<|uT.map jW):=(by rw[ag<|gZ hc hp];exact hc);have hi':(S.set p<|.lst []) a=some (.ins t.ak [("columns",.tup<|cs.map aA),("deeds",.ref ld),("runs",.ref lr)]):=(by rw[ag<|gZ h.ins hp];exact h.ins);have qw:CK t.ak (S.set p<|.lst []) a ld lr cs dl ra:={hi',by rw[ag<|gZ h.xB hp];exact h.xB,by rw[ag<|gZ h.run hp];exact h.run,λr hr=>by rw[ag<|gZ (h.cell r hr) hp];exact h.cell r hr,h.kn,h.an,h.sz};refine{{rfl,_,Ko},_,rfl,a,_,rfl,hi',rfl,a,_,cs,dl,_,rfl,⟨ld,lr,ra,qw,rfl,rfl⟩,_,rfl,oy,?_};have hle:uT.length<dl.length:=hl;refine{l,uT.map jW,_,rfl,rfl,Ko,bg<|by rw[zb];lia,S.set l<|.lst<|(uT++[Std.mk dl.length none ws]).map jW,λb c hb=>?_,q _ _ {ld,lr,_,h.put e1<|by rw[zx];show uT.length+1<=_;lia,rfl,Oc e1} ?_};by_cases hbl:b=l;subst hbl;rw[aa]at hb⊢;rw[zy]at hb;exact hb;rw[ag hbl]at hb;rw[ag hbl,ag<|gZ hb hp];exact hb;rw[IW];exact sy<|IX<|dE e1
 rw[iu]at hn;cases e1:tm ra z with|some ls=>(rw[e1]at hn;cases hn)|none=>have e2:lu (ir ra) z=none:=(by rw[gU,e1];rfl);rw[e2]at q hl;have npr:p≠lr:=(gZ h.run hp).symm;generalize Eh:(S.set p<|.lst []).set lr _=S1;have s1p:S1 p=some (.lst []):=(by rw[<-Eh,ag npr,aa]);have s1r:S1 lr=some (.cB<|dZ<|ra++[(z,p,[])]):=(by rw[<-Eh,aa,Q0 e1]);have s1o:∀b,b≠p->b≠lr->S1 b=S b:=λb h1 h2=>(by rw[<-Eh,ag h2,ag h1]);have qw:CK t.ak S1 a ld lr cs dl (ra++[(z,p,[])]):=h.add e1 hp (zT _) s1p s1r s1o;refine{{rfl,_,s1p},_,rfl,a,_,rfl,qw.ins,rfl,a,_,cs,dl,_,rfl,{ld,lr,_,qw,rfl,rfl},_,rfl,oy,?_};refine{p,[],_,rfl,rfl,s1p,bg<|by show 0<=_;lia,S1.set p<|.lst<|[Std.mk dl.length none ws].map jW,.refl _,q _ _ {ld,lr,ra++[(z,p,[Std.mk dl.length none ws])],h.add e1 hp (by show 1<=_;have:0<dl.length:=hl;lia) aa ?_ λb h1 h2=>by rw[ag h1];exact s1o b h1 h2,rfl,QZ e1} ?_};rw[ag npr.symm,s1r];unfold dZ;rw[zy,zy];rfl;intro b c hb e;have h1:b≠p:=gZ e hp;have h2:b≠lr:=λz=>hb (by rw[z];exact zh _<|zh _ zm);refine{λm=>?_,by rw[ag h1,s1o b h1 h2];exact e};unfold fp at m hb;rw[zy]at m;rcases zi.mp m with m|m;exact hb<|m ▸ zm;rcases zi.mp m with m|m;exact hb<|m ▸ zh _ zm;rcases zi.mp m with m|m;exact h2 m;rcases zL.mp m with m|m;exact hb<|zh _<|zh _<|zh _ m;exact h1<|zA.mp m
noncomputable def iR(n:Nat)(l:List Std):List Std:=l.dropLast++(l.getLast?.map λs=>Std.mk s.b (some n) s.ws).toList
noncomputable def oF(rs:mi)(z:Str)(n:Nat):mi:=CJ rs z<|iR n<|(lu rs z).getD []
noncomputable def uc(rs:mi)(z:Str)(n:Nat)(ws:List D):mi:=CJ rs z<|(lu rs z).getD []++[Std.mk n none ws]
theorem IY(h:bI C S a F cs dl rs)(z:Str):((lu rs z).getD []).length<=dl.length:=by obtain⟨ld,lr,ra,h,_,rfl⟩:=h;rw[gU];cases e:tm ra z with|none=>exact zT _|some ls=>exact h.sz _<|dE (l:=ls.1) (s:=ls.2) e
theorem Mj(rs:mi)(z:Str)(s:List Std):(CJ rs z s).length<=rs.length+1:=by unfold CJ;split;rw[zb];lia;rw[zx];exact zp _
theorem fB:lu (r::rs) k=if r.1=k then some r.2 else lu rs k:=by unfold lu;rw[ya];by_cases h:r.1=k;rw[zC h,if_pos h];rfl;rw[zB h,if_neg h]
theorem jY:lu (CJ rs z s) k=if k=z then some s else lu rs k:=by
 unfold CJ;by_cases hs:(lu rs z).isSome=true;rw[if_pos hs];by_cases hk:k=z;subst hk;rw[if_pos rfl];induction rs with|nil=>(cases hs)|cons r rs ih=>rw[zu,fB];by_cases h:r.1=k;rw[if_pos h,if_pos h];rw[if_neg h,if_neg h];rw[fB,if_neg h]at hs;exact ih hs
 rw[if_neg hk];clear hs;induction rs with|nil=>rfl|cons r rs ih=>rw[zu,fB,fB,ih];by_cases h:r.1=z;rw[if_pos h,if_neg<|show ¬r.1=k from λe=>hk<|e.symm.trans h,if_neg<|show ¬r.1=k from λe=>hk<|e.symm.trans h];rw[if_neg h]
 rw[if_neg hs];have hn:lu rs z=none:=by cases e:lu rs z<;>simp_all
 clear hs;induction rs with|nil=>rw[List.nil_append,fB];by_cases hk:k=z;rw[if_pos hk,if_pos hk.symm];rw[if_neg hk,if_neg λe=>hk e.symm]|cons r rs ih=>rw[fB]at hn;by_cases h:r.1=z;rw[if_pos h]at hn;cases hn;rw[if_neg h]at hn;rw[List.cons_append,fB,fB,ih hn];by_cases h2:r.1=k;rw[if_pos h2,if_pos h2,if_neg<|show ¬k=z from λe=>h<|h2.trans e];rw[if_neg h2,if_neg h2]
def VS(C:Addr):kI:=λds S R _=>∃a F cs dl rs z,ds=[.ref a,.str z]/\bI C S a F cs dl rs/\(∃s,lu rs z=some s/\s≠[])/\dl.length<=9000/\∀S',bI C S' a F cs dl (oF rs z dl.length)->Be F F S S'->R .av S'
theorem kC(h:l≠[]):∃r s,l=r++[s]:={l.dropLast,l.getLast h,(List.dropLast_concat_getLast h).symm}
theorem eX(n:Nat)(r:List Std)(s:Std):iR n (r++[s])=r++[Std.mk s.b (some n) s.ws]:=by unfold iR;rw[List.dropLast_concat,List.getLast?_concat];rfl
theorem IZ(T:Txt w K mg t):oZ P w mg base T.cu 2 (VS t.ak):=by refine T.cu.F.bL eF ?_;rintro _ _ _ _ _ _ _ S R Z hr ⟨a,F,cs,dl,rs,z,e,⟨ld,lr,ra,h,hF,tj⟩,⟨s0,Sb,Ml⟩,hd,q⟩;subst e hF tj;rw[gU]at Sb;cases e1:tm ra z with|none=>(rw[e1]at Sb;cases Sb)|some ls=>obtain⟨l,uT⟩:=ls;rw[e1]at Sb;cases Sb;obtain⟨r,sd,rfl⟩:=kC Ml;have hlen:=h.sz _<|dE e1;dsimp only at hlen;rw[zx]at hlen;have hlen:r.length+1<=dl.length:=hlen;have hc:=h.cell _<|dE e1;dsimp only at hc;have ed:bZ (dZ ra) (.inr z)=some (.ref l):=(by rw[iu,e1];rfl);refine{_,(sc (b_ (i:=2) eF.nd<|bm0 zK PySem.F.slot_list_pop PySem.F.type_list_pop UI<|ix hr.u (fl T.ai T.bS<|dv 0)<|dv 1)<|s1<|se<|bm zK zQ zR bF (ix hr.u (fl T.ai T.bS<|dv 0)<|dv 1)<|ac (ck<|ac (ix hr.u (dv 2) di)<|ac (gu (dv 0) T.ai T.fG (wN T) hr)<|ac (ix hr.u (dv 2) di) an) an),?_};refine !{a,_,_,rfl,h.ins,rfl,_,rfl,dZ ra,_,h.run,ed,{rfl,_,hc},l,_,jW sd,rfl,rfl,hc,?_,?_};rw[zy,zx];show(r.map jW++[jW sd])[(r.map jW).length+1-1]?=_;simp;have e2:((r++[sd]).map jW).dropLast=r.map jW:=(by rw[zy];exact List.dropLast_concat);rw[e2];have h1:CK t.ak (S.set l<|.lst<|r.map jW) a ld lr cs dl (tq ra z r):=h.put e1 (by lia);generalize Eh:S.set l _=S1 at h1;have e1':tm (tq ra z r) z=some (l,r):=(by have hm:(z,l,r)∈tq ra z r:=(by unfold tq;exact zj.mpr {_,dE e1,if_pos rfl});cases e3:tm (tq ra z r) z with|none=>exact absurd rfl (m6 e3 _ hm)|some x=>exact congrArg some<|congrArg Prod.snd<|gD (f:=λr:Str×Addr×List Std=>r.1) h1.kn (dE (l:=x.1) (s:=x.2) e3) hm rfl);have ed':bZ (dZ<|tq ra z r) (.inr z)=some (.ref l):=(by rw[iu,e1'];rfl);have Xw:=h1.cell _<|dE e1';refine !{a,_,_,rfl,h1.ins,rfl,_,rfl,_,_,h1.run,ed',{rfl,_,Xw},_,rfl,_,rfl,_,rfl,a,_,rfl,h1.ins,rfl,a,_,cs,dl,_,rfl,{ld,lr,_,h1,rfl,rfl},_,rfl,_,rfl,oy,l,_,_,rfl,rfl,Xw,bg<|by rw[zb];show r.length<=_;lia,?_};have h2:=h1.put (s':=r++[Std.mk sd.b (some dl.length) sd.ws]) e1' (by rw[zx];exact hlen);have e4:oF (ir ra) z dl.length=ir (tq (tq ra z r) z<|r++[Std.mk sd.b (some dl.length) sd.ws]):=(by unfold oF;rw[gU,e1];show CJ (ir ra) z (iR dl.length<|r++[sd])=_;rw[eX,Oc e1];unfold ir tq;rw[zG,zG,zG];exact zW λx _=>by dsimp only[Function.comp];by_cases hx:x.1=z<;>simp[hx]);refine{_,?_,q _ {ld,lr,_,h2,by rw[IW,IW],e4} ?_};show Sub (S1.set l<|.lst<|(r++[_]).map jW) (S1.set l<|.lst<|r.map jW++[_]);rw[zy];exact .refl _;rw[<-Eh,bf];exact sy<|IX<|dE e1
theorem Ei(h:ofStr kO d=true):∃z,d=.str z/\kO z=true:=by cases d with|str z=>exact⟨z,rfl,h⟩|_=>cases h
theorem Ej(h:oA cs k v=true):∃z ws,k=.str z/\v=.tup ws/\kO z=true:=by unfold oA at h;rw[zM]at h;obtain⟨z,rfl,hz⟩:=Ei h.1;cases v with|tup ws=>exact⟨z,ws,rfl,rfl,hz⟩|_=>exact absurd h.2 zd
theorem sA:Gt S .av:={{.av,rfl},λ_=>nofun}
theorem Od(h:ah (wt l m)=false):l≠[]:=by rintro rfl;cases h
theorem wO(hz:kO z=true)(i:Int):Bf rs (.str z) i=wt ((lu rs z).getD []) i:=if_pos hz
inductive eY (t:eQ) (ds:List D) (S:au) (R:KD) (Z:KX):Prop where
 |mk (a F cs dl rs k) (h0:ds=[.ref a,k]) (h1:bI t.ak S a F cs dl rs) (h2:Gt S k) (h3:(ah (Bf rs k dl.length)=false->R .av S)) (h4:(ah (Bf rs k dl.length)=true->Z t.mK S))
theorem jb(T:Txt w K mg t):oZ P w mg base T.cq 4 (eY t):=by refine T.cq.F.bL ji ?_;obtain⟨a,F,cs,dl,rs,k,e,hS,hk,q1,q2⟩;obtain⟨ld,lr,ra,h,_⟩:=id hS;refine{_,(s1<|si (bu iE hr.u (Zt (dv 0) T.ai T.dy.e ((m7 T).mono<|by decide) hr T.fi d1<|al 1 an) dn) (s1<|rA ⟨T.v7⟩ T.IP<|ac ds an) s0),?_};refine !{a,_,rfl,h.ins,rfl,_,rfl,a,F,cs,dl,rs,k,.av,rfl,hS,hk,sA,λi hi=>?_,λhn=>by cases hn};cases hi;refine{_,rfl,?_};refine cA (λh1=>?_) λh1=>?_;exact{t9,fo<|q2 h1};exact fo<|q1 h1
inductive jZ (t:eQ) (ds:List D) (S:au) (R:KD) (Z:KX):Prop where
 |mk (a F cs dl rs k v) (h0:ds=[.ref a,k,v]) (h1:bI t.ak S a F cs dl rs) (h2:cs.length<=8) (h3:Gt S k) (h4:Sw S v) (h5:dl.length<=8000) (h6:rs.length<=8000) (h7:(oA cs k v=false->Z t.ib S)) (h8:(oA cs k v=true->ah (Bf rs k dl.length)=false->Z t.rO S)) (h9:(∀z ws,k=.str z->v=.tup ws->oA cs k v=true->ah (Bf rs k dl.length)=true->∀S' F',bI t.ak S' a F' cs (dl++[.tup [.str "put",k,v]]) (uc rs z (dl.length+1) ws)->Be F F' S S'->R .av S'))
theorem Q1(T:Txt w K mg t):oZ P w mg base T.fF 6 (jZ t):=by refine T.fF.F.bL wJ ?_;obtain⟨a,F,cs,dl,rs,k,v,e,hS,hc,hk,hv,hd,hn,q1,q2,q3⟩;obtain⟨ld,lr,ra,h,hF,tj⟩:=id hS;refine{_,(sc (se<|aV T.kx (mZ T) hr<|ac (fl T.ai T.cX<|dv 0)<|ac (ck<|al 1<|al 2 an) an)<|sc (si (bu nR hr.u (Zt (dv 0) T.ai T.dy.e ((m7 T).mono<|by decide) hr T.fi d1<|al 1 an) dn) (s1<|rA ⟨T.rR⟩ T.FW<|ac ds an) s0)<|sc (se<|bm zK zQ zR bF (fl T.ai T.cL<|dv 0)<|ac (ck<|ac ds<|al 1<|al 2 an) an)<|s1<|se<|o9 (dv 0) T.ai T.bN (Az T) hr<|al 1<|al 2 an),?_};refine !{a,_,_,rfl,h.ins,rfl,_,rfl,_,rfl,cQ,cs,k,v,rfl,hc,hk,hv,λGi=>?_,λxC=>fo<|q1 xC};refine !{a,_,rfl,h.ins,rfl,_,rfl,a,F,cs,dl,rs,k,.av,rfl,hS,hk,sA,λi hi=>?_,λhn=>by cases hn};cases hi;refine{_,rfl,?_};refine cA (λh1=>?_) λh1=>?_;exact{t9,fo<|q2 Gi<|nt h1};obtain⟨z,ws,rfl,rfl,hz⟩:=Ej Gi;refine !{a,_,_,rfl,h.ins,rfl,{rfl,_,h.xB},_,rfl,_,rfl,oy,ld,dl,_,rfl,rfl,h.xB,bg<|by lia,?_};have Fu:=h.Mg<|.tup [.str "put",.str z,.tup ws];have Eh:bI t.ak (S.set ld<|.lst<|dl++[.tup [.str "put",.str z,.tup ws]]) a F cs (dl++[.tup [.str "put",.str z,.tup ws]]) rs:=⟨ld,lr,ra,Fu,hF,tj⟩;have hl:=IY hS z;refine !{a,_,rfl,Fu.ins,rfl,_,rfl,_,rfl,a,F,cs,_,rs,z,ws,rfl,Eh,by rw[zx];exact Nat.lt_succ_of_le hl,by rw[zx];show dl.length+1<=_;lia,by lia,λS' F' qw hK=>fo<|q3 z ws rfl rfl Gi (nf h1) S' F' ?_ ?_};have:(dl++[D.tup [.str "put",.str z,.tup ws]]).length=dl.length+1:=zx;rw[this]at qw;exact qw;refine Be.trans (sy ?_) hK;rw[hF];exact zh _ zm
inductive fW (t:eQ) (ds:List D) (S:au) (R:KD) (Z:KX):Prop where
 |mk (a F cs dl rs k v) (h0:ds=[.ref a,k,v]) (h1:bI t.ak S a F cs dl rs) (h2:cs.length<=8) (h3:Gt S k) (h4:Sw S v) (h5:dl.length<=8000) (h6:rs.length<=8000) (h7:(oA cs k v=false->Z t.ib S)) (h8:(oA cs k v=true->ah (Bf rs k dl.length)=true->Z t.mK S)) (h9:(∀z ws,k=.str z->v=.tup ws->oA cs k v=true->ah (Bf rs k dl.length)=false->∀S' F',bI t.ak S' a F' cs (dl++[.tup [.str "change",k,v]]) (uc (oF rs z dl.length) z (dl.length+1) ws)->Be F F' S S'->R .av S'))
theorem Gj(T:Txt w K mg t):oZ P w mg base T.cY 6 (fW t):=by
 refine T.cY.F.bL p_ ?_;obtain⟨a,F,cs,dl,rs,k,v,e,hS,hc,hk,hv,hd,hn,q1,q2,q3⟩;obtain⟨ld,lr,ra,h,hF,tj⟩:=id hS;refine{_,(sc (se<|aV T.kx (mZ T) hr<|ac (fl T.ai T.cX<|dv 0)<|ac (ck<|al 1<|al 2 an) an)<|sc (se<|o9 (dv 0) T.ai T.cq (jb T) hr<|al 1 an)<|sc (se<|o9 (dv 0) T.ai T.cu (IZ T) hr<|al 1 an)<|sc (se<|bm zK zQ zR bF (fl T.ai T.cL<|dv 0)<|ac (ck<|ac ds<|al 1<|al 2 an) an)<|s1<|se<|o9 (dv 0) T.ai T.bN (Az T) hr<|al 1<|al 2 an),?_};refine !{a,_,_,rfl,h.ins,rfl,_,rfl,_,rfl,cQ,cs,k,v,rfl,hc,hk,hv,λGi=>?_,λxC=>fo<|q1 xC};refine !{a,_,rfl,h.ins,rfl,_,rfl,a,F,cs,dl,rs,k,rfl,hS,hk,λh1=>?_,λh1=>fo<|q2 Gi h1};obtain⟨z,ws,rfl,rfl,hz⟩:=Ej Gi;have Ml:∃s,lu rs z=some s/\s≠[]:=by rw[wO hz]at h1;have:=Od h1;cases e:lu rs z with|none=>rw[e]at this;exact absurd rfl this|some s=>rw[e]at this;exact⟨s,rfl,this⟩
 refine !{a,_,rfl,h.ins,rfl,_,rfl,a,F,cs,dl,rs,z,rfl,hS,Ml,by lia,λS1 Eh VT=>?_};obtain⟨Sy,lr1,ra1,Fu,VU,Q2⟩:=id Eh;refine !{a,_,_,rfl,Fu.ins,rfl,{rfl,_,Fu.xB},_,rfl,_,rfl,oy,Sy,dl,_,rfl,rfl,Fu.xB,bg<|by lia,?_};have h2:=Fu.Mg<|.tup [.str "change",.str z,.tup ws];have VW:bI t.ak (S1.set Sy<|.lst<|dl++[.tup [.str "change",.str z,.tup ws]]) a F cs (dl++[.tup [.str "change",.str z,.tup ws]]) (oF rs z dl.length):=⟨Sy,lr1,ra1,h2,VU,Q2⟩;have hl:=IY Eh z;have Ij:(oF rs z dl.length).length<=rs.length+1:=Mj _ _ _;refine !{a,_,rfl,h2.ins,rfl,_,rfl,_,rfl,a,F,cs,_,_,z,ws,rfl,VW,by rw[zx];exact Nat.lt_succ_of_le hl,by rw[zx];show dl.length+1<=_;lia,by lia,λS' F' qw hK=>fo<|q3 z ws rfl rfl Gi h1 S' F' ?_ ?_};have:(dl++[D.tup [.str "change",.str z,.tup ws]]).length=dl.length+1:=zx;rw[this]at qw;exact qw;refine VT.trans<|Be.trans (sy ?_) hK;rw[VU];exact zh _ zm
inductive iS (t:eQ) (ds:List D) (S:au) (R:KD) (Z:KX):Prop where
 |mk (a F cs dl rs k) (h0:ds=[.ref a,k]) (h1:bI t.ak S a F cs dl rs) (h2:Gt S k) (h3:dl.length<=8000) (h4:(ofStr kO k=false->Z t.ib S)) (h5:(ofStr kO k=true->ah (Bf rs k dl.length)=true->Z t.mK S)) (h6:(∀z,k=.str z->kO z=true->ah (Bf rs k dl.length)=false->∀S',bI t.ak S' a F cs (dl++[.tup [.str "take",k]]) (oF rs z dl.length)->Be F F S S'->R .av S'))
theorem Mm(T:Txt w K mg t):oZ P w mg base T.eL 6 (iS t):=by
 refine T.eL.F.bL t6 ?_;obtain⟨a,F,cs,dl,rs,k,e,hS,hk,hd,q1,q2,q3⟩;obtain⟨ld,lr,ra,h,hF,tj⟩:=id hS;refine{_,(sc (si (cI<|tv<|aV T.lZ (iq T) hr<|al 1 an) (s1<|rA ⟨T.ig⟩ T.ku<|ac ds an) s0)<|sc (se<|o9 (dv 0) T.ai T.cq (jb T) hr<|al 1 an)<|sc (se<|o9 (dv 0) T.ai T.cu (IZ T) hr<|al 1 an)<|s1<|se<|bm zK zQ zR bF (fl T.ai T.cL<|dv 0)<|ac (ck<|ac ds<|al 1 an) an),?_};refine !{k,rfl,hk,_,rfl,?_};refine cA (λh0=>?_) λh0=>?_;exact{t9,fo<|q1<|nt h0};have h0:=nf h0;refine !{a,_,rfl,h.ins,rfl,_,rfl,a,F,cs,dl,rs,k,rfl,hS,hk,λh1=>?_,λh1=>fo<|q2 h0 h1};obtain⟨z,rfl,hz⟩:=Ei h0;have Ml:∃s,lu rs z=some s/\s≠[]:=by rw[wO hz]at h1;have:=Od h1;cases e:lu rs z with|none=>rw[e]at this;exact absurd rfl this|some s=>rw[e]at this;exact⟨s,rfl,this⟩
 refine !{a,_,rfl,h.ins,rfl,_,rfl,a,F,cs,dl,rs,z,rfl,hS,Ml,by lia,λS1 Eh VT=>?_};obtain⟨Sy,lr1,ra1,Fu,VU,Q2⟩:=id Eh;refine !{a,_,_,rfl,Fu.ins,rfl,{rfl,_,Fu.xB},_,rfl,cQ,Sy,dl,_,rfl,rfl,Fu.xB,bg<|by lia,?_};refine fo<|q3 z rfl hz h1 _ {Sy,lr1,ra1,Fu.Mg _,VU,Q2}<|VT.trans<|sy ?_;rw[VU];exact zh _ zm
inductive iw (t:eQ) (ds:List D) (S:au) (R:KD) (Z:KX):Prop where
 |mk (a cs) (h0:ds=[.ref a,.tup<|cs.map aA]) (h1:Gd cs) (h2:S a=some (.ins t.ak [])) (h3:∀S' F,bI t.ak S' a F cs [] []->Be [a] F S S'->R .av S')
theorem Mp(T:Txt w K mg t):oZ P w mg base T.fS 5 (iw t):=by
 refine T.fS.F.bL mW ?_;obtain⟨a,cs,e,hg,ha,q⟩;refine{_,(sc (se<|aV T.gQ (oE T) hr<|al 1 an)<|sc (sf T.ai T.cX (dv 0)<|dv 1)<|sc (sf T.ai T.cL (dv 0)<|cy an)<|s1<|sf T.ai T.bS (dv 0) Uy),?_};refine !{cs,rfl,hg,_,rfl,_,rfl,a,[],rfl,ha,(show 0<1000 by decide),?_};refine{r_,λld Oe=>!{a,[("columns",.tup<|cs.map aA)],rfl,?_,(show 1<1000 by decide),λlr Ij=>!{a,[("columns",.tup<|cs.map aA),("deeds",.ref ld)],rfl,?_,(show 2<1000 by decide),?_}}};have nl:a≠ld:=by rintro rfl;rw[aa]at Oe;cases Oe
 rw[ag nl,aa];rfl;have nl:a≠lr:=by rintro rfl;rw[aa]at Ij;cases Ij
 rw[ag nl,aa];rfl;have n1:a≠ld:=by rintro rfl;rw[aa]at Oe;cases Oe
 have n2:a≠lr:=by rintro rfl;rw[aa]at Ij;cases Ij
 have n3:ld≠lr:=by rintro rfl;rw[ag n1.symm,aa]at Ij;cases Ij
 rw[ag n1.symm]at Oe;rw[ag n2.symm,ag n3.symm,ag n2.symm]at Ij;refine fo<|q _ (fp a ld lr []) {ld,lr,[],{aa,?_,?_,λr hr=>(nomatch hr),List.nodup_nil,(by simp),λr hr=>(nomatch hr)},rfl,rfl} λb c hb e=>?_;rw[ag n1.symm,ag n3,ag n1.symm,aa];rw[ag n2.symm,aa];rfl;have b1:b≠a:=λz=>hb (by rw[z];exact zm);have b2:b≠ld:=gZ e Oe;have b3:b≠lr:=gZ e Ij;refine{λm=>?_,by rw[ag b1,ag b3,ag b1,ag b2,ag b1];exact e};unfold fp at m;simp only[List.map_nil,zi,zH,or_false]at m;rcases m with m|m|m;exact b1 m;exact b2 m;exact b3 m
noncomputable def wQ(rs:mi)(i:Int)(z:Str):D:=.tup [.str z,wt ((lu rs z).getD []) i]
noncomputable def l9(rs:mi)(i:Int)(ss:List Str):List D:=(ss.filter λz=>!ah (wt ((lu rs z).getD []) i)).map<|wQ rs i
noncomputable def wR:D->Bool|.tup [_,x]=>!ah x|_=>false
theorem AA(ss:List Str):((ss.map<|wQ rs i).filter wR).map id=l9 rs i ss:=by unfold l9;rw[List.map_id,List.filter_map];rfl
def VX(C N:Addr):kI:=λds S R Z=>∃a F cs dl rs m,ds=[.ref a,m]/\bI C S a F cs dl rs/\rs.length<64/\Gt S m/\(∀i ss,ub dl.length m=some i->ss.Perm (rs.map (·.1))->PyProof.Rows.sortedS ss=true->∀p,S p=none->R (.ref p) (S.set p<|.lst<|l9 rs i ss))/\(ub dl.length m=none->Z N S)
theorem uU(T:Txt w K mg t):oZ P w mg base T.fq 3 (VX t.ak t.fN):=by
 refine T.fq.F.bL fc ?_;obtain⟨a,F,cs,dl,rs,m,e,hS,hn,hm,q1,q2⟩;obtain⟨ld,lr,ra,h,hF,tj⟩:=id hS;have ek:(dZ ra).map (·.1)=(rs.map (·.1)).map Sum.inr:=by rw[tj];unfold dZ ir;rw[zG,zG,zG];rfl
 have el:(dZ ra).length<64:=by rw[tj]at hn;unfold ir at hn;unfold dZ;rw[zb]at hn⊢;exact hn
 refine{_,(sc (b_ (i:=2) fc.nd<|o9 (dv 0) T.ai T.cw (ja T) hr<|al 1 an)<|sc (Qt (i:=3) (N:=["key","then","self"]) (src:=[none,some 2,some 0]) fc.nd (lO (ae<|inClass bx 10) ["self","moment","then","rows"] rfl rfl<|by trivial) (il<|cb y6 T.ie fC<|ac (fl T.ai T.bS<|dv 0) an) (qx<|show(["key","then","self"]:List Str).Nodup by trivial) (a_ rfl) ba (λ_ _ _ _ _=>rB) λ_ _ _ _ _=>(ck<|al 0<|ac (aV T.gB (jX T) hr<|ac (ix hr.u (fl T.ai T.bS<|dv 2)<|dv 0)<|al 1 an) an))<|s1<|sr<|uH (N:=["row"]) (src:=[none]) (lO (ae<|inClass bx 10) ["self","moment","then","rows"] rfl rfl<|by trivial) (il<|dv 3) (qx<|show(["row"]:List Str).Nodup by trivial) (a_ rfl) ba (λ_ _ _ _ _=>(if1<|bu nR hr.u (ix hr.u (dv 0) di) dn)) λ_ _ _ _ _=>(dv 0)),?_};refine !{a,_,rfl,h.ins,rfl,_,rfl,a,F,cs,dl,rs,m,rfl,hS,hm,λi hi=>?_,λhn=>fo<|q2 hn};refine !{a,_,_,rfl,h.ins,rfl,lr,dZ ra,rs.map (·.1),rfl,h.run,ek,el,λss hp hs p kD=>?_};have hlen:ss.length<64:=by rw[hp.length_eq,zb];exact hn
 refine{_,aa,?_};refine comp_map (λd=>match d with|.str z=>wQ rs i z|_=>.av) aa (by show(ss.map D.str).length<=1000;rw[zb];omega) (λd hd Q hQ=>?_) λp2 jf=>?_;obtain⟨z,hz,rfl⟩:=zj.mp hd;have Y3:z∈rs.map (·.1):=hp.mem_iff.mp hz;obtain⟨r,sC,e⟩:=zj.mp Y3;rw[tj]at sC;unfold ir at sC;obtain⟨r0,xC,rfl⟩:=zj.mp sC;have e1:tm ra z=some r0.2:=by cases e3:tm ra z with|none=>exact absurd e (m6 e3 _ xC)|some x=>exact congrArg some<|congrArg Prod.snd<|gD (f:=λr:Str×Addr×List Std=>r.1) h.kn (dE (l:=x.1) (s:=x.2) e3) xC e.symm
 have ed:bZ (dZ ra) (.inr z)=some (.ref r0.2.1):=by rw[iu,e1];rfl
 have hc:=h.cell _ xC;have eq:(lu rs z).getD []=r0.2.2:=by rw[tj,gU,e1];rfl
 have hQ:Q (.tup [.str z,wt ((lu rs z).getD []) i]) (S.set p<|.lst<|ss.map D.str):=hQ;rw[eq]at hQ;have hi1:(S.set p<|.lst<|ss.map D.str) a=_:=(ag<|gZ h.ins kD).trans h.ins;have Gi:(S.set p<|.lst<|ss.map D.str) lr=_:=(ag<|gZ h.run kD).trans h.run;have Xw:(S.set p<|.lst<|ss.map D.str) r0.2.1=_:=(ag<|gZ hc kD).trans hc;exact !!{a,_,_,rfl,hi1,rfl,_,rfl,dZ ra,_,Gi,ed,_,rfl,_,_,i,rfl,Xw,cQ,hQ};have em:(ss.map D.str).map (λd=>match d with|.str z=>wQ rs i z|_=>.av)=ss.map (wQ rs i):=by rw[zG];rfl
 refine !{ss.map<|wQ rs i,by show((S.set p _).set p2<|.lst<|(ss.map D.str).map _) p2=_;rw[aa,em],?_};refine kB wR id (by show((S.set p _).set p2<|.lst<|(ss.map D.str).map _) p2=_;rw[aa,em]) (by show(ss.map<|wQ rs i).length<=1000;rw[zb];omega) (λd hd Q Q' hQ Q3=>?_) λp3 Xx=>?_;obtain⟨z,hz,rfl⟩:=zj.mp hd;refine !!!⟨?_⟩;exact cA (λh=>!⟨hQ h⟩) λh=>Q3 h;have aat:S p3=none:=by cases e:S p3 with|none=>rfl|some c=>exact absurd Xx<|by rw[ag (gZ e<|by have:(S.set p<|.lst<|ss.map D.str) p2=none:=jf;cases e':S p2 with|none=>rfl|some c'=>rw[ag<|gZ e' kD,e']at this;cases this),ag<|gZ e kD,e];exact nofun
 refine{S.set p3<|.lst<|l9 rs i ss,λb c hb=>?_,q1 i ss hi hp hs p3 aat};show((((S.set p<|.lst<|ss.map D.str).set p2 _).set p3<|.lst<|((ss.map<|wQ rs i).filter wR).map id)) b=some c;rw[AA];by_cases hb3:b=p3;subst hb3;rw[aa]at hb⊢;exact hb;rw[ag hb3]at hb;have aav:S p2=none:=by cases e':S p2 with|none=>rfl|some c'=>have:(S.set p<|.lst<|ss.map D.str) p2=none:=jf;rw[ag<|gZ e' kD,e']at this;cases this
 rw[ag hb3,ag<|gZ hb aav,ag<|gZ hb kD];exact hb
theorem Gk{S:au}{p:Addr}{c:Ce}(h:S p=some c):S.set p c=S:=by funext b;by_cases e:b=p;subst e;rw[aa,h];rw[ag e]
theorem I0{S:au}{p q:Addr}{c e:Ce}(h:S q=none)(hn:p≠q):Sub (S.set p c) ((S.set q e).set p c):=λb x hb=>by by_cases VY:b=p;subst VY;rw[aa]at hb⊢;exact hb;rw[ag VY]at hb⊢;exact(Sub.new h) _ _ hb
theorem dpI:∀xs:List Int,DpAll S (xs.map D.int) (xs.map PyData.int)/\PyData.canLayAll0 (xs.map PyData.int)=true/\PyData.depthAll (xs.map PyData.int)<=0|[]=>{by simp only[List.map_nil,DpAll],rfl,zT _}|x::xs=>by obtain⟨a,b,c⟩:=dpI (S:=S) xs;exact{by simp only[zu,DpAll];exact{_,_,rfl,by simp only[Dp],a},by simp only[zu,PyData.canLayAll0,PyData.canLay0,b,yW],by simp only[zu,PyData.depthAll,PyData.depth];lia}
theorem Mq{S:au}{a b:Addr}{xs:List Int}{R:KD}(e1:S a=some (.lst<|xs.map D.int))(e2:S b=some (.lst []))(q:R (.bl xs.isEmpty) S):Fx false (.ref a) (.ref b) S R:=by obtain⟨k1,k2,k3⟩:=dpI (S:=S) xs;refine{.list<|xs.map PyData.int,.list [],{_,_,e1,rfl,k1},{[],[],e2,rfl,by simp only[DpAll]},by simp only[PyData.canLay0];exact k2,by simp only[PyData.canLay0,PyData.canLayAll0],.inl<|by simp only[PyData.depth];lia,?_};rw[if_neg zd,show PyData.eqv (.list<|xs.map PyData.int) (.list [])=xs.isEmpty by cases xs<;>simp[PyData.eqv,PyData.eqvAll]];exact q
theorem Mr{k n:Nat}(h:k<n):seqIndex? ((k:Nat):Int) n=some k:=by have e:(if ((k:Nat):Int)<0 then ((k:Nat):Int)+(n:Int) else ((k:Nat):Int))=((k:Nat):Int):=if_neg (by lia);unfold seqIndex?;dsimp only;rw[e,if_pos<|by simp;lia];rfl
theorem bB{p:Bool}{A B:Prop}(h:p=false)(q:B):if p=true then A else B:=by rw[h];exact bh q
theorem lh{p:Bool}{A B:Prop}(h:p=true)(q:A):if p=true then A else B:=by rw[h];exact dh q
theorem bX{L:List D}{S:au}{p:Addr}{n:Int}{R:KD}(h0:0<=n)(h1:n<(L.length:Int))(hp:S p=none)(q:∀d,d∈L->R d S):Zj p n (S.set p<|.lst L) λd S'=>Fo S' (R d):=by obtain⟨v,e1,e2⟩:=vE (l:=L) h0 h1;exact{L,v,aa,e1,S,.new hp,q v<|zo e2}
theorem sD{xs:List Int}{i:Int}{P:Int->Prop}(h0:0<=i)(h1:i<((xs.map D.int).length:Int))(h:∀x∈xs,P x):∃x,jm (xs.map D.int) i=some (.int x)/\P x:=by obtain⟨d,e1,e2⟩:=vE (l:=xs.map D.int) h0 h1;obtain⟨x,hx,rfl⟩:=zj.mp<|zo e2;exact{x,e1,h x hx}
inductive pE (ds:List D) (S:au) (R:KD) (Z:KX):Prop where
 |mk (ns:List Int) (k:Nat) (h0:ds=[.jn<|ns.map D.int,.int k]) (h1:∀c:Int,R (.int c) S)
theorem iT(T:Txt w K mg t):Ok P w base T.fE 1 pE:=by
 refine T.fE.F.bL wG ?_;obtain⟨ns,k,e,q⟩;refine{_,(sc (si (bu x8 hr.u (dv 1)<|cb bj T.bb aK<|al 0 an) (s1<|sr<|ix hr.u (dv 0)<|dv 1) s0)<|s1<|sr di),?_};refine !!!!⟨?_⟩;refine cA (λh=>?_) λh=>?_;have h:(k:Int)<(((ns.map D.int).length:Nat):Int):=zt h;have hk:k<ns.length:=by rw[zb]at h;lia
 exact !!{.int ns[k],bW<|by rw[zf];simp[hk],fo<|q _};exact fo<|q 0
inductive uV (ds:List D) (S:au) (R:KD) (Z:KX):Prop where
 |mk (c:Int) (n:Nat) (h0:ds=[.int c,.int (n:Nat)]) (h1:n<=20) (h2:∀(xs:List Int) p,xs.length=n->(∀x∈xs,0<=x)->S p=none->R (.ref p) (S.set p<|.lst<|xs.map D.int))
theorem j0(T:Txt w K mg t):Ok P w base T.iO 1 uV:=by
 refine T.iO.F.bL cN ?_;obtain⟨c,n,e,hn,q⟩;refine{_,(sc (b_ (i:=2) cN.nd<|cy an)<|sc (b_ (i:=3) cN.nd di)<|sc (xy<|si (bu Zh hr.u (dv 0)<|bo mB hr.u di di) (s1<|b_ (i:=3) cN.nd<|bo rm hr.u (dv 0)<|bo mB hr.u di di) s0)<|sc (xy<|Z7 (twd<|twand (bu rn hr.u (dv 3) di)<|tw1<|bu x8 hr.u (cb bj T.bb aK<|al 2 an)<|dv 1)<|sc (se<|bm zK zQ zR bF (dv 2)<|ac (bo bw hr.u (dv 3)<|bo mB hr.u di di) an)<|s1<|b_ (i:=3) cN.nd<|bo bR hr.u (dv 3)<|bo mB hr.u di di)<|sc (b_ (i:=4) cN.nd<|bo aY hr.u (bo bw hr.u (dv 0)<|bo aY hr.u (bo mB hr.u di di) di) di)<|sc (xy<|GQ (LL T.ft<|ac (bo aY hr.u (dv 1) di) an) (gn (i:=5) cN.nd)<|sc (b_ (i:=4) cN.nd<|bo bw hr.u (bo aY hr.u (bo aY hr.u (bo mz hr.u (dv 4)<|dv 4)<|bo mz hr.u di<|dv 4)<|dv 5)<|bo aY hr.u (bo mB hr.u di di) di)<|s1<|si (bu rn hr.u (dv 5) di) (s1<|se<|bm zK zQ zR bF (dv 2)<|ac (bo bw hr.u (bo mz hr.u (dv 4)<|bo aY hr.u (bo bR hr.u (dv 4) di) di)<|bo aY hr.u (bo mB hr.u di di) di) an) s0)<|s1<|sr<|QO (dv 2) o0<|o1<|dv 1),?_};refine{r_,λlf Ms=>?_};refine{λaG S'=>∃r:Int,aG=[some<|.int c,some<|.int (n:Nat),some<|.ref lf,some<|.int r,none,none]/\S'=S.set lf (.lst []),?_,?_};refine{_,rfl,{by decide,by decide,by decide},_,rfl,cA (λh=>?_) λh=>fo {0,rfl,rfl}};exact{_,rfl,{by decide,by decide,by decide},fo !⟨rfl⟩};rintro aG S' ⟨r,rfl,rfl⟩;refine{λaG S'=>∃(r:Int)(xs:List Int),aG=[some<|.int c,some<|.int (n:Nat),some<|.ref lf,some<|.int r,none,none]/\S'=S.set lf (.lst<|xs.map D.int)/\xs.length<=n/\∀x∈xs,0<=x,?_,?_};refine{λm aG S'=>∃(r:Int)(xs:List Int),aG=[some<|.int c,some<|.int (n:Nat),some<|.ref lf,some<|.int r,none,none]/\S'=S.set lf (.lst<|xs.map D.int)/\xs.length+m=n/\∀x∈xs,0<=x,{n,r,[],rfl,rfl,Nat.zero_add _,λ_ h=>(nomatch h)},?_};rintro m aG S' ⟨r,xs,rfl,rfl,hl,hx⟩;have hS:(S.set lf<|.lst<|xs.map D.int) lf=some (.lst<|xs.map D.int):=aa;refine !!⟨cA (λh1=>!!⟨.inl {_,hS,_,rfl,_,rfl,cA (λh2=>?_) λh2=>?_}⟩) λh1=>bh<|fo {r,xs,rfl,rfl,by lia,hx}⟩;have h2:(((xs.map D.int).length:Nat):Int)<((n:Nat):Int):=zt h2;rw[zb]at h2;refine{_,rfl,{rfl,_,hS},_,rfl,{by decide,by decide,by decide},by decide,lf,_,_,rfl,rfl,hS,bg<|by rw[zb];lia,?_};refine{_,rfl,{by decide,by decide,by decide},{by decide,by trivial},m-1,by lia,_,xs++[r%10^(15:Int).toNat],rfl,?_,by rw[zx];show xs.length+1+_=_;lia,λx HH=>?_};rw[bf,zy];rfl;rcases zL.mp HH with h|h;exact hx x h;rw[zA.mp h];exact zP _ (by decide);exact fo {r,xs,rfl,rfl,by lia,hx};rintro aG S' ⟨r,xs,rfl,rfl,hl,hx⟩;have nb:∀z:Int,0<=z%1000000000000000009/\z%1000000000000000009<1000000000000000009:=λz=>{zP z<|by decide,zN z<|by decide};have e18:((10:Int)^(18:Int).toNat+9)=1000000000000000009:=by decide
 refine{_,rfl,{by decide,by decide,by decide},by decide,?_};refine{λaG S'=>∃(o4 o5:Option D)(ys:List Int),aG=[some<|.int c,some<|.int (n:Nat),some<|.ref lf,some<|.int r,o4,o5]/\S'=S.set lf (.lst<|ys.map D.int)/\n<=ys.length/\ys.length<=40/\∀x∈ys,0<=x,?_,?_};refine !{((n:Nat):Int)+3,rfl,by lia,by lia,?_};refine{λi aG S'=>∃(nu:Int)(o5:Option D)(ys:List Int),aG=[some<|.int c,some<|.int (n:Nat),some<|.ref lf,some<|.int r,some<|.int nu,o5]/\0<=nu/\nu<1000000000000048280/\S'=S.set lf (.lst<|ys.map D.int)/\ys.length=xs.length+(i-3)/\∀x∈ys,0<=x,?_,λ_ _ _ _=>trivial,?_,?_};have:=nb c;rw[e18];exact{_,none,xs,rfl,by lia,by lia,rfl,rfl,hx};rintro i d aG S' hd ⟨nu,o5,ys,rfl,n0,n1,rfl,hyl,hy⟩;have hd:(fm 0 (((n:Nat):Int)+3).toNat)[i]?=some d:=hd;obtain⟨hi,rfl⟩:=cK hd;refine !!{.inl {by lia,by lia},_,rfl,.inl {by decide,by decide},_,rfl,{by decide,by decide,by decide},by decide,?_};rw[e18];have b1:=nb<|nu*nu+48271*nu+(0+(i:Nat));generalize (nu*nu+48271*nu+(0+(i:Nat)))%1000000000000000009=nu2 at b1⊢;have hS:(S.set lf<|.lst<|ys.map D.int) lf=some (.lst<|ys.map D.int):=aa;refine !!⟨cA (λh=>?_) λh=>?_⟩;have h:(2:Int)<0+((i:Nat):Int):=zt h;refine{_,rfl,{rfl,_,hS},_,rfl,_,rfl,{by decide,by trivial},.inl {by lia,by lia},{by decide,by decide,by decide},by decide,lf,_,_,rfl,rfl,hS,bg<|by rw[zb];lia,?_};refine{nu2,_,ys++[nu2*(nu2/1009+69621)%(10^(18:Int).toNat+9)],rfl,by lia,by lia,?_,by rw[zx];show ys.length+1=_;lia,λx HH=>?_};rw[bf,zy];rfl;rcases zL.mp HH with h|h;exact hy x h;rw[zA.mp h];exact zP _ (by decide);have h:¬(2:Int)<0+((i:Nat):Int):=yh h;exact{nu2,_,ys,rfl,by lia,by lia,rfl,by lia,hy};rintro aG S' ⟨nu,o5,ys,rfl,_,_,rfl,hyl,hy⟩;rw[show({fm 0 (((n:Nat):Int)+3).toNat,λ_=>True}:s_).xs.length=(((n:Nat):Int)+3).toNat from cJ]at hyl;exact fo {_,_,ys,rfl,rfl,by lia,by lia,hy};rintro aG S' ⟨o4,o5,ys,rfl,rfl,NZ,Nw,hy⟩;refine !!!{_,aa,λp hp=>?_};have xD:S p=none:=by rw[ag<|show p≠lf by rintro rfl;rw[aa]at hp;cases hp]at hp;exact hp
 have e:dP (ys.map D.int) none (some ((n:Nat):Int))=(ys.take n).map D.int:=by unfold dP;rw[HT.sIx_nat,HT.sIx_none,zb,Nat.min_eq_left NZ,List.drop_zero,Nat.sub_zero,List.map_take]
 rw[e];refine{_,λb x hb=>?_,q (ys.take n) p (by rw[yz];lia) (λx HH=>hy x<|List.mem_of_mem_take HH) xD};by_cases VY:b=p;subst VY;rw[aa]at hb⊢;exact hb;rw[ag VY]at hb⊢;exact(Sub.new Ms) _ _ hb
inductive uW (ds:List D) (S:au) (R:KD) (Z:KX):Prop where
 |mk (p:Addr) (xs:List Int) (h0:ds=[.ref p]) (h1:S p=some (.lst<|xs.map D.int)) (h2:xs.length<=20) (h3:∀x∈xs,0<=x) (h4:∀(x:Int)(ys:List Int),0<=x->ys.length<=xs.length->(∀y∈ys,0<=y)->R (.int x) (S.set p<|.lst<|ys.map D.int))
theorem AB(T:Txt w K mg t):Ok P w base T.qD 1 uW:=by refine T.qD.F.bL CC ?_;obtain⟨p,xs,e,hp,hl,hx,q⟩;refine{_,(sc (si (bu bz hr.u (dv 0)<|cy an) (s1<|sr di) s0)<|s1<|sr<|bm zK PySem.F.slot_list_pop PySem.F.type_list_pop LH (dv 0)<|ac di an),?_};refine !{r_,λp2 jf=>Mq ((Sub.new jf) _ _ hp) aa !⟨?_⟩};cases xs with|nil=>refine lh rfl {S.set p<|.lst [],?_,q 3 [] (by decide) (zp _) λ_ h=>(nomatch h)};rw[Gk<|show S p=some (.lst []) from hp];exact .new jf|cons x xs=>refine bB rfl !⟨{rfl,_,(Sub.new jf) _ _ hp},p,_,_,0,.int x,rfl,rfl,(Sub.new jf) _ _ hp,by decide,by decide,Mr (k:=0)<|by simp,rfl,?_⟩;refine{_,?_,q x xs (hx x zm) (by simp) λy hy=>hx y<|zh _ hy};exact I0 jf λe=>by rw[e,jf]at hp;cases hp
noncomputable abbrev KW:List Str:=["a","ab","b","abc","z","a1","b22","aa","m","m0","ba","zzzzzzzzz"]
noncomputable abbrev KU:List Str:=["","0","b7","zz","9"]
noncomputable abbrev KS:List Str:=KW.flatMap λa=>KU.map λb=>a++b
theorem fX:∀z∈KS,kO z=true/\z.cps.size<=12/\PyData.strOk z=true:=by trivial
theorem VZ:∀a∈KW,∀b∈KU,a.length+b.length<=1000:=by trivial
noncomputable abbrev wU:List Str:=["key","a","ab","at","up","mark","b","price"]
theorem wV:∀z∈wU,k_ z=true/\PyData.strOk z=true:=by trivial
noncomputable abbrev WDS:List Str:=["","a","ab","b","a b","B","~","=b"]
theorem Q4:∀z∈WDS,px z=true:=by trivial
noncomputable def cR:D->Bool|.av=>true|.int _=>true|.str z=>decide (z.cps.size<=40)&&PyData.strOk z|_=>false
def Vg(kind:Str)(d:D):Prop:=jk kind d=true/\cR d=true
theorem Mt(h:px z=true):cR (.str z)=true:=by unfold px at h;rw[zM,yg]at h;show(decide (z.cps.size<=40)&&PyData.strOk z)=true;rw[h.1,yc];unfold PyData.strOk;rw[<-Array.all_toList,yg];intro c hc;have:=h.2 c hc;unfold Ef at this;simp only[zM,zY]at this⊢;lia
theorem Q5{k:Str}(h:k ="number")(i:Int):Vg k (.int i):={by rw[h];rfl,rfl}
theorem Q6{k:Str}(h:¬k ="number")(hz:px z=true):Vg k (.str z):={by unfold jk;rw[if_neg h];exact hz,Mt hz}
theorem Q7(k:Str):Vg k .av:=⟨rfl,rfl⟩
inductive uX (ds:List D) (S:au) (R:KD) (Z:KX):Prop where
 |mk (k:Str) (x:Int) (h0:ds=[.str k,.int x]) (h1:∀d,Vg k d->R d S)
theorem AD(T:Txt w K mg t):Ok P w base T.qE 1 uX:=by refine T.qE.F.bL rZ ?_;obtain⟨k,x,e,q⟩;refine{_,(sc (si (bu bz hr.u (bo bw hr.u (dv 1) di) di) (s1<|sr dn) s0)<|sc (si (bu bz hr.u (dv 0) ds) (sc (b_ (i:=2) rZ.nd<|bo mz hr.u (bo bw hr.u (bo bR hr.u (dv 1) di)<|bo mB hr.u di di)<|bo mB hr.u di di)<|s1<|sr<|vP<|ix hr.u (cy<|ac di<|ac di<|ac di<|ac di<|ac (HR di)<|ac (HR di)<|al 2<|ac (bo rm hr.u di<|dv 2) an)<|bo bw hr.u (bo bR hr.u (dv 1) di) di) s0)<|s1<|sr<|vP<|ix hr.u (cy<|ac ds<|ac ds<|ac ds<|ac ds<|ac ds<|ac ds<|ac ds<|ac ds an)<|bo bw hr.u (bo bR hr.u (dv 1) di) di),?_};refine !{by decide,_,rfl,cA (λ_=>fo<|q _<|Q7 k) λ_=>!!⟨?_⟩};have i0:0<=x/5%8:=zP _ (by decide);have i1:x/5%8<8:=zN _ (by decide);refine cA (λh=>?_) λh=>?_;have h:k ="number":=zt h;have g0:0<=x/40%10^(15:Int).toNat:=zP _ (by decide);have g1:x/40%10^(15:Int).toNat<10^(15:Int).toNat:=zN _ (by decide);refine{_,rfl,{by decide,by trivial},{by decide,by decide,by decide},by decide,{by decide,by decide,by decide},.inl {Int.lt_of_lt_of_le (by decide) g0,Int.lt_trans g1<|by decide},?_};generalize x/40%10^(15:Int).toNat*10^(44:Int).toNat=gr;refine !!!!{Gb,λp hp=>!⟨{by decide,by trivial},by decide,bX i0 i1 hp λd hd=>?_⟩};have hd:d∈[D.int 0,.int 1,.int 2,.int 10,.int (-1),.int (-2),.int gr,.int<|0-gr]:=hd;simp only[zi,zH,or_false]at hd;rcases hd with rfl|rfl|rfl|rfl|rfl|rfl|rfl|rfl<;>exact fo (q _<|Q5 h _);refine{Gb,λp hp=>!⟨{by decide,by trivial},by decide,bX i0 i1 hp λd hd=>?_⟩};have hd:d∈WDS.map D.str:=hd;obtain⟨z,hz,rfl⟩:=zj.mp hd;exact fo<|q _<|Q6 (yh h)<|Q4 z hz
inductive Ek (ds:List D) (S:au) (R:KD) (Z:KX):Prop where
 |mk (x:Int) (h0:ds=[.int x]) (h1:∀z∈KS,R (.str z) S)
theorem I9(T:Txt w K mg t):Ok P w base T.Ed 1 Ek:=by
 refine T.Ed.F.bL Ax ?_;obtain⟨x,e,q⟩;refine{_,(sc (b_ (i:=1) Ax.nd<|vP<|ix hr.u (cy<|ac ds<|ac ds<|ac ds<|ac ds<|ac ds<|ac ds<|ac ds<|ac ds<|ac ds<|ac ds<|ac ds<|ac ds an)<|bo bw hr.u (dv 0) di)<|s1<|sr<|bo aY hr.u (dv 1)<|vP<|ix hr.u (cy<|ac ds<|ac ds<|ac ds<|ac ds<|ac ds<|ac ds<|ac ds<|ac ds an)<|bo bw hr.u (bo bR hr.u (dv 0) di) di),?_};refine{VP,λp hp=>!{by decide,bX (zP _<|by decide) (zN _<|by decide) hp λd hd=>?_}};have hd:d∈KW.map D.str:=hd;obtain⟨a,ha,rfl⟩:=zj.mp hd;refine !{Gb,λp hp=>!⟨{by decide,by trivial},by decide,bX (zP _<|by decide) (zN _<|by decide) hp λd hd=>?_⟩};obtain⟨b,hb,rfl⟩:∃b∈KU,d=.str b:=by have hd:d∈[D.str "",.str "",.str "",.str "",.str "0",.str "b7",.str "zz",.str "9"]:=hd;simp only[zi,zH,or_false]at hd;rcases hd with h|h|h|h|h|h|h|h<;>exact{_,by simp,h}
 exact{sm<|VZ a ha b hb,fo<|q _<|List.mem_flatMap.mpr {a,ha,zj.mpr ⟨b,hb,rfl⟩}}
theorem cS:∀{l:List α}{m:List β},Paired rel l m->∀{i:Nat}{b:β},m[i]?=some b->∃a,l[i]?=some a/\rel a b|_,_,.nil,_,_,h=>by simp at h|_,_,.cons r t,0,b,h=>(by rw[List.getElem?_cons_zero]at h⊢;cases h;exact{_,rfl,r})|_,_,.cons r t,i+1,b,h=>by rw[List.getElem?_cons_succ]at h⊢;exact cS t h
theorem uY:∀{l:List α}{m:List β},m.length=l.length->(∀(i:Nat) a b,l[i]?=some a->m[i]?=some b->rel a b)->Paired rel l m|[],[],_,_=>.nil|a::l,b::m,h,k=>.cons (k 0 a b rfl rfl)<|uY (by simpa using h) λi x y e1 e2=>k (i+1) x y (by rw[List.getElem?_cons_succ];exact e1)<|by rw[List.getElem?_cons_succ];exact e2
def Wg(cs:List<|Str×Str)(ws:List D):Prop:=Paired (λ(c:Str×Str) v=>Vg c.2 v) cs ws
noncomputable def sE(tr j:Nat):Str:=wU.getD ((tr+3*j)%8) ""
theorem I_:∀tr<8,∀i<9,((List.range i).map<|sE tr).Nodup:=by trivial
theorem Q8(tr j:Nat):sE tr j∈wU:=by have:(tr+3*j)%8<8:=Nat.mod_lt _ (by decide);unfold sE;rw[zJ,zg<|show(tr+3*j)%8<wU.length from this];exact List.getElem_mem _
theorem Q9(tr j:Nat):sE (tr%8) j=sE tr j:=by unfold sE;rw[show(tr%8+3*j)%8=(tr+3*j)%8 by lia]
def Cg(cs:List<|Str×Str):Prop:=Gd cs/\∀c∈cs,c.1∈wU
inductive pF (ds:List D) (S:au) (R:KD) (Z:KX):Prop where
 |mk (c:Int) (h0:ds=[.int c]) (h1:∀cs,Cg cs->R (.tup<|cs.map aA) S)
theorem CM(T:Txt w K mg t):Ok P w base T.om 2 pF:=by
 refine T.om.F.bL cZ ?_;obtain⟨c,e,q⟩;refine{_,(sc (b_ (i:=1) cZ.nd<|aV T.iO (j0 T) hr<|al 0<|ac di an)<|sc (b_ (i:=2) cZ.nd<|cy<|ac ds<|ac ds<|ac ds<|ac ds<|ac ds<|ac ds<|ac ds<|ac ds an)<|sc (b_ (i:=3) cZ.nd<|vP<|ix hr.u (cy<|ac di<|ac di<|ac di<|ac di<|ac di<|ac di<|ac di<|ac di an)<|bo bw hr.u (ix hr.u (dv 1) di) di)<|sc (b_ (i:=4) cZ.nd<|cy an)<|sc (xy<|GQ (LL T.ft<|al 3 an) (gn (i:=5) cZ.nd)<|sc (se<|bm zK zQ zR bF (dv 4)<|ac (ck<|ac (ix hr.u (dv 2)<|bo bw hr.u (bo aY hr.u (ix hr.u (dv 1) di)<|bo mz hr.u di<|dv 5) di)<|ac (vP<|ix hr.u (cy<|ac ds<|ac ds an)<|bo bw hr.u (ix hr.u (dv 1) di) di) an) an)<|s1<|sls (dv 1) di<|bo bR hr.u (ix hr.u (dv 1) di) di)<|s1<|sr<|ct km T.bJ bp<|al 4 an),?_};refine !{c,3,rfl,by decide,λxs lx Mu hx BI=>?_};obtain⟨x0,x1,x2,rfl⟩:∃x0 x1 x2,xs=[x0,x1,x2]:=by match xs,Mu with|[a,b,c],_=>exact⟨a,b,c,rfl⟩
 obtain⟨tr,rfl⟩:=Int.eq_ofNat_of_zero_le<|hx x1 (by simp);refine{Gb,λln U_=>?_};have GR:((S.set lx<|.lst<|[x0,((tr:Nat):Int),x2].map D.int).set ln<|.lst<|wU.map D.str) lx=some (.lst<|[x0,((tr:Nat):Int),x2].map D.int):=(ag<|gZ aa U_).trans aa;have NZ:((S.set lx<|.lst<|[x0,((tr:Nat):Int),x2].map D.int).set ln<|.lst<|wU.map D.str) ln=some (.lst<|wU.map D.str):=aa;have s1:=(Sub.new (c:=.lst<|[x0,((tr:Nat):Int),x2].map D.int) BI).trans<|.new (c:=.lst<|wU.map D.str) U_;have nxn:lx≠ln:=gZ aa U_;rw[show[D.str "key",.str "a",.str "ab",.str "at",.str "up",.str "mark",.str "b",.str "price"]=wU.map D.str from rfl];generalize (S.set lx<|.lst<|[x0,((tr:Nat):Int),x2].map D.int).set ln (.lst<|wU.map D.str)=S1 at GR NZ s1⊢;refine{Gb,λp hp=>!{_,_,(Sub.new hp) _ _ GR,rfl,by decide,bX (zP _<|by decide) (zN _<|by decide) hp λd hd=>?_}};obtain⟨m,rfl,hm⟩:∃m:Nat,d=.int m/\m<=8:=by have hd:d∈[D.int 1,.int 2,.int 3,.int 0,.int 2,.int 1,.int 8,.int 3]:=hd;simp only[zi,zH,or_false]at hd;rcases hd with h|h|h|h|h|h|h|h;exact{1,h,by decide};exact{2,h,by decide};exact{3,h,by decide};exact{0,h,by decide};exact{2,h,by decide};exact{1,h,by decide};exact{8,h,by decide};exact{3,h,by decide}
 refine{r_,λlf Ms=>?_};have adU:S1 lx≠none:=by rw[GR];nofun
 have nxf:lx≠lf:=gZ GR Ms;have nnf:ln≠lf:=gZ NZ Ms;have sz:=s1.trans<|Sub.new (c:=.lst []) Ms;have aax:S lf=none:=by cases e:S lf with|none=>rfl|some z=>have:=s1 _ _ e;rw[Ms]at this;cases this
 refine{λaG S'=>∃(cs:List (Str×Str))(o6:Option D),aG=[some<|.int c,some<|.ref lx,some<|.ref ln,some<|.int (m:Nat),some<|.ref lf,o6]/\Cg cs/\S' lf=some (.lst<|cs.map aA)/\Sub S S',?_,?_};refine !{((m:Nat):Int),rfl,by lia,by lia,?_};refine{λi aG S'=>∃(cs:List (Str×Str))(y2:Int)(o6:Option D),aG=[some<|.int c,some<|.ref lx,some<|.ref ln,some<|.int (m:Nat),some<|.ref lf,o6]/\cs.map Prod.fst=(List.range i).map (sE tr)/\(∀c∈cs,c.2 ="number"\/c.2 ="word")/\S' lx=some (.lst<|[x0,((tr:Nat):Int),y2].map D.int)/\S' ln=some (.lst<|wU.map D.str)/\S' lf=some (.lst<|cs.map aA)/\Sub S S',{[],x2,none,rfl,rfl,λ_ h=>(nomatch h),(ag nxf).trans GR,(ag nnf).trans NZ,aa,sz},λ_ _ _ _=>trivial,?_,?_};rintro i d aG S' hd ⟨cs,y2,o6,rfl,hn,hk,hX,hN,hF,hs⟩;have hd:(fm 0 ((m:Nat):Int).toNat)[i]?=some d:=hd;obtain⟨hi,rfl⟩:=cK hd;have BG:cs.length=i:=by have:=congrArg List.length hn;simpa using this
 have enm:jm (wU.map D.str) ((((tr:Nat):Int)+3*(0+((i:Nat):Int)))%8)=some (.str<|sE tr i):=by rw[show(((tr:Nat):Int)+3*(0+((i:Nat):Int)))%8=(((tr+3*i)%8:Nat):Int) by lia];have eC:(tr+3*i)%8<8:=Nat.mod_lt _ (by decide);refine bW ?_;rw[zf];unfold sE;rw[zJ,zg<|show(tr+3*i)%8<wU.length from eC];rfl
 refine{_,rfl,{rfl,_,hF},_,rfl,_,rfl,_,_,hX,rfl,_,rfl,.inl {by decide,by decide},by decide,_,_,hN,enm,cQ,λp hp=>!{_,_,(Sub.new hp) _ _ hX,rfl,by decide,bX (zP _<|by decide) (zN _<|by decide) hp λd hd=>?_}};obtain⟨kd,rfl,V0⟩:∃kd:Str,d=.str kd/\(kd ="number"\/kd ="word"):=by have hd:d∈[D.str "number",.str "word"]:=hd;simp only[zi,zH,or_false]at hd;rcases hd with h|h;exact{_,h,.inl rfl};exact{_,h,.inr rfl}
 refine{cQ,lf,_,_,rfl,rfl,hF,bg<|by rw[zb];lia,?_};have Ja:(S'.set lf<|.lst<|cs.map aA++[.tup [.str<|sE tr i,.str kd]]) lx=some (.lst<|[x0,((tr:Nat):Int),y2].map D.int):=(ag nxf).trans hX;refine !{_,_,Ja,rfl,{by decide,by trivial},_,rfl,lx,_,2,2,rfl,rfl,Ja,rfl,?_};refine{cs++[(sE tr i,kd)],y2/2,_,rfl,?_,?_,aa,(ag nxn.symm).trans<|(ag nnf).trans hN,?_,λb x hb=>?_};rw[zy,hn,List.range_succ,zy];rfl;intro c hc;rcases zL.mp hc with h|h;exact hk c h;rw[zA.mp h];exact V0;rw[ag nxf.symm,aa,zy];rfl;have hbx:b≠lx:=gZ hb BI;rw[ag hbx,ag<|gZ hb aax];exact hs b x hb;rintro aG S' ⟨cs,y2,o6,rfl,hn,hk,hX,hN,hF,hs⟩;rw[show({fm 0 ((m:Nat):Int).toNat,λ_=>True}:s_).xs.length=((m:Nat):Int).toNat from cJ,show((m:Nat):Int).toNat=m by lia]at hn;have BG:cs.length=m:=by have:=congrArg List.length hn;simpa using this
 have J5:∀c∈cs,c.1∈wU:=λc hc=>by have:c.1∈cs.map Prod.fst:=zj.mpr ⟨c,hc,rfl⟩;rw[hn]at this;obtain⟨j,_,e⟩:=zj.mp this;rw[<-e];exact Q8 tr j
 have hnd:(cs.map Prod.fst).Nodup:=by rw[hn,zW λj _=>(Q9 tr j).symm];exact I_ (tr%8) (Nat.mod_lt _<|by decide) m<|by lia
 exact fo {cs,_,rfl,{{by lia,hnd,λc hc=>{(wV _<|J5 c hc).1,hk c hc}},J5},hF,hs};rintro aG S' ⟨cs,o6,rfl,hc,hF,hs⟩;exact !{_,_,rfl,.inl hF,S,hs,q cs hc}
inductive sF (ds:List D) (S:au) (R:KD) (Z:KX):Prop where
 |mk (cs:List<|Str×Str) (l:Addr) (xs:List Int) (h0:ds=[.tup<|cs.map aA,.ref l]) (h1:Gd cs) (h2:S l=some (.lst<|xs.map D.int)) (h3:cs.length<=xs.length) (h4:∀ws,Wg cs ws->R (.tup ws) S)
theorem Gm(T:Txt w K mg t):Ok P w base T.rV 2 sF:=by
 refine T.rV.F.bL Ay ?_;obtain⟨cs,l,xs,e,hg,hl,Mu,q⟩;have h8:=hg.1;refine{_,(s1<|sr<|ct km T.bJ bp<|ac (uH (N:=["_law_k","_law_xs","_law_columns_here"]) (src:=[none,some 1,some 0]) (lO (ae Cp) ["_law_columns_here","_law_xs"] rfl rfl<|by trivial) (LL T.ft<|ac (cb bj T.bb aK<|al 0 an) an) (qx<|show(["_law_k","_law_xs","_law_columns_here"]:List Str).Nodup by trivial) (a_ rfl) ba (λ_ _ _ _ _=>rB) λ_ _ _ _ _=>(aV T.qE (AD T) hr<|ac (ix hr.u (ix hr.u (dv 2)<|dv 0) di)<|ac (ix hr.u (dv 1)<|dv 0) an)) an),?_};refine !!!{by rw[zb];lia,by rw[zb];lia,?_};rw[zb];refine jT (λd v=>∃(j:Nat) (c:Str×Str),d=.int (0+(j:Nat))/\cs[j]?=some c/\Vg c.2 v) trivial (by show(fm 0 _).length<=_;rw[cJ];lia) (λd hd Q hQ=>?_) λout hp p kD=>?_;obtain⟨j,hj⟩:=zZ hd;have hj:(fm 0 ((cs.length:Nat):Int).toNat)[j]?=some d:=hj;obtain⟨hjn,rfl⟩:=cK hj;have hjc:j<cs.length:=by lia
 have ec:=zg hjc;generalize cs[j]=c at ec;have ex:(xs.map D.int)[j]?=some (.int<|xs[j]'(by lia)):=by rw[zf,zg<|show j<xs.length by lia];rfl
 generalize xs[j]'_=x at ex;have ej:(0:Int)+((j:Nat):Int)=((j:Nat):Int):=Int.zero_add _;refine !!{aA c,by rw[ej];exact bW<|by rw[zf,ec];rfl,_,rfl,_,rfl,_,rfl,_,_,hl,by rw[ej];exact bW ex,c.2,x,rfl,λv hv=>hQ v ⟨j,c,rfl,ec,hv⟩};have hw:Wg cs out:=by have hlen:=yG hp;rw[show({fm 0 ((cs.length:Nat):Int).toNat,λ_=>True}:s_).xs=fm 0 ((cs.length:Nat):Int).toNat from rfl,cJ]at hlen;refine uY (by lia) λj c v ec ev=>?_;obtain⟨d,hd,j',c',e1,e2,hv⟩:=cS hp ev;have hd:(fm 0 ((cs.length:Nat):Int).toNat)[j]?=some d:=hd;obtain⟨_,e3⟩:=cK hd;rw[e3]at e1;have e1:(0:Int)+((j:Nat):Int)=0+((j':Nat):Int):=D.int.inj e1;obtain rfl:j=j':=(by lia);rw[ec]at e2;cases e2;exact hv
 exact{_,out,rfl,.inl aa,S,.new kD,q out hw}
abbrev Kn:=List<|Str×List D
noncomputable def g8(kn:Kn):List (Key×D):=kn.map λr=>(Sum.inr r.1,D.tup r.2)
noncomputable def iU(kn:Kn)(z:Str):Option (List D):=(kn.find? λr=>decide<|r.1=z).map (·.2)
structure KI(cs:List (Str×Str))(kn:Kn):Prop where
 nd:(kn.map (·.1)).Nodup
 ok:∀r∈kn,r.1∈KS/\Wg cs r.2
theorem bP:iU (r::kn) k=if r.1=k then some r.2 else iU kn k:=by unfold iU;rw[ya];by_cases h:r.1=k;rw[zC h,if_pos h];rfl;rw[zB h,if_neg h]
theorem sG(kn:Kn)(k:Str):bZ (g8 kn) (.inr k)=(iU kn k).map D.tup:=by induction kn with|nil=>rfl|cons r kn ih=>rw[bP];unfold bZ g8 at *;rw[zu,ya];by_cases h:r.1=k;have:decide ((Sum.inr r.1:Key)=.inr k)=true:=zC (by rw[h]);dsimp only;rw[this,if_pos h];rfl;have:decide ((Sum.inr r.1:Key)=.inr k)=false:=zB λe=>h<|yK e;dsimp only;rw[this,if_neg h];exact ih
theorem qF(h:iU kn k=some ws):(k,ws)∈kn:=by induction kn with|nil=>(cases h)|cons r kn ih=>rw[bP]at h;by_cases hk:r.1=k;rw[if_pos hk]at h;cases h;rw[<-hk];exact zm;rw[if_neg hk]at h;exact zh _<|ih h
theorem l_(h:k∈kn.map (·.1)):∃ws,iU kn k=some ws:=by induction kn with|nil=>(cases h)|cons r kn ih=>rw[bP];by_cases hk:r.1=k;exact{r.2,if_pos hk};rw[if_neg hk];rw[zu]at h;rcases zi.mp h with e|h;exact absurd e.symm hk;exact ih h
theorem sub_len[DecidableEq α]:∀{l m:List α},l.Nodup->(∀x∈l,x∈m)->l.length<=m.length|[],m,_,_=>zT _|a::l,m,nd,h=>by obtain⟨n1,n2⟩:=yp.mp nd;have h1:=sub_len (m:=m.erase a) n2 λx hx=>(List.mem_erase_of_ne λe=>n1<|by rw[<-e];exact hx).mpr<|h x<|zh _ hx;have h2:=List.length_erase_of_mem<|h a zm;have h3:0<m.length:=List.length_pos_of_mem<|h a zm;rw[zS];omega
theorem KI.len(h:KI cs kn):kn.length<=60:=by
 have:=sub_len h.nd (m:=KS) λx hx=>by obtain⟨r,hr,rfl⟩:=zj.mp hx;exact(h.ok r hr).1
 rw[zb]at this;exact zO this<|by trivial
noncomputable def qd(kn:Kn)(z:Str)(ws:List D):Kn:=if (iU kn z).isSome then kn.map λr=>if r.1=z then (r.1,ws) else r else kn++[(z,ws)]
noncomputable def wW(kn:Kn)(z:Str):Kn:=kn.filter λr=>decide<|r.1≠z
theorem Jb(kn:Kn)(z:Str)(ws:List D):dput (g8 kn) (.inr z) (.tup ws)=g8 (qd kn z ws):=by
 unfold dput qd;have e:((g8 kn).any λkv=>decide<|kv.1=.inr z)=(iU kn z).isSome:=by induction kn with|nil=>rfl|cons r kn ih=>unfold g8 at *;rw[zu,yR,ih,bP];by_cases h:r.1=z;rw[if_pos h,zC<|by rw[h],Bool.true_or];rfl;rw[if_neg h,zB λe=>h<|yK e,yV]
 rw[e];split;unfold g8;rw[zG,zG];refine zW λr _=>?_;dsimp only[Function.comp];by_cases h:r.1=z;rw[if_pos h,if_pos<|by rw[h]];rw[if_neg h,if_neg λe=>h<|yK e];unfold g8;rw[zy];rfl
theorem Q_(kn:Kn)(z:Str):x_ (g8 kn) (.inr z)=g8 (wW kn z):=by unfold x_ wW g8;rw[List.filter_map];congr 1;refine List.filter_congr λr _=>?_;dsimp only[Function.comp];rw[yN];exact{λh e=>h<|by rw[e],λh e=>h<|yK e}
theorem Mv:iU (qd kn z ws) k=if k=z then some ws else iU kn k:=by
 unfold qd;by_cases hs:(iU kn z).isSome=true;rw[if_pos hs];by_cases hk:k=z;subst hk;rw[if_pos rfl];induction kn with|nil=>(cases hs)|cons r rs ih=>rw[zu,bP];by_cases h:r.1=k;rw[if_pos h,if_pos h];rw[if_neg h,if_neg h];rw[bP,if_neg h]at hs;exact ih hs
 rw[if_neg hk];clear hs;induction kn with|nil=>rfl|cons r rs ih=>rw[zu,bP,bP,ih];by_cases h:r.1=z;rw[if_pos h,if_neg<|show ¬r.1=k from λe=>hk<|e.symm.trans h,if_neg<|show ¬r.1=k from λe=>hk<|e.symm.trans h];rw[if_neg h]
 rw[if_neg hs];have hn:iU kn z=none:=by cases e:iU kn z<;>simp_all
 clear hs;induction kn with|nil=>rw[List.nil_append,bP];by_cases hk:k=z;rw[if_pos hk,if_pos hk.symm];rw[if_neg hk,if_neg λe=>hk e.symm]|cons r rs ih=>rw[bP]at hn;by_cases h:r.1=z;rw[if_pos h]at hn;cases hn;rw[if_neg h]at hn;rw[List.cons_append,bP,bP,ih hn];by_cases h2:r.1=k;rw[if_pos h2,if_pos h2,if_neg<|show ¬k=z from λe=>h<|h2.trans e];rw[if_neg h2,if_neg h2]
theorem Mw:iU (wW kn z) k=if k=z then none else iU kn k:=by unfold wW;induction kn with|nil=>(split<;>rfl)|cons r kn ih=>rw[List.filter_cons,bP];by_cases h:r.1=z;rw[if_neg<|by simp[h],ih];by_cases hk:k=z;rw[if_pos hk,if_pos hk];rw[if_neg hk,if_neg hk,if_neg<|show ¬r.1=k from λe=>hk<|e.symm.trans h];rw[if_pos<|by simp[h],bP,ih];by_cases hk:k=z;rw[if_pos hk,if_pos hk,if_neg<|show ¬r.1=k from λe=>h<|e.trans hk];rw[if_neg hk,if_neg hk]
theorem KI.put(h:KI cs kn)(hz:z∈KS)(hw:Wg cs ws):KI cs (qd kn z ws):=by
 unfold qd;split;refine{?_,λr hr=>?_};have:(kn.map λr=>if r.1=z then (r.1,ws) else r).map (·.1)=kn.map (·.1):=by rw[zG];exact zW λr _=>by dsimp only[Function.comp];split<;>rfl
 rw[this];exact h.nd;obtain⟨r0,xC,e⟩:=zj.mp hr;by_cases q:r0.1=z;rw[if_pos q]at e;subst e;exact{(h.ok r0 xC).1,hw};rw[if_neg q]at e;subst e;exact h.ok r0 xC;rename_i hs;refine{?_,λr hr=>?_};rw[zy];refine mr h.nd λm=>hs ?_;obtain⟨Xy,e⟩:=l_ m;show(iU kn z).isSome=true;rw[show iU kn z=some Xy from e];rfl;rcases zL.mp hr with hr|hr;exact h.ok r hr;rw[zA.mp hr];exact⟨hz,hw⟩
theorem KI.del(h:KI cs kn)(z:Str):KI cs (wW kn z):={(List.Sublist.map _ List.filter_sublist).nodup h.nd,λr hr=>h.ok r (yD.mp hr).1}
def GD(ks:List Str)(cs:List<|Str×Str)(kn:Kn)(d:D):Prop:=(∃z ws,z∈ks/\Wg cs ws/\iU kn z=none/\d=.tup [.str "put",.str z,.tup ws])\/(∃z ws,z∈KS/\Wg cs ws/\(iU kn z).isSome=true/\d=.tup [.str "change",.str z,.tup ws])\/∃z,z∈KS/\(iU kn z).isSome=true/\d=.tup [.str "take",.str z]
def Ly(S:au)(n:Nat)(d:D):Prop:=∃p,Dp S d p/\p.canLay0=true/\p.depth<=n
theorem Ly.all:∀{ds:List D},(∀d∈ds,Ly S n d)->∃ps:List PyData,DpAll S ds ps/\PyData.canLayAll0 ps=true/\PyData.depthAll ps<=n/\ps.length=ds.length|[],_=>{[],by simp only[DpAll],rfl,zT _,rfl}|d::ds,h=>by obtain⟨p,h1,h2,h3⟩:=h d zm;obtain⟨ps,k1,k2,k3,k4⟩:=Ly.all λx hx=>h x<|zh _ hx;refine{p::ps,by simp only[DpAll];exact⟨p,ps,rfl,h1,k1⟩,by simp only[PyData.canLayAll0,h2,k2,yW],by simp only[PyData.depthAll];lia,by rw[zS,zS,k4]}
theorem Ly.tup{S:au}{n:Nat}{ds:List D}(h:∀d∈ds,Ly S n d):Ly S (n+1) (.tup ds):=by obtain⟨ps,k1,k2,k3,_⟩:=Ly.all h;exact{.tuple ps,by simp only[Dp];exact⟨ps,rfl,k1⟩,by simp only[PyData.canLay0];exact k2,by simp only[PyData.depth];lia}
theorem Ly.str(h:PyData.strOk z=true):Ly S 0 (.str z):={.str z,by simp only[Dp],by simp only[PyData.canLay0];exact h,by simp only[PyData.depth];lia}
theorem Ly.le(h:Ly S n d)(l:n<=m):Ly S m d:=by obtain⟨p,a,b,c⟩:=h;exact{p,a,b,zO c l}
theorem Ly.av:Ly S 0 .av:={.none,by simp only[Dp],by simp only[PyData.canLay0],by simp only[PyData.depth];lia}
theorem Ly.plain(h:cR d=true):Ly S 0 d:=by cases d with|av=>exact Ly.av|int i=>exact{.int i,by simp only[Dp],by simp only[PyData.canLay0],by simp only[PyData.depth];lia}|str z=>have h:(decide (z.cps.size<=40)&&PyData.strOk z)=true:=h;rw[zM]at h;exact Ly.str h.2|_=>cases h
theorem Ly.dl(h:Ly S n d):∃p,Dl S d p/\p.canLay0=true/\p.depth<=n:=by obtain⟨p,a,b,c⟩:=h;refine{p,?_,b,c};cases d with|ref x=>simp only[Dp]at a|_=>exact a
theorem Jc(ps:List PyData):PyData.eqv (.tuple ps) (.tuple [])=ps.isEmpty:=by cases ps<;>simp[PyData.eqv,PyData.eqvAll]
theorem Mx{S:au}{ds:List D}{R:KD}(h:∀d∈ds,Ly S 60 d)(q:R (.bl ds.isEmpty) S):Fx false (.tup ds) (.tup []) S R:=by obtain⟨ps,k1,k2,k3,k4⟩:=Ly.all h;refine{.tuple ps,.tuple [],by simp only[Dl,Dp];exact⟨ps,rfl,k1⟩,by simp only[Dl,Dp];exact{[],rfl,by simp only[DpAll]},by simp only[PyData.canLay0];exact k2,by simp only[PyData.canLay0,PyData.canLayAll0],.inl<|by simp only[PyData.depth];lia,?_};rw[if_neg zd,Jc,show ps.isEmpty=ds.isEmpty by cases ps<;>cases ds<;>first|rfl|cases k4];exact q
theorem Wg.all(h:Wg cs ws):∀d∈ws,cR d=true:=by unfold Wg at h;induction h with|nil=>exact λ_ h=>(nomatch h)|cons r t ih=>intro d hd;rcases zi.mp hd with e|hd;rw[e];exact r.2;exact ih d hd
def Mo(sp:kI):kI:=λds S R Z=>∃R0 Z0,sp ds S R0 Z0/\(∀d S',R0 d S'->R d S')/\∀C S',Z0 C S'->Z C S'
theorem Rb(F:bK P w K mg base (fH P w mg) k f fd ps<|qv K sp):bK P w K mg base (fH P w mg) k f fd ps (qv K<|Mo sp):=F.imp <| by rintro vs H Q E ⟨ds,S,R,Z,v,hS,⟨R0,Z0,h,h1,h2⟩,hR,hZ⟩;exact{ds,S,R0,Z0,v,hS,h,λd S' u H' r=>hR d S' u H'<|h1 _ _ r,λC S' H' z=>hZ C S' H'<|h2 _ _ z}
abbrev Of:=jZ
abbrev AE:=fW
abbrev Jd:=iS
def KnD(kn:Kn)(d:D)(j5:Kn):Prop:=(∃(n:Str) (z:Str) (ws:List D),(n ="put"\/n ="change")/\d=.tup [.str n,.str z,.tup ws]/\j5=qd kn z ws)\/∃z,(iU kn z).isSome=true/\d=.tup [.str "take",.str z]/\j5=wW kn z
inductive CO (t:eQ) (ds:List D) (S:au) (R:KD) (Z:KX):Prop where
 |mk (a fs) (h0:S a=some (.ins t.ak fs)) (h1:fs.map Prod.fst=(["columns","deeds","runs"]:List Str)) (h2:((∃k v,ds=[.ref a,.tup [.str "put",k,v]]/\Of t [.ref a,k,v] S R Z)\/(∃k v,ds=[.ref a,.tup [.str "change",k,v]]/\AE t [.ref a,k,v] S R Z)\/∃k,ds=[.ref a,.tup [.str "take",k]]/\Jd t [.ref a,k] S R Z))
theorem lk0:∀{fs:List (Str×D)},m∉fs.map Prod.fst->fs.lookup m=none|[],_=>rfl| (a,b)::fs,h=>by rw[zu,zi]at h;rw[yf,show(m==a)=false from beq_false_of_ne λe=>h<|.inl e];exact lk0 λq=>h<|.inr q
theorem lk3{fs:List<|Str×D}(h:fs.map Prod.fst=(["columns","deeds","runs"]:List Str)){m:Str}(hm:m∉(["columns","deeds","runs"]:List Str)):fs.lookup m=none:=lk0<|by rw[h];exact hm
def Oh(t:eQ):kI:=λds S R Z=>CO t ds S (λ_=>R .av) Z
theorem El(T:Txt w K mg t):Ok P w base T.oo 7 (Oh t):=by have j6:oZ P w mg base T.fF 6 (Mo<|Of t):=Rb<|Q1 T;have fY:oZ P w mg base T.cY 6 (Mo<|AE t):=Rb<|Gj T;have iV:oZ P w mg base T.eL 6 (Mo<|Jd t):=Rb<|Mm T;refine T.oo.F.ok F9 (λds S R Z ⟨_,_,_,_,h⟩=>by rcases h with⟨_,_,e,_⟩|⟨_,_,e,_⟩|⟨_,e,_⟩<;>rw[e]<;>rfl) λgY A outer s H E ds S R Z hr ⟨a,fs,ha,hf,h⟩=>?_;rcases h with⟨k,v,e,h⟩|⟨k,v,e,h⟩|⟨k,e,h⟩;subst e;refine{_,(s1<|si (bu bz hr.u (ix hr.u (dv 1) di) ds) (s1<|se<|o9 (dv 0) T.ai T.fF j6 hr<|ac (ix hr.u (dv 1) di)<|ac (ix hr.u (dv 1) di) an)<|s1<|si (bu bz hr.u (ix hr.u (dv 1) di) ds) (s1<|se<|o9 (dv 0) T.ai T.cY fY hr<|ac (ix hr.u (dv 1) di)<|ac (ix hr.u (dv 1) di) an)<|s1<|se<|o9 (dv 0) T.ai T.eL iV hr<|ac (ix hr.u (dv 1) di) an),?_};refine !!!⟨?_⟩;refine cA (λ_=>?_) λh=>absurd h (by decide);exact !{a,_,rfl,ha,lk3 hf<|by decide,_,rfl,_,rfl,_,rfl,_,rfl,_,Z,h,λd S' r=>fo r,λC S' z=>fo z};subst e;refine{_,(s1<|si (bu bz hr.u (ix hr.u (dv 1) di) ds) (s1<|se<|o9 (dv 0) T.ai T.fF j6 hr<|ac (ix hr.u (dv 1) di)<|ac (ix hr.u (dv 1) di) an)<|s1<|si (bu bz hr.u (ix hr.u (dv 1) di) ds) (s1<|se<|o9 (dv 0) T.ai T.cY fY hr<|ac (ix hr.u (dv 1) di)<|ac (ix hr.u (dv 1) di) an)<|s1<|se<|o9 (dv 0) T.ai T.eL iV hr<|ac (ix hr.u (dv 1) di) an),?_};refine !!!⟨?_⟩;refine cA (λh=>absurd h<|by decide) λ_=>?_;refine !!!⟨?_⟩;refine cA (λ_=>?_) λh=>absurd h (by decide);exact !{a,_,rfl,ha,lk3 hf<|by decide,_,rfl,_,rfl,_,rfl,_,rfl,_,Z,h,λd S' r=>fo r,λC S' z=>fo z};subst e;refine{_,(s1<|si (bu bz hr.u (ix hr.u (dv 1) di) ds) (s1<|se<|o9 (dv 0) T.ai T.fF j6 hr<|ac (ix hr.u (dv 1) di)<|ac (ix hr.u (dv 1) di) an)<|s1<|si (bu bz hr.u (ix hr.u (dv 1) di) ds) (s1<|se<|o9 (dv 0) T.ai T.cY fY hr<|ac (ix hr.u (dv 1) di)<|ac (ix hr.u (dv 1) di) an)<|s1<|se<|o9 (dv 0) T.ai T.eL iV hr<|ac (ix hr.u (dv 1) di) an),?_};refine !!!⟨?_⟩;refine cA (λh=>absurd h<|by decide) λ_=>?_;refine !!!⟨?_⟩;refine cA (λh=>absurd h<|by decide) λ_=>?_;exact !{a,_,rfl,ha,lk3 hf<|by decide,_,rfl,_,rfl,_,Z,h,λd S' r=>fo r,λC S' z=>fo z}
noncomputable def p3(p:Str×Str×Str):D:=.tup [.str p.1,.str p.2.1,.str p.2.2]
noncomputable def kP(z:Str):Bool:=decide (z ="up")||decide (z ="down")
noncomputable def CP(z:Str):Bool:=decide (z ="first")||decide (z ="last")
theorem Je(z a b:Str)(x y:V):(([(a,x),(b,y)]:List (Str×V)).lookup z).isSome=(decide (z=a)||decide (z=b)):=by rw[yf,yf];by_cases h:z=a;rw[show(z==a)=true by simp[h],zC h];rfl;rw[show(z==a)=false by simp[h],zB h];by_cases h2:z=b;rw[show(z==b)=true by simp[h2],zC h2];rfl;rw[show(z==b)=false by simp[h2],zB h2];rfl
noncomputable def fZ(cs:List<|Str×Str)(p:Str×Str×Str):Bool:=decide (p.1∈cs.map Prod.fst)&&(kP p.2.1&&CP p.2.2)
noncomputable def AF(cs:List<|Str×Str)(ps:List<|Str×Str×Str)(wy:Str):Bool:=decide (ps.length<=8)&&(ps.all (fZ cs)&&(decide ((ps.map Prod.fst).Nodup)&&kP wy))
theorem wX(l:List<|Str×D)(z:Str)(h:bZ (rD l) (.inr z)=some d):∃p∈l,p.1=z/\d=p.2:=by
 have all:∀(l:List (Str×D))(c:List (Key×D)),bZ (l.foldl (λc p=>dput c (.inr p.1) p.2) c) (.inr z)=some d->(∃p∈l,p.1=z/\d=p.2)\/bZ c (.inr z)=some d:=by intro l;induction l with|nil=>intro c h;exact .inr h|cons p l ih=>intro c h;rcases ih _ h with⟨q,hq,e⟩|h;exact .inl {q,zh _ hq,e};rw[y7]at h;by_cases e:(.inr z:Key)=.inr p.1;rw[if_pos e]at h;exact .inl {p,zm,(yK e).symm,(zU h).symm};rw[if_neg e]at h;exact .inr h
 rcases all l [] h with h|h;exact h;cases h
def Pok(p:Str×Str×Str):Prop:=p.1.cps.size<=1000/\p.2.1.cps.size<=1000/\p.2.2.cps.size<=1000
inductive AG (ds:List D) (S:au) (R:KD) (Z:KX):Prop where
 |mk (z) (h0:ds=[.str z]) (h1:R (.bl<|kP z) S)
theorem uZ(T:Txt w K mg t):Ok P w base T.v_ 1 AG:=by refine T.v_.F.bL FY ?_;obtain⟨z,e,q⟩;refine{_,(s1<|sr<|tP (cb c_ T.ax aq<|al 0<|ac (s9 T.pb jx) an)<|J_<|ZM T.Ap (dv 0)<|dg (v:=.ref t.jD) T.vY rfl λ_=>gL _),?_};refine !{_,_,_,_,rfl,cW,rfl,_,rfl,dh !{z,rfl,rfl,?_}};rw[Je];exact fo q
inductive AH (ds:List D) (S:au) (R:KD) (Z:KX):Prop where
 |mk (z) (h0:ds=[.str z]) (h1:R (.bl<|CP z) S)
theorem Gn(T:Txt w K mg t):Ok P w base T.Ct 1 AH:=by refine T.Ct.F.bL FZ ?_;obtain⟨z,e,q⟩;refine{_,(s1<|sr<|tP (cb c_ T.ax aq<|al 0<|ac (s9 T.pb jx) an)<|J_<|ZM T.Aq (dv 0)<|dg (v:=.ref t.jE) T.vZ rfl λ_=>gL _),?_};refine !{_,_,_,_,rfl,cW,rfl,_,rfl,dh !{z,rfl,rfl,?_}};rw[Je];exact fo q
inductive m8 (ds:List D) (S:au) (R:KD) (Z:KX):Prop where
 |mk (cs z) (h0:ds=[.tup<|cs.map aA,.str z]) (h1:Gd cs) (h2:z.cps.size<=1000) (h3:(∀k,(z,k)∈cs->R (.str k) S)) (h4:(z∉cs.map Prod.fst->R .av S))
theorem gW(T:Txt w K mg t):Ok P w base T.eJ 3 m8:=by
 refine T.eJ.F.bL tV ?_;obtain⟨cs,z,e,hg,hz,q1,q2⟩;refine{_,(sc (si (cI<|tv<|aV T.qB (su T) hr<|al 1 an) (s1<|sr dn) s0)<|s1<|sr<|mg1 hr.u (ct Qw T.QX La<|al 0 an)<|dv 1),?_};refine !{.str z,rfl,gt_str hz,_,rfl,?_};refine cA (λh=>?_) λh=>?_;have h:k_ z=false:=nt h;refine fo<|q2 λm=>?_;obtain⟨c,hc,rfl⟩:=zj.mp m;rw[(hg.2.2 c hc).1]at h;cases h;have ek:cs.map aA=(cs.map λc=>(c.1,D.str c.2)).map Ie:=by rw[zG];rfl
 refine !{(cs.map λc=>(c.1,D.str c.2)),by rw[ek],λp hp=>{p,_,rfl,aa,_,rfl,_,.inr z,aa,rfl,S,.new hp,?_}};have h1:=FE (cs.map λc=>(c.1,D.str c.2)) z;cases q3:bZ (rD<|cs.map λc=>(c.1,D.str c.2)) (.inr z) with|none=>(rw[q3]at h1;refine q2 λm=>?_;obtain⟨c,hc,e⟩:=zj.mp m;have:(cs.map λc=>(c.1,D.str c.2)).any (λp=>decide<|p.1=z)=true:=List.any_eq_true.mpr {_,zj.mpr ⟨c,hc,rfl⟩,zC e};rw[this]at h1;cases h1)|some d=>obtain⟨p,hp,e1,rfl⟩:=wX _ _ q3;obtain⟨c,hc,rfl⟩:=zj.mp hp;have e1:c.1=z:=e1;exact q1 c.2<|by rw[<-e1];exact hc
inductive u0 (ds:List D) (S:au) (R:KD) (Z:KX):Prop where
 |mk (cs p) (h0:ds=[.tup<|cs.map aA,p3 p]) (h1:Gd cs) (h2:Pok p) (h3:R (.bl<|fZ cs p) S)
theorem CQ(T:Txt w K mg t):Ok P w base T.wc 4 u0:=by
 have wY:Ok P w base T.eJ 3 (λds S R _=>∃cs z,ds=[.tup<|cs.map aA,.str z]/\Gd cs/\z.cps.size<=1000/\∀d,ah d=!decide (z∈cs.map Prod.fst)->R d S):=(gW T).LM <| by rintro ds S R Z ⟨cs,z,e,hg,hz,q⟩;exact{cs,z,e,hg,hz,λk hk=>q _<|by rw[zC<|zj.mpr {_,hk,rfl}];rfl,λhn=>q _<|by rw[zB hn];rfl}
 refine T.wc.F.bL CA ?_;obtain⟨cs,p,e,hg,hp,q⟩;refine{_,(sc (si (twd<|twor (cI<|tv<|cb c_ T.ax aq<|al 1<|ac (s9 T.bJ bp) an)<|tw1<|bu lP hr.u (cb bj T.bb aK<|al 1 an) di) (s1<|sr db) s0)<|s1<|sr<|tP (cm nR hr.u (aV T.eJ wY hr<|al 0<|ac (ix hr.u (dv 1) di) an) dn)<|tP (aV T.v_ (uZ T) hr<|ac (ix hr.u (dv 1) di) an)<|J_<|aV T.Ct (Gn T) hr<|ac (ix hr.u (dv 1) di) an),?_};refine !{_,_,_,_,rfl,aZ,rfl,_,rfl,bh !!!⟨bh ?_⟩};refine !!!{cs,p.1,rfl,hg,hp.1,λd hd=>!⟨?_⟩};unfold fZ at q;refine cA (λh=>?_) λh=>?_;have h:(!ah d)=true:=h;rw[hd,Bool.not_not]at h;rw[h,yc]at q;refine !!{p.2.1,rfl,_,rfl,?_};refine cA (λh2=>?_) λh2=>?_;rw[h2,yc]at q;exact !!{p.2.2,rfl,fo q};rw[h2,zX]at q;exact fo q;have h:(!ah d)=false:=h;rw[hd,Bool.not_not]at h;rw[h,zX]at q;exact fo q
inductive lj (t:eQ) (ds:List D) (S:au) (R:KD) (Z:KX):Prop where
 |mk (cs ps wy) (h0:ds=[.tup<|cs.map aA,.tup [.tup<|ps.map p3,.str wy]]) (h1:Gd cs) (h2:(∀p∈ps,Pok p)) (h3:(AF cs ps wy=true->R .av S)) (h4:(AF cs ps wy=false->Z t.lU S))
theorem f_(T:Txt w K mg t):Ok P w base T.eT 5 (lj t):=by
 refine T.eT.F.bL fT ?_;obtain⟨cs,ps,wy,e,hg,hp,q1,q2⟩;have Sz:(ps.map p3).length=ps.length:=zb _;refine{_,(sc (si (twd<|twor (cI<|tv<|cb c_ T.ax aq<|al 1<|ac (s9 T.bJ bp) an)<|tw1<|bu lP hr.u (cb bj T.bb aK<|al 1 an) di) (s1<|rA ⟨T.dH⟩ T.eR<|ac ds an) s0)<|sc (b_ (i:=2) fT.nd<|ix hr.u (dv 1) di)<|sc (si (twd<|twor (cI<|tv<|cb c_ T.ax aq<|al 2<|ac (s9 T.bJ bp) an)<|tw1<|bu rn hr.u (cb bj T.bb aK<|al 2 an)<|dg (v:=.int 8) T.jG {_,rfl} λ_=>aP _) (s1<|rA ⟨T.dH⟩ T.eR<|ac ds an) s0)<|sc (si (cI<|tv<|cb kZ T.k8 gJ<|ac (uH (N:=["part","columns"]) (src:=[none,some 0]) (lO (ae k7) ["columns","order","parts","names"] rfl rfl<|by trivial) (NR<|dv 2) (qx<|show(["part","columns"]:List Str).Nodup by trivial) (a_ rfl) ba (λ_ _ _ _ _=>rB) λ_ _ _ _ _=>(aV T.wc (CQ T) hr<|al 1<|al 0 an)) an) (s1<|rA ⟨T.dH⟩ T.eR<|ac ds an) s0)<|sc (Qt (i:=3) (N:=["part"]) (src:=[none]) fT.nd (lO (ae k7) ["columns","order","parts","names"] rfl rfl<|by trivial) (NR<|dv 2) (qx<|show(["part"]:List Str).Nodup by trivial) (a_ rfl) ba (λ_ _ _ _ _=>rB) λ_ _ _ _ _=>(ix hr.u (dv 0) di))<|sc (si (bu lP hr.u (lse (dv 3) T.bb T.N_)<|cb bj T.bb aK<|al 3 an) (s1<|rA ⟨T.dH⟩ T.eR<|ac ds an) s0)<|s1<|si (cI<|tv<|aV T.v_ (uZ T) hr<|ac (ix hr.u (dv 1) di) an) (s1<|rA ⟨T.dH⟩ T.eR<|ac ds an) s0),?_};refine !{_,_,_,_,rfl,aZ,rfl,_,rfl,bh !!!⟨bh ?_⟩};refine !!!{_,_,_,_,rfl,aZ,rfl,_,rfl,bh !!!⟨?_⟩};refine cA (λh=>?_) λh=>?_;have h:(8:Int)<(((ps.map p3).length:Nat):Int):=zt h;rw[Sz]at h;exact{t9,fo<|q2<|by unfold AF;rw[zB<|by omega];rfl};have h:¬(8:Int)<(((ps.map p3).length:Nat):Int):=yh h;rw[Sz]at h;have h8:ps.length<=8:=by omega
 unfold AF at q1 q2;rw[zC h8,yc]at q1 q2;refine !{_,.inl rfl,?_};refine jT (λd v=>∃p,d=p3 p/\v=.bl (fZ cs p)) trivial (by show(ps.map p3).length<=_;omega) (λd hd Q hQ=>?_) λout ho p kD=>?_;obtain⟨p,hpm,rfl⟩:=zj.mp hd;exact !!{cs,p,rfl,hg,hp p hpm,hQ _ ⟨p,rfl,rfl⟩};have eo:out=(ps.map<|fZ cs).map D.bl:=by have:∀{ps:List (Str×Str×Str)}{out:List D},Paired (λd v=>∃p,d=p3 p/\v=.bl (fZ cs p)) (ps.map p3) out->out=(ps.map<|fZ cs).map D.bl:=(by intro ps;induction ps with|nil=>(intro out h;cases h;rfl)|cons x ps ih=>intro out h;cases h with|cons r t=>obtain⟨p,e1,e2⟩:=r;have:x=p:=(by obtain⟨a,b,c⟩:=x;obtain⟨a',b',c'⟩:=p;unfold p3 at e1;injection e1 with e1;injection e1 with h1 e1;injection e1 with h2 e1;injection e1 with h3 _;injection h1 with h1;injection h2 with h2;injection h3 with h3;rw[show a=a' from h1,show b=b' from h2,show c=c' from h3]);rw[e2,ih t,<-this];rfl);exact this ho
 subst eo;refine{.ref p,ps.map<|fZ cs,rfl,aa,_,rfl,?_};rw[show(ps.map<|fZ cs).all id=ps.all (fZ cs) from all_map];refine cA (λha=>?_) λha=>?_;have ha:=nt ha;exact{t9,S,.new kD,q2<|by rw[ha];rfl};have ha:=nf ha;rw[ha,yc]at q1 q2;refine !{_,.inl rfl,?_};refine comp_map (λd=>match d with|.tup (x::_)=>x|_=>.av) trivial (by show(ps.map p3).length<=_;omega) (λd hd Q hQ=>?_) λp2 jf=>?_;obtain⟨p,hpm,rfl⟩:=zj.mp hd;exact !!⟨hQ⟩;have e3:(ps.map p3).map (λd=>match d with|.tup (x::_)=>x|_=>.av)=(ps.map Prod.fst).map D.str:=by rw[zG,zG];rfl
 rw[show({ps.map p3,λ_=>True}:s_).xs=ps.map p3 from rfl,e3];have sb:Sub S ((S.set p<|.lst<|(ps.map<|fZ cs).map D.bl).set p2<|.lst<|(ps.map Prod.fst).map D.str):=(Sub.new kD).trans<|.new jf;have VW:((S.set p<|.lst<|(ps.map<|fZ cs).map D.bl).set p2<|.lst<|(ps.map Prod.fst).map D.str) p2=some (.lst<|(ps.map Prod.fst).map D.str):=aa;generalize (S.set p<|.lst<|(ps.map<|fZ cs).map D.bl).set p2 (.lst<|(ps.map Prod.fst).map D.str)=S2 at sb VW⊢;refine !{ps.map Prod.fst,VW,by rw[zb];omega,_,rfl,_,rfl,.inl {_,VW,_,rfl,?_}};have e4:decide ((((i4<|ps.map Prod.fst).length:Nat):Int)=((((ps.map Prod.fst).map D.str).length:Nat):Int))=decide ((ps.map Prod.fst).Nodup):=by rw[yN,<-uD,zb];omega
 refine cA (λhn=>?_) λhn=>?_;have hn:(!decide ((((i4<|ps.map Prod.fst).length:Nat):Int)=((((ps.map Prod.fst).map D.str).length:Nat):Int)))=true:=hn;rw[e4]at hn;exact{t9,S,sb,q2<|by rw[nt hn];rfl};have hn:(!decide ((((i4<|ps.map Prod.fst).length:Nat):Int)=((((ps.map Prod.fst).map D.str).length:Nat):Int)))=false:=hn;rw[e4]at hn;rw[nf hn,yc]at q1 q2;refine !!{wy,rfl,_,rfl,?_};refine cA (λhw=>?_) λhw=>?_;exact{t9,S,sb,q2<|nt hw};exact{S,sb,q1<|nf hw}
def wZ(o:Str)(c:Str×Str)(v:D):Prop:=o ="is"\/(v≠.av/\(o ="below"\/o ="above"\/(o ="begins"/\c.2 ="word")))
def Lf(cs:List<|Str×Str)(d:D):Prop:=d=.tup [.str "every"]\/(∃ks:List Str,d=.tup [.str "key",.tup<|ks.map .str]/\ks.length<=8/\∀k∈ks,k∈KS)\/∃(o:Str) (c:Str×Str) (v:D),c∈cs/\Vg c.2 v/\wZ o c v/\d=.tup [.str o,.str c.1,v]
def Sg(cs:List<|Str×Str):Nat->D->Prop|0,_=>False|n+1,d=>Lf cs d\/(∃e,d=.tup [.str "not",e]/\Sg cs n e)\/∃(o:Str) (ds:List D),(o ="and"\/o ="or")/\d=.tup [.str o,.tup ds]/\ds.length<=8/\∀e∈ds,Sg cs n e
theorem Oi(h:Vg k v):Gt S v:=by have h:=h.2;cases v with|av=>(exact{{_,rfl},λz e=>by cases e})|int i=>(exact{{_,rfl},λz e=>by cases e})|str z=>unfold cR at h;simp only[zM,zY]at h;exact gt_str (by lia)|_=>cases h
noncomputable def m9:D->List D|.tup [.str o,.tup ds]=>(if o ="not" then[.tup ds] else if o ="and"\/o ="or" then ds else[])|.tup [.str o,e]=>(if o ="not" then[e] else[])|_=>[]
noncomputable def pG:Nat->D->Nat|0,_=>0|n+1,d=>((m9 d).map<|pG n).sum+1
theorem w4(e:D):m9 (.tup [.str "not",e])=[e]:=by cases e<;>rfl
theorem w5{o:Str}(h:o ="and"\/o ="or")(ds:List D):m9 (.tup [.str o,.tup ds])=ds:=by rcases h with rfl|rfl<;>rfl
def Sq(cs:List<|Str×Str)(d:D):Prop:=Sg cs 7 d/\pG 7 d<=200
inductive iy (ds:List D) (S:au) (R:KD) (Z:KX):Prop where
 |mk (es) (h0:ds=[.tup es]) (h1:es.length<=8) (h2:R (.bl true) S)
theorem pH(T:Txt w K mg t):Ok P w base T.dW 1 iy:=by refine T.dW.F.bL mT ?_;obtain⟨es,e,hl,q⟩;refine{_,(s1<|sr<|tP (cb c_ T.ax aq<|al 0<|ac (s9 T.bJ bp) an)<|J_<|cm jz hr.u (cb bj T.bb aK<|al 0 an)<|dg (v:=.int 8) T.lX {_,rfl} λ_=>aP _),?_};refine !{_,_,_,_,rfl,aZ,rfl,_,rfl,dh !!⟨?_⟩};have e1:decide (((es.length:Nat):Int)<=8)=true:=zC (by lia);show Fo S (R<|.bl<|decide<|((es.length:Nat):Int)<=8);rw[e1];exact fo q
inductive gX (ds:List D) (S:au) (R:KD) (Z:KX):Prop where
 |mk (cs o c v) (h0:ds=[.tup<|cs.map aA,.tup [.str o,.str c.1,v]]) (h1:Gd cs) (h2:c∈cs) (h3:Vg c.2 v) (h4:wZ o c v) (h5:R (.bl true) S)
theorem sH(T:Txt w K mg t):Ok P w base T.jM 4 gX:=by
 refine T.jM.F.bL jP ?_;obtain⟨cs,o,c,v,e,hg,hc,hv,ho,q⟩;have hn:∀k,(c.1,k)∈cs->k=c.2:=λk hk=>by have:=gD hg.2.1 hk hc rfl;rw[<-this]
 refine{_,(sc (b_ (i:=2) jP.nd<|aV T.eJ (gW T) hr<|al 0<|ac (ix hr.u (dv 1) di) an)<|sc (si (twd<|twor (bu iE hr.u (dv 2) dn)<|tw1<|cI<|tv<|aV T.jJ (jV T) hr<|al 2<|ac (ix hr.u (dv 1) di) an) (s1<|sr db) s0)<|sc (si (bu bz hr.u (ix hr.u (dv 1) di) ds) (s1<|sr db) s0)<|sc (si (twd<|twand (bu bz hr.u (ix hr.u (dv 1) di) ds)<|tw1<|bu lP hr.u (dv 2) ds) (s1<|sr db) s0)<|s1<|sr<|cm nR hr.u (ix hr.u (dv 1) di) dn),?_};refine !!!{cs,c.1,rfl,hg,oB (hg.2.2 c hc).1,λk hk=>?_,λhk=>absurd (zj.mpr ⟨c,hc,rfl⟩) hk};cases hn k hk;refine !!⟨bh !!!{c.2,v,rfl,Oi hv,_,rfl,?_}⟩;rw[hv.1];refine bh !!!⟨?_⟩;rcases ho with rfl|⟨hvn,ho⟩;exact lh (by trivial)<|fo q;have N1:ah v=false:=by cases v<;>first|rfl|exact absurd rfl hvn
 have e9:(!ah v)=true:=by rw[N1];rfl
 have fin:Fo S (R<|.bl<|!ah v):=by rw[e9];exact fo q
 rcases ho with rfl|rfl|⟨rfl,hw⟩;refine bB (by trivial) !!!⟨bB (by trivial) !!⟨fin⟩⟩;refine bB (by trivial) !!!⟨bB (by trivial) !!⟨fin⟩⟩;refine bB (by trivial) !!!⟨lh (by trivial) !!⟨?_⟩⟩;rw[hw];exact bB (by trivial) !!⟨fin⟩
theorem Mz(h:z∈KS):z.cps.size<=1000:=zO (fX z h).2.1<|by decide
inductive pI (ds:List D) (S:au) (R:KD) (Z:KX):Prop where
 |mk (cs n d) (h0:ds=[.tup<|cs.map aA,d]) (h1:Gd cs) (h2:Sg cs n d) (h3:R (.bl true) S)
theorem w6(T:Txt w K mg t):Ok P w base T.oj 5 pI:=by
 refine T.oj.F.bL wC ?_;obtain⟨cs,n,d,e,hg,hs,q⟩;refine{_,(sc (si (twd<|twor (cI<|tv<|cb c_ T.ax aq<|al 1<|ac (s9 T.bJ bp) an)<|twor (bu bz hr.u (cb bj T.bb aK<|al 1 an) di)<|tw1<|cI<|tv<|cb c_ T.ax aq<|ac (ix hr.u (dv 1) di)<|ac (s9 T.pb jx) an) (s1<|sr db) s0)<|sc (si (bu lP hr.u (mgk T.FV (by decide) (gK T.Cr)<|ix hr.u (dv 1) di)<|cb bj T.bb aK<|al 1 an) (s1<|sr db) s0)<|sc (si (bu yY hr.u (ix hr.u (dv 1) di)<|ck<|ac ds<|ac ds<|ac ds<|ac ds an) (s1<|sr<|aV T.jM (sH T) hr<|al 0<|al 1 an) s0)<|sc (si (bu bz hr.u (ix hr.u (dv 1) di) ds) (s1<|sr<|tP (aV T.dW (pH T) hr<|ac (ix hr.u (dv 1) di) an)<|J_<|cb kZ T.k8 gJ<|ac (uH (N:=["key"]) (src:=[none]) (lO (ae Ag) ["columns","thing"] rfl rfl<|by trivial) (NR<|ix hr.u (dv 1) di) (qx<|show(["key"]:List Str).Nodup by trivial) (a_ rfl) ba (λ_ _ _ _ _=>rB) λ_ _ _ _ _=>(aV T.lZ (iq T) hr<|al 0 an)) an) s0)<|sc (si (bu yY hr.u (ix hr.u (dv 1) di)<|ck<|ac ds<|ac ds an) (s1<|sr<|aV T.dW (pH T) hr<|ac (ix hr.u (dv 1) di) an) s0)<|s1<|sr db),?_};cases n with|zero=>exact hs.elim|succ n =>
 rcases hs with (rfl|⟨ks,rfl,hk8,Cd⟩|⟨o,c,v,hc,hv,ho,rfl⟩)|⟨e,rfl,he⟩|⟨o,es,ho,rfl,MA,_⟩;refine !{_,_,_,_,rfl,aZ,rfl,_,rfl,bh !!!⟨bB rfl !!{_,_,_,_,rfl,cW,rfl,_,rfl,bh ?_}⟩};refine !!!!!!⟨bB rfl ?_⟩;exact !!{t_,rfl,rfl,_,rfl,bB (by trivial) !!!⟨bB (by trivial) !!{cQ,rfl,rfl,_,rfl,bB (by trivial)<|fo q}⟩};refine !{_,_,_,_,rfl,aZ,rfl,_,rfl,bh !!!⟨bB rfl !!{_,_,_,_,rfl,cW,rfl,_,rfl,bh ?_}⟩};refine !!!!!!⟨bB rfl ?_⟩;refine !!{t_,rfl,rfl,_,rfl,bB (by trivial) !!!⟨lh (by trivial) ?_⟩};refine !!!{by rw[zb];exact hk8,_,rfl,dh !!{_,.inl rfl,?_}};refine comp_map (λ_=>.bl true) trivial (by show(ks.map D.str).length<=1000;rw[zb];lia) (λd hd Q hQ=>?_) λp hp=>?_;obtain⟨k,hk,rfl⟩:=zj.mp hd;refine !{.str k,rfl,gt_str<|Mz<|Cd k hk,?_};show Q (.bl<|kO k) S;rw[(fX k<|Cd k hk).1];exact hQ;have e2:(ks.map D.str).map (λ_=>D.bl true)=(ks.map λ_=>true).map D.bl:=by rw[zG,zG];rfl
 have e3:(ks.map λ_=>true).all id=true:=by rw[all_map];exact yg.mpr λ_ _=>rfl
 refine{.ref p,ks.map λ_=>true,rfl,?_,S,.new hp,?_};show(S.set p<|.lst<|(ks.map D.str).map _) p=_;rw[aa,e2];rw[e3];exact q;have h4:o ="is"\/o ="below"\/o ="above"\/o ="begins":=by rcases ho with h|⟨_,h|h|⟨h,_⟩⟩;exact .inl h;exact .inr<|.inl h;exact .inr<|.inr<|.inl h;exact .inr<|.inr<|.inr h
 refine !{_,_,_,_,rfl,aZ,rfl,_,rfl,bh !!!⟨bB rfl !!{_,_,_,_,rfl,cW,rfl,_,rfl,bh ?_}⟩};have fin:∀Zq:KX,gX [D.tup<|cs.map aA,.tup [.str o,.str c.1,v]] S (λd S'=>Fo S'<|R d) Zq:=λ_=>{cs,o,c,v,rfl,hg,hc,hv,ho,fo q};rcases h4 with rfl|rfl|rfl|rfl;exact !!!!!!⟨bB rfl !!{t_,rfl,rfl,_,rfl,lh (by trivial) !!⟨(fin _)⟩}⟩;exact !!!!!!⟨bB rfl !!{t_,rfl,rfl,_,rfl,lh (by trivial) !!⟨(fin _)⟩}⟩;exact !!!!!!⟨bB rfl !!{t_,rfl,rfl,_,rfl,lh (by trivial) !!⟨(fin _)⟩}⟩;exact !!!!!!⟨bB rfl !!{t_,rfl,rfl,_,rfl,lh (by trivial) !!⟨(fin _)⟩}⟩;refine !{_,_,_,_,rfl,aZ,rfl,_,rfl,bh !!!⟨bB rfl !!{_,_,_,_,rfl,cW,rfl,_,rfl,bh ?_}⟩};refine !!!!!!⟨bB rfl ?_⟩;exact !!{t_,rfl,rfl,_,rfl,bB (by trivial) !!!⟨bB (by trivial) !!{cQ,rfl,rfl,_,rfl,bB (by trivial)<|fo q}⟩};have h8:es.length<=8:=by lia
 rcases ho with rfl|rfl;refine !{_,_,_,_,rfl,aZ,rfl,_,rfl,bh !!!⟨bB rfl !!{_,_,_,_,rfl,cW,rfl,_,rfl,bh ?_}⟩};refine !!!!!!⟨bB rfl ?_⟩;exact !!{t_,rfl,rfl,_,rfl,bB (by trivial) !!!⟨bB (by trivial) !!{cQ,rfl,rfl,_,rfl,lh (by trivial) !!!{h8,fo q}}⟩};refine !{_,_,_,_,rfl,aZ,rfl,_,rfl,bh !!!⟨bB rfl !!{_,_,_,_,rfl,cW,rfl,_,rfl,bh ?_}⟩};refine !!!!!!⟨bB rfl ?_⟩;exact !!{t_,rfl,rfl,_,rfl,bB (by trivial) !!!⟨bB (by trivial) !!{cQ,rfl,rfl,_,rfl,lh (by trivial) !!!{h8,fo q}}⟩}
inductive jc (ds:List D) (S:au) (R:KD) (Z:KX):Prop where
 |mk (l es cs m) (h0:ds=[.ref l]) (h1:S l=some (.lst es)) (h2:(es.flatMap m9).length<=900) (h3:(∀e∈es,Sg cs (m+1) e)) (h4:∀p,S p=none->R (.ref p) (S.set p<|.lst<|es.flatMap m9))
theorem oG(T:Txt w K mg t):Ok P w base T.gR 1 jc:=by
 refine T.gR.F.bL eM ?_;obtain⟨l,es,cs,m,e,hl,h8,MA,q⟩;refine{_,(sc (b_ (i:=1) eM.nd<|cy an)<|sc (xy<|GQ (il<|dv 0) (gn (i:=2) eM.nd)<|sc (xy<|si (bu bz hr.u (ix hr.u (dv 2) di) ds) (s1<|se<|bm zK zQ zR bF (dv 1)<|ac (ix hr.u (dv 2) di) an) s0)<|s1<|si (bu yY hr.u (ix hr.u (dv 2) di)<|ck<|ac ds<|ac ds an) (s1<|se<|bm zK PySem.F.slot_list_extend PySem.F.type_list_extend FF (dv 1)<|ac (ix hr.u (dv 2) di) an) s0)<|s1<|sr<|dv 1),?_};refine{r_,λf hf=>?_};have Ms:l≠f:=gZ hl hf;refine{λaG S'=>∃o,aG=[some<|.ref l,some<|.ref f,o]/\S'=S.set f (.lst<|es.flatMap m9),?_,?_};refine !{es,(ag Ms).trans hl,?_};refine{λi aG S'=>∃o,aG=[some<|.ref l,some<|.ref f,o]/\S'=S.set f (.lst<|(es.take i).flatMap m9),⟨none,rfl,rfl⟩,?_,?_,?_};rintro i aG S' ⟨o,rfl,rfl⟩;exact(ag Ms).trans hl;rintro i e aG S' he ⟨o,rfl,rfl⟩;have he:es[i]?=some e:=he;have hem:=MA e<|zo he;have et:(es.take<|i+1).flatMap m9=(es.take i).flatMap m9++m9 e:=by rw[List.take_add_one,he,List.flatMap_append];simp
 have MB:((es.take i).flatMap m9).length+(m9 e).length<=900:=by rw[<-zx,<-et];refine zO ?_ h8;(conv=>rhs;rw[<-List.take_append_drop (i+1) es,List.flatMap_append,zx]);exact Nat.le_add_right _ _
 generalize (es.take i).flatMap m9=fs at et MB⊢;have SE:(S.set f<|.lst fs) f=some (.lst fs):=aa;have keep:m9 e=[]->∃o,[some<|D.ref l,some<|D.ref f,some e]=[some<|.ref l,some<|.ref f,o]/\S.set f (.lst fs)=S.set f (.lst<|(es.take<|i+1).flatMap m9):=λh=>!⟨by rw[et,h,List.append_nil]⟩;have more:∀ds,m9 e=ds->∃o,[some<|D.ref l,some<|D.ref f,some e]=[some<|.ref l,some<|.ref f,o]/\(S.set f<|.lst fs).set f (.lst<|fs++ds)=S.set f (.lst<|(es.take<|i+1).flatMap m9):=λds h=>!⟨by rw[et,h,bf]⟩;rcases hem with (rfl|⟨ks,rfl,_,_⟩|⟨o,c,v,_,_,ho,rfl⟩)|⟨e',rfl,Ql⟩|⟨o,ds,ho,rfl,hds,hd⟩;refine{λqp S2=>qp=_/\S2=S.set f (.lst fs),!!!⟨bB (by trivial)<|fo ⟨rfl,rfl⟩⟩,?_};rintro _ _ ⟨rfl,rfl⟩;exact !!{cQ,rfl,rfl,_,rfl,bB (by trivial)<|keep rfl};refine{λqp S2=>qp=_/\S2=S.set f (.lst fs),!!!⟨bB (by trivial)<|fo ⟨rfl,rfl⟩⟩,?_};rintro _ _ ⟨rfl,rfl⟩;exact !!{cQ,rfl,rfl,_,rfl,bB (by trivial)<|keep rfl};rcases ho with rfl|⟨_,rfl|rfl|⟨rfl,_⟩⟩;refine{λqp S2=>qp=_/\S2=S.set f (.lst fs),!!!⟨bB (by trivial)<|fo ⟨rfl,rfl⟩⟩,?_};rintro _ _ ⟨rfl,rfl⟩;exact !!{cQ,rfl,rfl,_,rfl,bB (by trivial)<|keep rfl};refine{λqp S2=>qp=_/\S2=S.set f (.lst fs),!!!⟨bB (by trivial)<|fo ⟨rfl,rfl⟩⟩,?_};rintro _ _ ⟨rfl,rfl⟩;exact !!{cQ,rfl,rfl,_,rfl,bB (by trivial)<|keep rfl};refine{λqp S2=>qp=_/\S2=S.set f (.lst fs),!!!⟨bB (by trivial)<|fo ⟨rfl,rfl⟩⟩,?_};rintro _ _ ⟨rfl,rfl⟩;exact !!{cQ,rfl,rfl,_,rfl,bB (by trivial)<|keep rfl};refine{λqp S2=>qp=_/\S2=S.set f (.lst fs),!!!⟨bB (by trivial)<|fo ⟨rfl,rfl⟩⟩,?_};rintro _ _ ⟨rfl,rfl⟩;exact !!{cQ,rfl,rfl,_,rfl,bB (by trivial)<|keep rfl};refine{λqp S2=>qp=_/\S2=(S.set f<|.lst fs).set f (.lst<|fs++[e']),!!!⟨lh (by trivial) !⟨{rfl,_,SE},_,rfl,_,rfl,f,_,_,rfl,rfl,SE,bg<|by rw[w4]at MB;simp at MB;omega,fo ⟨rfl,rfl⟩⟩⟩,?_};rintro _ _ ⟨rfl,rfl⟩;exact !!{cQ,rfl,rfl,_,rfl,bB (by trivial)<|more _<|w4 e'};have eds:=w5 ho ds;rw[eds]at MB;rcases ho with rfl|rfl;refine{λqp S2=>qp=_/\S2=S.set f (.lst fs),!!!⟨bB (by trivial)<|fo ⟨rfl,rfl⟩⟩,?_};rintro _ _ ⟨rfl,rfl⟩;exact !!{cQ,rfl,rfl,_,rfl,lh (by trivial) !⟨{rfl,_,SE},_,rfl,_,rfl,f,_,_,rfl,rfl,SE,sm<|by omega,more _ eds⟩};refine{λqp S2=>qp=_/\S2=S.set f (.lst fs),!!!⟨bB (by trivial)<|fo ⟨rfl,rfl⟩⟩,?_};rintro _ _ ⟨rfl,rfl⟩;exact !!{cQ,rfl,rfl,_,rfl,lh (by trivial) !⟨{rfl,_,SE},_,rfl,_,rfl,f,_,_,rfl,rfl,SE,sm<|by omega,more _ eds⟩};rintro aG S' ⟨o,rfl,rfl⟩;refine fo {o,rfl,?_};rw[show({es,λS=>S l=some (.lst es)}:s_).xs=es from rfl,yr];rintro aG S' ⟨o,rfl,rfl⟩;exact{_,rfl,fo<|q f hf}
theorem Jf{cs:List<|Str×Str}{n:Nat}{d:D}(h:Sg cs (n+1) d):∀f∈m9 d,Sg cs n f:=by
 rcases h with (rfl|⟨ks,rfl,_,_⟩|⟨o,c,v,_,_,ho,rfl⟩)|⟨e',rfl,Ql⟩|⟨o,ds,ho,rfl,hds,hd⟩;exact nofun;exact nofun;exact nofun;rw[w4];exact λf hf=>by rw[zA.mp hf];exact Ql
 rw[w5 ho];exact hd
theorem Jg(n:Nat):∀es:List D,(es.map<|pG<|n+1).sum=es.length+((es.flatMap m9).map<|pG n).sum|[]=>rfl|e::es=>by have:=Jg n es;rw[zu,List.sum_cons,zS,List.flatMap_cons,zy,List.sum_append,this,show pG (n+1) e=((m9 e).map<|pG n).sum+1 from rfl];lia
theorem Rf{cs:List<|Str×Str}{n:Nat}{es:List D}(h:∀e∈es,Sg cs (n+1) e):(es.flatMap m9).length<=((es.flatMap m9).map<|pG n).sum:=by
 have h:∀f∈es.flatMap m9,Sg cs n f:=λf hf=>by obtain⟨e,he,hf⟩:=List.mem_flatMap.mp hf;exact Jf (h e he) f hf
 generalize es.flatMap m9=fs at h⊢;induction fs with|nil=>exact zp _|cons f fs ih=>have h1:=h f zm;have ih:=ih λx hx=>h x<|zh _ hx;have:1<=pG n f:=(by cases n with|zero=>exact h1.elim|succ n=>exact Nat.le_add_left _ _);rw[zu,List.sum_cons,zS];lia
inductive lq (ds:List D) (S:au) (R:KD) (Z:KX):Prop where
 |mk (cs d) (h0:ds=[.tup<|cs.map aA,d]) (h1:Gd cs) (h2:Sq cs d) (h3:R .av S)
theorem gb(T:Txt w K mg t):Ok P w base T.eU 6 lq:=by
 refine T.eU.F.bL bH ?_;obtain⟨cs,d,e,hg,hd,q⟩;refine{_,(sc (b_ (i:=2) bH.nd<|cy<|al 1 an)<|sc (b_ (i:=3) bH.nd di)<|sc (b_ (i:=4) bH.nd di)<|s1<|Z7 (bu rn hr.u (cb bj T.bb aK<|al 2 an) di)<|sc (sau (i:=3) bH.nd di)<|sc (sau (i:=4) bH.nd<|cb bj T.bb aK<|al 2 an)<|sc (si (twd<|twor (bu rn hr.u (dv 3)<|dg (v:=.int 8) T.vW {_,rfl} λ_=>aP _)<|tw1<|bu rn hr.u (dv 4)<|dg (v:=.int 200) T.jH {_,rfl} λ_=>aP _) (s1<|rA ⟨T.iH⟩ T.pe<|ac ds an) s0)<|sc (si (cI<|tv<|cb kZ T.k8 gJ<|ac (uH (N:=["thing","columns"]) (src:=[none,some 0]) (lO (ae tR) ["columns","sieve","level","deep","parts"] rfl rfl<|by trivial) (il<|dv 2) (qx<|show(["thing","columns"]:List Str).Nodup by trivial) (a_ rfl) ba (λ_ _ _ _ _=>rB) λ_ _ _ _ _=>(aV T.oj (w6 T) hr<|al 1<|al 0 an)) an) (s1<|rA ⟨T.iH⟩ T.pe<|ac ds an) s0)<|s1<|b_ (i:=2) bH.nd<|aV T.gR (oG T) hr<|al 2 an),?_};refine !{t9,λl0 Sv=>?_};refine{λm aG S'=>∃(l:Addr) (es:List D) (dp p:Nat),aG=[some<|.tup<|cs.map aA,some d,some<|.ref l,some<|.int dp,some<|.int p]/\S' l=some (.lst es)/\Sub S S'/\(∀e∈es,Sg cs m e)/\dp+m=7/\p+(es.map<|pG m).sum<=200,{7,l0,[d],0,0,rfl,aa,.new Sv,λe he=>by rw[zA.mp he];exact hd.1,rfl,by have:=hd.2;simp only[zu,List.map_nil,List.sum_cons,List.sum_nil];lia},?_};rintro m aG S' ⟨l,es,dp,p,rfl,hl,sb,MA,hdp,hp⟩;refine !!⟨.inl {_,hl,_,rfl,?_}⟩;refine cA (λh1=>?_) λh1=>?_;have HF:0<es.length:=by have h1:(0:Int)<((es.length:Nat):Int):=zt h1;lia
 obtain⟨e0,he0⟩:=List.exists_mem_of_length_pos HF;obtain⟨n,rfl⟩:∃n,m=n+1:=by cases m with|zero=>exact(MA e0 he0).elim|succ n=>exact⟨n,rfl⟩
 have ad3:=Jg n es;have Ug:=Rf (cs:=cs) (n:=n) (es:=es) MA;refine !!!!!⟨.inl {_,hl,_,rfl,?_}⟩;refine !!⟨bB (zB<|by lia) !!⟨bB (zB<|by lia) ?_⟩⟩;refine !{es,hl,?_};refine comp_map (λ_=>.bl true) hl (by show es.length<=1000;lia) (λe he Q hQ=>?_) λp1 AI=>?_;exact !!{cs,_,e,rfl,hg,MA e he,hQ};have e2:es.map (λ_=>D.bl true)=(es.map λ_=>true).map D.bl:=by rw[zG];rfl
 have e3:(es.map λ_=>true).all id=true:=by rw[all_map];exact yg.mpr λ_ _=>rfl
 refine{.ref p1,es.map λ_=>true,rfl,?_,_,rfl,?_};show(S'.set p1<|.lst<|es.map _) p1=_;rw[aa,e2];rw[e3];refine bh ?_;have s1:=sb.trans<|.new (c:=.lst<|es.map λ_=>D.bl true) AI;have GS:(S'.set p1<|.lst<|es.map λ_=>D.bl true) l=some (.lst es):=(ag<|gZ hl AI).trans hl;refine !{l,es,cs,n,rfl,GS,by lia,MA,λp2 h3=>?_};refine{n,Nat.lt_succ_self n,p2,es.flatMap m9,dp+1,p+es.length,?_,aa,s1.trans<|.new h3,λf hf=>?_,by lia,by lia};show[_,_,_,some<|D.int<|((dp:Nat):Int)+1,some<|D.int<|((p:Nat):Int)+((es.length:Nat):Int)]=_;rw[show(((dp:Nat):Int)+1)=((dp+1:Nat):Int) by lia,show(((p:Nat):Int)+((es.length:Nat):Int))=((p+es.length:Nat):Int) by lia];obtain⟨e,he,hf⟩:=List.mem_flatMap.mp hf;exact Jf (MA e he) f hf;exact⟨S,sb,q⟩
noncomputable def Rh(cs:List<|Str×Str)(z:Str):Nat:=(cs.map Prod.fst).idxOf z
noncomputable def ao(cs:List<|Str×Str)(ws:List D)(z:Str):D:=(ws[Rh cs z]?).getD .av
noncomputable def aj(r:Str×List D):D:=.tup [.str r.1,.tup r.2]
theorem sI:∀{l:List α}{m:List β},Paired rel l m->∀{i:Nat}{a:α},l[i]?=some a->∃b,m[i]?=some b/\rel a b|_,_,.nil,_,_,h=>by simp at h|_,_,.cons r t,0,a,h=>(by rw[List.getElem?_cons_zero]at h⊢;cases h;exact{_,rfl,r})|_,_,.cons r t,i+1,a,h=>by rw[List.getElem?_cons_succ]at h⊢;exact sI t h
theorem w9(hg:Gd cs)(h:c∈cs):cs[Rh cs c.1]?=some c/\(cs.map Prod.fst)[Rh cs c.1]?=some c.1:=by
 have hm:c.1∈cs.map Prod.fst:=zj.mpr ⟨c,h,rfl⟩;have hi:(cs.map Prod.fst).idxOf c.1<(cs.map Prod.fst).length:=List.idxOf_lt_length_of_mem hm;have e1:(cs.map Prod.fst)[(cs.map Prod.fst).idxOf c.1]?=some c.1:=by rw[zg hi,List.getElem_idxOf]
 refine{?_,e1};obtain⟨j,ej⟩:=zZ h;have ej1:(cs.map Prod.fst)[j]?=some c.1:=by rw[zf,ej];rfl
 obtain⟨b1,c1⟩:=ze.mp e1;obtain⟨b2,c2⟩:=ze.mp ej1;have:=(List.getElem_inj hg.2.1 (h₀:=b1) (h₁:=b2)).mp<|c1.trans c2.symm;unfold Rh;rw[this];exact ej
theorem qG(hg:Gd cs)(hw:Wg cs ws)(h:c∈cs):ws[Rh cs c.1]?=some (ao cs ws c.1)/\Vg c.2 (ao cs ws c.1):=by obtain⟨v,e,r⟩:=sI hw (w9 hg h).1;unfold ao;rw[e];exact⟨rfl,r⟩
noncomputable def pJ:D->D->Bool|.av,.av=>true|.int i,.int j=>decide (i=j)|.str i,.str j=>decide (i=j)|_,_=>false
theorem dF(ha:cR a=true)(hb:cR b=true):pJ a b=true↔a=b:=by cases a<;>cases b<;>first|(cases ha;done)|(cases hb;done)|simp[pJ]
theorem AJ(ha:cR a=true)(hb:cR b=true)(q:R (.bl<|if neg then !pJ a b else pJ a b) S):Fx neg a b S R:=by
 have mix:∀{a b:D},cR a=true->cR b=true->(∀p q,Dp S a p->Dp S b q->PyData.eqv p q=pJ a b)->(∀i j,a=.int i->b≠.int j)->(∀i j,a=.str i->b≠.str j)->R (.bl<|if neg then !pJ a b else pJ a b) S->Fx neg a b S R:=by intro a b ha hb h h1 h2 q;obtain⟨p,p1,p2,p3⟩:=Ly.plain (S:=S) ha;obtain⟨r,r1,r2,r3⟩:=Ly.plain (S:=S) hb;have e:=h p r p1 r1;obtain⟨p',p1',p2',p3'⟩:=Ly.dl<|Ly.plain (S:=S) ha;cases a<;>cases b<;>first|(cases ha;done)|(cases hb;done)|exact absurd rfl (h1 _ _ rfl)|exact absurd rfl (h2 _ _ rfl)|exact{p,r,p1,r1,p2,r2,.inl<|by lia,by rw[e];exact q}
 cases a with|av=>(cases b with|av=>exact mix ha hb (λp q h1 h2=>by simp only[Dp]at h1 h2;subst h1 h2;rfl) nofun nofun q|int j=>exact mix ha hb (λp q h1 h2=>by simp only[Dp]at h1 h2;subst h1 h2;rfl) nofun nofun q|str j=>exact mix ha hb (λp q h1 h2=>by simp only[Dp]at h1 h2;subst h1 h2;rfl) nofun nofun q|_=>cases hb)|int i=>(cases b with|av=>exact mix ha hb (λp q h1 h2=>by simp only[Dp]at h1 h2;subst h1 h2;rfl) nofun nofun q|int j=>exact q|str j=>exact mix ha hb (λp q h1 h2=>by simp only[Dp]at h1 h2;subst h1 h2;rfl) nofun nofun q|_=>cases hb)|str i=>(cases b with|av=>exact mix ha hb (λp q h1 h2=>by simp only[Dp]at h1 h2;subst h1 h2;rfl) nofun nofun q|int j=>exact mix ha hb (λp q h1 h2=>by simp only[Dp]at h1 h2;subst h1 h2;rfl) nofun nofun q|str j=>exact q|_=>cases hb)|_=>cases ha
noncomputable def ud:D->D->Bool|.int i,.int j=>decide (i<j)|.str i,.str j=>uz i j|_,_=>false
noncomputable def stP:D->D->Bool|.str i,.str j=>PySem.Txt.startswith i j|_,_=>false
noncomputable def Em(o:Str)(a b:D):Bool:=if o ="is" then pJ a b else if ah a then false else if o ="below" then ud a b else if o ="above" then ud b a else stP a b
noncomputable def Gq:D->List D|.tup ds=>ds|_=>[]
noncomputable def V1(cs:List<|Str×Str)(r:Str×List D)(f:D->Bool):D->Bool|.tup [.str _]=>true|.tup [.str o,e]=>(if o ="not" then !f e else if o ="key" then BC (mC<|.str r.1) ((Gq e).map mC) else if o ="and" then (Gq e).all f else (Gq e).any f)|.tup [.str o,.str z,v]=>Em o (ao cs r.2 z) v|_=>false
noncomputable def cn(cs:List<|Str×Str)(r:Str×List D):Nat->D->Bool|0,_=>false|n+1,d=>V1 cs r (cn cs r n) d
theorem En(cs:List<|Str×Str)(r:Str×List D)(n:Nat)(o:Str)(e:D):cn cs r (n+1) (.tup [.str o,e])=if o ="not" then !cn cs r n e else if o ="key" then BC (mC<|.str r.1) ((Gq e).map mC) else if o ="and" then (Gq e).all (cn cs r n) else (Gq e).any (cn cs r n):=rfl
theorem V2(cs:List<|Str×Str)(r:Str×List D)(n:Nat)(o z:Str)(v:D):cn cs r (n+1) (.tup [.str o,.str z,v])=Em o (ao cs r.2 z) v:=rfl
theorem Jh(cs:List<|Str×Str)(r:Str×List D)(n:Nat)(ks:List D):cn cs r (n+1) (.tup [.str "key",.tup ks])=BC (mC<|.str r.1) (ks.map mC):=by rw[En,if_neg<|by trivial,if_pos rfl];rfl
theorem Ji(cs:List<|Str×Str)(r:Str×List D)(n:Nat)(e:D):cn cs r (n+1) (.tup [.str "not",e])=!cn cs r n e:=by rw[En,if_pos rfl]
theorem Jj(cs:List<|Str×Str)(r:Str×List D)(n:Nat)(es:List D):cn cs r (n+1) (.tup [.str "and",.tup es])=es.all (cn cs r n):=by rw[En,if_neg<|by trivial,if_neg<|by trivial,if_pos rfl];rfl
theorem MC(cs:List<|Str×Str)(r:Str×List D)(n:Nat)(es:List D):cn cs r (n+1) (.tup [.str "or",.tup es])=es.any (cn cs r n):=by rw[En,if_neg<|by trivial,if_neg<|by trivial,if_neg<|by trivial];rfl
theorem w_{k:Str}(ha:Vg k a)(hb:Vg k b)(na:a≠.av)(nb:b≠.av):(∃i j,a=.int i/\b=.int j)\/∃i j,a=.str i/\b=.str j:=by obtain⟨a1,a2⟩:=ha;obtain⟨b1,b2⟩:=hb;cases a with|av=>exact absurd rfl na|int i=>(cases b with|av=>exact absurd rfl nb|int j=>exact .inl ⟨i,j,rfl,rfl⟩|str j=>(exfalso;unfold jk at a1 b1;simp only[ah,yV]at a1 b1;by_cases e:k ="number";rw[if_pos e]at b1;cases b1;rw[if_neg e]at a1;cases a1)|_=>cases b2)|str i=>(cases b with|av=>exact absurd rfl nb|str j=>exact .inr ⟨i,j,rfl,rfl⟩|int j=>(exfalso;unfold jk at a1 b1;simp only[ah,yV]at a1 b1;by_cases e:k ="number";rw[if_pos e]at a1;cases a1;rw[if_neg e]at b1;cases b1)|_=>cases b2)|_=>cases a2
theorem Eo(h:Vg "word" a)(n:a≠.av):∃z,a=.str z:=by obtain⟨h1,h2⟩:=h;cases a with|av=>exact absurd rfl n|str z=>exact⟨z,rfl⟩|int i=>(unfold jk at h1;rw[if_neg<|by trivial]at h1;cases h1)|_=>cases h2
theorem bA(h:ah a=false):a≠.av:=by rintro rfl;cases h
inductive ma (ds:List D) (S:au) (R:KD) (Z:KX):Prop where
 |mk (cs r c) (h0:ds=[.tup<|cs.map aA,aj r,.str c.1]) (h1:Gd cs) (h2:Wg cs r.2) (h3:c∈cs) (h4:R (ao cs r.2 c.1) S)
theorem dN(T:Txt w K mg t):Ok P w base T.cz 2 ma:=by
 refine T.cz.F.bL Aw ?_;obtain⟨cs,r,c,e,hg,hw,hc,q⟩;obtain⟨n1,n2⟩:=w9 hg hc;refine{_,(s1<|sr<|ix hr.u (ix hr.u (dv 1) di)<|bm zK PySem.F.slot_list_index PySem.F.type_list_index HS (aV T.mS (pB T) hr<|al 0 an)<|al 2 an),?_};refine !!!{cs,rfl,hg.1,λp hp=>?_};refine{{rfl,_,aa},_,rfl,(cs.map Prod.fst).map D.str,.str c.1,Rh cs c.1,rfl,aa,rfl,?_,{.str c.1,by rw[zf,n2];rfl,by show(c.1==c.1)=true;simp},?_,?_};rw[List.all_map];exact yg.mpr λ_ _=>rfl;intro m u hm hu;rw[zf]at hu;cases e:(cs.map Prod.fst)[m]? with|none=>(rw[e]at hu;cases hu)|some z'=>rw[e]at hu;cases hu;show(z'==c.1)=false;have:z'≠c.1:=λq=>(by subst q;obtain⟨b1,c1⟩:=ze.mp e;obtain⟨b2,c2⟩:=ze.mp n2;have:=(List.getElem_inj hg.2.1 (h₀:=b1) (h₁:=b2)).mp<|c1.trans c2.symm;lia);simpa using this
 exact{_,bW (qG hg hw hc).1,S,.new hp,q}
inductive gf (ds:List D) (S:au) (R:KD) (Z:KX):Prop where
 |mk (o a b c) (h0:ds=[.str o,a,b]) (h1:Vg c.2 a) (h2:Vg c.2 b) (h3:wZ o c b) (h4:R (.bl<|Em o a b) S)
theorem qf(T:Txt w K mg t):Ok P w base T.iI 1 gf:=by
 refine T.iI.F.bL p8 ?_;obtain⟨o,a,b,c,e,ha,hb,ho,q⟩;refine{_,(sc (si (bu bz hr.u (dv 0) ds) (s1<|sr<|cm bz hr.u (dv 1)<|dv 2) s0)<|sc (si (bu iE hr.u (dv 1) dn) (s1<|sr db) s0)<|sc (si (bu bz hr.u (dv 0) ds) (s1<|sr<|cm x8 hr.u (dv 1)<|dv 2) s0)<|sc (si (bu bz hr.u (dv 0) ds) (s1<|sr<|cm rn hr.u (dv 1)<|dv 2) s0)<|s1<|sr<|bm PySem.F.plainAttrs_str PySem.F.slot_str_startswith PySem.F.type_str_startswith HU (dv 1)<|al 2 an),?_};unfold Em at q;rcases ho with rfl|⟨nb,ho⟩;rw[if_pos rfl]at q;exact !!⟨lh (by trivial) !!⟨AJ ha.2 hb.2<|fo q⟩⟩;have ne:∀{A B:Bool},o≠"is"->R (.bl<|if o ="is" then A else B) S->R (.bl B) S:=λh q=>by rw[if_neg h]at q;exact q
 rcases ho with rfl|rfl|⟨rfl,hk⟩;rw[if_neg<|by trivial]at q;refine !!⟨bB (by trivial) !!⟨cA (λh=>?_) λh=>?_⟩⟩;rw[if_pos h]at q;exact fo q;rw[if_neg<|by rw[show ah a=false from h];exact zd,if_pos rfl]at q;refine !!⟨lh (by trivial) !!⟨?_⟩⟩;rcases w_ ha hb (bA h) nb with⟨i,j,rfl,rfl⟩|⟨i,j,rfl,rfl⟩<;>exact fo q;rw[if_neg<|by trivial]at q;refine !!⟨bB (by trivial) !!⟨cA (λh=>?_) λh=>?_⟩⟩;rw[if_pos h]at q;exact fo q;rw[if_neg<|by rw[show ah a=false from h];exact zd,if_neg<|by trivial,if_pos rfl]at q;refine !!⟨bB (by trivial) !!⟨lh (by trivial) !!⟨?_⟩⟩⟩;rcases w_ ha hb (bA h) nb with⟨i,j,rfl,rfl⟩|⟨i,j,rfl,rfl⟩<;>exact fo q;rw[if_neg<|by trivial]at q;refine !!⟨bB (by trivial) !!⟨cA (λh=>?_) λh=>?_⟩⟩;rw[if_pos h]at q;exact fo q;rw[if_neg<|by rw[show ah a=false from h];exact zd,if_neg<|by trivial,if_neg<|by trivial]at q;refine !!⟨bB (by trivial) !!⟨bB (by trivial) ?_⟩⟩;rw[hk]at ha hb;obtain⟨i,rfl⟩:=Eo ha<|bA h;obtain⟨j,rfl⟩:=Eo hb nb;exact !{rfl,_,rfl,i,j,rfl,rfl,fo q}
def Ri(n:Nat):kI:=λds S R _=>∃cs d r,ds=[.tup<|cs.map aA,d,aj r]/\Gd cs/\Sg cs n d/\Wg cs r.2/\R (.bl<|cn cs r n d) S
theorem kE(T:Txt w K mg t):∀n,Ok P w base T.passes (3+n) (Ri n)
 |0=>by refine T.passes.F.ok (k:=2) uR (by rintro ds S R Z ⟨_,_,_,e,_⟩;exact by rw[e];rfl) (by rintro gY A outer s H E ds S R Z hr ⟨cs,d,r,e,hg,hs,_⟩;exact hs.elim)
 |n+1=>by
  refine T.passes.F.ok (k:=3+n) uR (by rintro ds S R Z ⟨_,_,_,e,_⟩;rw[e];rfl) ?_;obtain⟨cs,d,r,e,hg,hs,hw,q⟩;refine{_,(sc (si (bu bz hr.u (ix hr.u (dv 1) di) ds) (s1<|sr db) s0)<|sc (si (bu bz hr.u (ix hr.u (dv 1) di) ds) (s1<|sr<|cm yY hr.u (ix hr.u (dv 2) di)<|ix hr.u (dv 1) di) s0)<|sc (si (bu bz hr.u (ix hr.u (dv 1) di) ds) (s1<|sr<|Ux<|aV T.passes (kE T n) hr<|al 0<|ac (ix hr.u (dv 1) di)<|al 2 an) s0)<|sc (si (bu bz hr.u (ix hr.u (dv 1) di) ds) (s1<|sr<|cb kZ T.k8 gJ<|ac (uH (N:=["inner","columns","row"]) (src:=[none,some 0,some 2]) (lO (ae Ah) ["columns","sieve","row"] rfl rfl<|by trivial) (NR<|ix hr.u (dv 1) di) (qx<|show(["inner","columns","row"]:List Str).Nodup by trivial) (a_ rfl) ba (λ_ _ _ _ _=>rB) λ_ _ _ _ _=>(aV T.passes (kE T n) hr<|al 1<|al 0<|al 2 an)) an) s0)<|sc (si (bu bz hr.u (ix hr.u (dv 1) di) ds) (s1<|sr<|cb UP T.VM PZ<|ac (uH (N:=["inner","columns","row"]) (src:=[none,some 0,some 2]) (lO (ae Ah) ["columns","sieve","row"] rfl rfl<|by trivial) (NR<|ix hr.u (dv 1) di) (qx<|show(["inner","columns","row"]:List Str).Nodup by trivial) (a_ rfl) ba (λ_ _ _ _ _=>rB) λ_ _ _ _ _=>(aV T.passes (kE T n) hr<|al 1<|al 0<|al 2 an)) an) s0)<|s1<|sr<|aV T.iI (qf T) hr<|ac (ix hr.u (dv 1) di)<|ac (aV T.cz (dN T) hr<|al 0<|al 2<|ac (ix hr.u (dv 1) di) an)<|ac (ix hr.u (dv 1) di) an),?_};rcases hs with (rfl|⟨ks,rfl,hk8,Cd⟩|⟨o,c,v,hc,hv,ho,rfl⟩)|⟨e,rfl,he⟩|⟨o,es,ho,rfl,MA,YY⟩;exact !!!⟨lh (by trivial)<|fo q⟩;refine !!!⟨bB (by trivial) !!!⟨lh (by trivial) ?_⟩⟩;refine !!!!{rfl,?_,?_};rw[List.all_map];exact yg.mpr λ_ _=>rfl;rw[Jh]at q;exact fo q;rw[V2]at q;have fin:∀Zq,gf [D.str o,ao cs r.2 c.1,v] S (λd S'=>Fo S'<|R d) Zq:=λ_=>{o,_,v,c,rfl,(qG hg hw hc).2,hv,ho,fo q};have h4:o ="is"\/o ="below"\/o ="above"\/o ="begins":=by rcases ho with h|⟨_,h|h|⟨h,_⟩⟩;exact .inl h;exact .inr<|.inl h;exact .inr<|.inr<|.inl h;exact .inr<|.inr<|.inr h
  rcases h4 with rfl|rfl|rfl|rfl;exact !!!⟨bB (by trivial) !!!⟨bB (by trivial) !!!⟨bB (by trivial) !!!⟨bB (by trivial) !!!⟨bB (by trivial) !!!!!!{cs,r,c,rfl,hg,hw,hc,_,rfl,_,rfl,fin _}⟩⟩⟩⟩⟩;exact !!!⟨bB (by trivial) !!!⟨bB (by trivial) !!!⟨bB (by trivial) !!!⟨bB (by trivial) !!!⟨bB (by trivial) !!!!!!{cs,r,c,rfl,hg,hw,hc,_,rfl,_,rfl,fin _}⟩⟩⟩⟩⟩;exact !!!⟨bB (by trivial) !!!⟨bB (by trivial) !!!⟨bB (by trivial) !!!⟨bB (by trivial) !!!⟨bB (by trivial) !!!!!!{cs,r,c,rfl,hg,hw,hc,_,rfl,_,rfl,fin _}⟩⟩⟩⟩⟩;exact !!!⟨bB (by trivial) !!!⟨bB (by trivial) !!!⟨bB (by trivial) !!!⟨bB (by trivial) !!!⟨bB (by trivial) !!!!!!{cs,r,c,rfl,hg,hw,hc,_,rfl,_,rfl,fin _}⟩⟩⟩⟩⟩;rw[Ji]at q;exact !!!⟨bB (by trivial) !!!⟨bB (by trivial) !!!⟨lh (by trivial) !!!!{cs,e,r,rfl,hg,he,hw,_,rfl,fo q}⟩⟩⟩;have hz:es.length<=1000:=by lia
  rcases ho with rfl|rfl;rw[Jj]at q;refine !!!⟨bB (by trivial) !!!⟨bB (by trivial) !!!⟨bB (by trivial) !!!⟨lh (by trivial) !!{_,.inl rfl,?_}⟩⟩⟩⟩;refine comp_map (λd=>.bl<|cn cs r n d) trivial hz (λd hd Q hQ=>!!!{cs,d,r,rfl,hg,YY d hd,hw,hQ}) λp hp=>?_;refine{.ref p,es.map<|cn cs r n,rfl,?_,S,.new hp,?_};show(S.set p<|.lst<|es.map _) p=_;rw[aa,zG];rfl;rw[all_map];exact q;rw[MC]at q;refine !!!⟨bB (by trivial) !!!⟨bB (by trivial) !!!⟨bB (by trivial) !!!⟨bB (by trivial) !!!⟨lh (by trivial) !!{_,.inl rfl,?_}⟩⟩⟩⟩⟩;refine comp_map (λd=>.bl<|cn cs r n d) trivial hz (λd hd Q hQ=>!!!{cs,d,r,rfl,hg,YY d hd,hw,hQ}) λp hp=>?_;refine{.ref p,es.map<|cn cs r n,rfl,?_,S,.new hp,?_};show(S.set p<|.lst<|es.map _) p=_;rw[aa,zG];rfl;rw[List.any_map];exact q
abbrev Row:=Str×List D
abbrev Part:=Str×Str×Str
theorem Rj{a b:Str}(h:a.cps.toList=b.cps.toList):a=b:=by obtain⟨x⟩:=a;obtain⟨y⟩:=b;exact congrArg Str.mk<|Array.ext' h
theorem Ep(a:Str):uz a a=false:=zB<|List.lt_irrefl _
theorem xa{a b:Str}(h:a≠b):uz b a=!uz a b:=by unfold uz;rw[yE];simp only[decide_eq_true_iff,Bool.not_eq_true',yn];constructor;exact λh1 h2=>List.lt_irrefl _<|List.lt_trans h1 h2;intro h1;by_cases h2:b.cps.toList<a.cps.toList;exact h2;exact absurd (Rj<|List.le_antisymm (List.not_lt.mp h2)<|List.not_lt.mp h1) h
theorem Rk(h1:uz a b=true)(h2:uz b c=true):uz a c=true:=zC<|List.lt_trans (zt h1)<|zt h2
theorem Er(a:D):ud a a=false:=by cases a<;>first|rfl|exact Ep _|exact zB (Int.lt_irrefl _)
theorem m_(ha:Vg k a)(hb:Vg k b)(na:a≠.av)(nb:b≠.av)(h:a≠b):ud b a=!ud a b:=by rcases w_ ha hb na nb with⟨i,j,rfl,rfl⟩|⟨i,j,rfl,rfl⟩;have lQ:i≠j:=λe=>h<|congrArg D.int e;show decide (j<i)=!decide (i<j);rw[yE];simp only[decide_eq_true_iff,Bool.not_eq_true',yn];lia;exact xa λe=>h<|congrArg D.str e
theorem Jl(h1:ud a b=true)(h2:ud b c=true):ud a c=true:=by cases a with|int i=>(cases b with|int j=>(cases c with|int l=>have h1:i<j:=zt h1;have h2:j<l:=zt h2;exact zC (by lia)|_=>cases h2)|_=>cases h1)|str i=>(cases b with|str j=>(cases c with|str l=>exact Rk h1 h2|_=>cases h2)|_=>cases h1)|_=>cases h1
theorem Jm(h:Vo a b):ud a b=true:=by cases a with|int i=>(cases b with|int j=>exact zC h|_=>exact h.elim)|str i=>(cases b with|str j=>exact zC h|_=>exact h.elim)|_=>exact h.elim
noncomputable def du(p:Part)(x y:D):Bool:=if (ah x != ah y)=true then ah x==decide (p.2.2 ="first") else ud x y==decide (p.2.1 ="up")
noncomputable def dm(cs:List<|Str×Str)(wy:Str):List Part->Row->Row->Bool|[],a,b=>uz a.1 b.1==decide (wy ="up")|p::ps,a,b=>if pJ (ao cs a.2 p.1) (ao cs b.2 p.1)=true then dm cs wy ps a b else du p (ao cs a.2 p.1) (ao cs b.2 p.1)
theorem bxor:((!x)==u)=!(x==u):=by cases x<;>cases u<;>rfl
theorem d_(h:ah x=true):x=.av:=by cases x<;>first|rfl|cases h
theorem u1(hx:Vg k x)(hy:Vg k y)(h:x≠y):du p y x=!du p x y:=by unfold du;cases nx:ah x with|true=>(cases ny:ah y with|true=>exact absurd ((d_ nx).trans (d_ ny).symm) h|false=>rw[if_pos<|by rfl,if_pos<|by rfl];cases decide (p.2.2 ="first")<;>rfl)|false=>cases ny:ah y with|true=>(rw[if_pos<|by rfl,if_pos<|by rfl];cases decide (p.2.2 ="first")<;>rfl)|false=>rw[if_neg<|by simp,if_neg<|by simp,m_ hx hy (bA nx) (bA ny) h,bxor]
theorem MD(hx:Vg k x)(hy:Vg k y)(hz:Vg k z)(hxy:x≠y)(hyz:y≠z)(h1:du p x y=true)(h2:du p y z=true):x≠z/\du p x z=true:=by
 have hxz:x≠z:=by rintro rfl;have:=u1 (p:=p) hx hy hxy;rw[h1,h2]at this;cases this
 refine{hxz,?_};unfold du at h1 h2⊢;cases nx:ah x with|true=>(cases ny:ah y with|true=>exact absurd ((d_ nx).trans (d_ ny).symm) hxy|false=>rw[nx,ny,if_pos<|by rfl]at h1;cases nz:ah z with|true=>exact absurd ((d_ nx).trans (d_ nz).symm) hxz|false=>rw[if_pos<|by rfl];exact h1)|false=>cases ny:ah y with|true=>(rw[nx,ny,if_pos<|by rfl]at h1;cases nz:ah z with|true=>exact absurd ((d_ ny).trans (d_ nz).symm) hyz|false=>rw[ny,nz,if_pos<|by rfl]at h2;cases e:decide (p.2.2 ="first")<;>rw[e]at h1 h2<;>first|cases h1;done|cases h2;done)|false=>rw[nx,ny,if_neg<|by simp]at h1;cases nz:ah z with|true=>rw[ny,nz,if_pos<|by rfl]at h2;rw[if_pos<|by rfl];exact h2|false=>rw[ny,nz,if_neg<|by simp]at h2;rw[if_neg<|by simp];cases e:decide (p.2.1 ="up") with|true=>rw[e]at h1 h2;rw[Jl (a:=x) (b:=y) (c:=z) (by simpa using h1)<|by simpa using h2];rfl|false=>rw[e]at h1 h2;have h1:ud x y=false:=(by simpa using h1);have h2:ud y z=false:=(by simpa using h2);have a1:=m_ hx hy (bA nx) (bA ny) hxy;have a2:=m_ hy hz (bA ny) (bA nz) hyz;rw[h1]at a1;rw[h2]at a2;have a3:=Jl a2 a1;have a4:=m_ hx hz (bA nx) (bA nz) hxz;rw[a3]at a4;cases q:ud x z with|true=>(rw[q]at a4;cases a4)|false=>rfl
def Pin(cs:List<|Str×Str)(ps:List Part):Prop:=∀p∈ps,∃c∈cs,c.1=p.1
section
variable{cs:List (Str×Str)}{wy:Str}
theorem Pin.tail(h:Pin cs<|p::ps):Pin cs ps:=λq hq=>h q<|zh _ hq
theorem xb(hg:Gd cs)(h:Pin cs<|p::ps):∃k,∀ws,Wg cs ws->Vg k (ao cs ws p.1):=by obtain⟨c,hc,e⟩:=h p zm;rw[<-e];exact{c.2,λws hw=>(qG hg hw hc).2}
theorem AK(hg:Gd cs):∀{ps:List Part}{a b:Row},Pin cs ps->Wg cs a.2->Wg cs b.2->a.1≠b.1->dm cs wy ps b a=!dm cs wy ps a b|[],a,b,_,_,_,h=>by show(uz b.1 a.1==_)=!(uz a.1 b.1==_);rw[xa h,bxor]|p::ps,a,b,hp,ha,hb,h=>by obtain⟨k,hk⟩:=xb hg hp;have va:=hk _ ha;have vb:=hk _ hb;unfold dm;by_cases e:ao cs a.2 p.1=ao cs b.2 p.1;rw[if_pos<|(dF vb.2 va.2).mpr e.symm,if_pos<|(dF va.2 vb.2).mpr e];exact AK hg hp.tail ha hb h;rw[if_neg λq=>e ((dF vb.2 va.2).mp q).symm,if_neg λq=>e<|(dF va.2 vb.2).mp q];exact u1 va vb e
def Rg(cs:List<|Str×Str)(rs:List Row):Prop:=(∀r∈rs,Wg cs r.2)/\(rs.map Prod.fst).Nodup
theorem Rg.perm(h:Rg cs rs)(p:cH.Perm rs):Rg cs cH:={λr hr=>h.1 r<|p.mem_iff.mp hr,(p.map _).nodup_iff.mpr h.2}
theorem Rg.sub(h:Rg cs rs)(p:cH.Sublist rs):Rg cs cH:={λr hr=>h.1 r<|p.subset hr,h.2.sublist<|p.map _}
theorem ME(hg:Gd cs)(hp:Pin cs ps)(hr:Rg cs m)(hl:l.Pairwise λa b=>dm cs wy ps a b=true)(hm:m.Pairwise λa b=>dm cs wy ps a b=true)(pm:l.Perm m):l=m:=by refine List.Perm.eq_of_pairwise (le:=λa b=>dm cs wy ps a b=true) (λa b ha hb h1 h2=>?_) hl hm pm;have ha:=pm.mem_iff.mp ha;by_cases e:a.1=b.1;exact gD (f:=Prod.fst) hr.2 ha hb e;have:=AK (wy:=wy) hg hp (hr.1 a ha) (hr.1 b hb) e;rw[h1,h2]at this;cases this
end
theorem CT{l m:List Nat}(hl:l.Nodup)(hm:m.Nodup)(h:∀x,x∈l↔x∈m):l.Perm m:=by induction l generalizing m with|nil=>(cases m with|nil=>exact .nil|cons y m=>exact absurd ((h y).mpr zm)<|by simp)|cons x l ih=>obtain⟨n1,n2⟩:=yp.mp hl;have hx:=(h x).mp zm;refine .trans ((ih n2 (hm.erase x) λy=>?_).cons x) (List.perm_cons_erase hx).symm;rw[hm.mem_erase_iff];constructor;intro hy;exact{λe=>n1<|e ▸ hy,(h y).mp<|zh _ hy};rintro⟨h1,h2⟩;rcases zi.mp ((h y).mpr h2) with e|e;exact absurd e h1;exact e
theorem map_range(d:α)(xs:List α):(List.range xs.length).map (λk=>xs.getD k d)=xs:=by refine List.ext_getElem (by simp) λi h1 h2=>?_;simp[zg h2]
theorem Gr{α:Type}(d:α){xs:List α}{g:Nat->Nat}(lt:∀k,k<xs.length->g k<xs.length)(inj:∀i j,i<xs.length->j<xs.length->g i=g j->i=j):((List.range xs.length).map λk=>xs.getD (g k) d).Perm xs:=by
 have nd:((List.range xs.length).map g).Nodup:=by refine List.pairwise_map.mpr<|List.nodup_range.imp_of_mem λ{a b} ha hb n e=>n<|inj a b (zV.mp ha) (zV.mp hb) e
 have sub:∀x∈(List.range xs.length).map g,x∈List.range xs.length:=λx hx=>by obtain⟨k,hk,rfl⟩:=zj.mp hx;exact zV.mpr<|lt k<|zV.mp hk
 have p:((List.range xs.length).map g).Perm (List.range xs.length):=CT nd List.nodup_range λx=>by refine{sub x,λhx=>?_};by_cases h:x∈(List.range xs.length).map g;exact h;exfalso;have:=sub_len nd (m:=(List.range xs.length).erase x) λy hy=>(List.Nodup.mem_erase_iff List.nodup_range).mpr {λe=>h<|e ▸ hy,sub y hy};rw[zb,List.length_erase_of_mem hx,List.length_range]at this;have:=zV.mp hx;lia
 have e:((List.range xs.length).map λk=>xs.getD (g k) d)=((List.range xs.length).map g).map λk=>xs.getD k d:=by rw[zG];rfl
 rw[e];have:=p.map λk=>xs.getD k d;rw[map_range]at this;exact this
theorem Gs{α:Type}(d:α){xs:List α}{g:Nat->Nat}{r:α->α->Prop}(h:∀i j,i<j->j<xs.length->r (xs.getD (g i) d) (xs.getD (g j) d)):((List.range xs.length).map λk=>xs.getD (g k) d).Pairwise r:=by rw[List.pairwise_map,List.pairwise_iff_getElem];intro i j hi hj lQ;rw[List.length_range]at hj;rw[List.getElem_range,List.getElem_range];exact h i j lQ hj
noncomputable def r0:Row:=("",[])
theorem getD_map{rs:List Row}{j:Nat}(h:j<rs.length):(rs.map aj).getD j .av=aj (rs.getD j r0):=by rw[zJ,zJ,zf,zg h];rfl
theorem getD_mem{rs:List Row}{j:Nat}(h:j<rs.length):rs.getD j r0∈rs:=by rw[zJ,zg h];exact List.getElem_mem h
theorem ng{rs:List Row}{b:Bool}{f:D->D}{g:Nat->Nat}(h:QF b (λj=>f<|(rs.map aj).getD j .av) (rs.map aj).length g): ∃cH:List Row,(List.range (rs.map aj).length).map (λk=>(rs.map aj).getD (g k) .av)=cH.map aj/\cH.Perm rs/\∀q r:Row->Row->Prop,rs.Pairwise q->(∀x y,x∈rs->y∈rs->(if b=true then Vo (f<|aj y) (f<|aj x) else Vo (f<|aj x) (f<|aj y))->r x y)->(∀x y,x∈rs->y∈rs->f (aj x)=f (aj y)->q x y->r x y)->cH.Pairwise r:=by have hn:(rs.map aj).length=rs.length:=zb _;rw[hn]at h⊢;refine{(List.range rs.length).map λk=>rs.getD (g k) r0,?_,Gr r0 h.lt h.inj,λq r hq h1 h2=>Gs r0 λi j lQ hj=>?_};rw[zG];exact zW λk hk=>getD_map<|h.lt k<|zV.mp hk;have gi:=h.lt i<|Nat.lt_trans lQ hj;have gj:=h.lt j hj;have o:=h.ord i j lQ hj;rw[getD_map gi,getD_map gj]at o;rcases o with o|⟨o,l⟩;exact h1 _ _ (getD_mem gi) (getD_mem gj) o;refine h2 _ _ (getD_mem gi) (getD_mem gj) o ?_;have:=List.pairwise_iff_getElem.mp hq (g i) (g j) gi gj l;rw[zJ,zJ,zg gi,zg gj];exact this
section
variable{cs:List (Str×Str)}{wy:Str}
noncomputable def valued(cs:List<|Str×Str)(p:Part)(r:Row):Bool:=!ah (ao cs r.2 p.1)
theorem MF(h1:ah x=true)(h2:ah y=true):pJ x y=true:=by rw[d_ h1,d_ h2];rfl
theorem xc(h:ah x≠ah y):pJ x y=false:=by cases x<;>cases y<;>first|rfl|exact absurd rfl h
theorem Gu{ps:List Part}{p:Part}{L V:List Row}(hL:L.Pairwise λa b=>dm cs wy ps a b=true)(hV:V.Perm<|L.filter<|valued cs p)(Xz:V.Pairwise λa b=>dm cs wy (p::ps) a b=true): (if p.2.2 ="first" then L.filter (λr=>!valued cs p r)++V else V++L.filter (λr=>!valued cs p r)).Perm L/\(if p.2.2 ="first" then L.filter (λr=>!valued cs p r)++V else V++L.filter (λr=>!valued cs p r)).Pairwise λa b=>dm cs wy (p::ps) a b=true:=by
 have hN:(L.filter λr=>!valued cs p r).Pairwise λa b=>dm cs wy (p::ps) a b=true:=by refine(hL.sublist List.filter_sublist).imp_of_mem λ{a b} ha hb h=>?_;have ha:=(yD.mp ha).2;have hb:=(yD.mp hb).2;unfold valued at ha hb;rw[Bool.not_not]at ha hb;show(if pJ (ao cs a.2 p.1) (ao cs b.2 p.1)=true then dm cs wy ps a b else _)=true;rw[if_pos<|MF ha hb];exact h
 have Oj:∀a∈L.filter (λr=>!valued cs p r),∀b∈V,ah (ao cs a.2 p.1)=true/\ah (ao cs b.2 p.1)=false:=λa ha b hb=>by have ha:=(yD.mp ha).2;have hb:=(yD.mp<|hV.mem_iff.mp hb).2;unfold valued at ha hb;rw[Bool.not_not]at ha;exact{ha,by simpa using hb}
 have pm:(L.filter (λr=>!valued cs p r)++V).Perm L:=(List.Perm.append_left _ hV).trans<|List.perm_append_comm.trans<|List.filter_append_perm (valued cs p) L;by_cases e:p.2.2 ="first";rw[if_pos e];refine{pm,List.pairwise_append.mpr {hN,Xz,λa ha b hb=>?_}};obtain⟨na,nb⟩:=Oj a ha b hb;show(if pJ (ao cs a.2 p.1) (ao cs b.2 p.1)=true then dm cs wy ps a b else du p (ao cs a.2 p.1) (ao cs b.2 p.1))=true;rw[xc<|by rw[na,nb];nofun,if_neg zd];unfold du;rw[na,nb,if_pos<|by rfl,zC e];rfl;rw[if_neg e];refine{List.perm_append_comm.trans pm,List.pairwise_append.mpr {Xz,hN,λa ha b hb=>?_}};obtain⟨na,nb⟩:=Oj b hb a ha;show(if pJ (ao cs a.2 p.1) (ao cs b.2 p.1)=true then dm cs wy ps a b else du p (ao cs a.2 p.1) (ao cs b.2 p.1))=true;rw[xc<|by rw[na,nb];nofun,if_neg zd];unfold du;rw[na,nb,if_pos<|by rfl,zB e];rfl
end
noncomputable abbrev qK:Str:="sorted_by_keys.<locals>.<lambda>"
noncomputable abbrev qV:Str:="sorted_by_values.<locals>.<lambda>"
noncomputable def Rl:D->D|.tup (x::_)=>x|_=>.av
noncomputable def CU(cs:List<|Str×Str)(z:Str):D->D|.tup [_,.tup ws]=>ao cs ws z|_=>.av
inductive Jn (t:eQ) (ds:List D) (S:au) (R:KD) (Z:KX):Prop where
 |mk (cs:List<|Str×Str) (l:Addr) (rs:List Row) (wy:Str) (h0:ds=[.ref l,.str wy]) (h1:kP wy=true) (h2:S l=some (.lst<|rs.map aj)) (h3:rs.length<64) (h4:Rg cs rs) (h5:S t.aR=some (.tab qK)) (h6:∀(cH:List Row)(p:Addr),cH.Perm rs->(cH.Pairwise λa b=>dm cs wy [] a b=true)->S p=none->R (.ref p) (S.set p<|.lst<|cH.map aj))
theorem cF{S S2:au}{p:Addr}{c:Ce}(h:Sub S S2):Sub (S.set p c) (S2.set p c):=λb e hb=>by by_cases q:b=p;subst q;rw[aa]at hb⊢;exact hb;rw[ag q]at hb⊢;exact h b e hb
theorem bq{S S2:au}{p:Addr}(h:Sub S S2)(e:S2 p=none):S p=none:=by cases q:S p with|none=>rfl|some c=>rw[h p c q]at e;cases e
theorem xf{z:Str}(h:kP z=true):z ="up"\/z ="down":=by unfold kP at h;simpa using h
theorem Rg.unlike(h:Rg cs rs):rs.Pairwise λa b=>a.1≠b.1:=List.pairwise_map.mp h.2
theorem nh(T:Txt w K mg t)(B:Bm mg base):Ok P w base T.fQ 4 (Jn t):=by
 refine T.fQ.F.okC (k:=3) mV (by rintro ds S R Z ⟨_,_,_,_,e,_⟩;rw[e];rfl) ?_;rintro gY A outer s H E ds S R Z sZ hr ⟨cs,l,rs,wy,e,Ke,hl,hn,sC,ht,q⟩;subst e;have Cd:z_ ((rs.map aj).map Rl):=.inl {rs.map Prod.fst,by rw[zG,zG];rfl};have un:rs.Pairwise λa b=>a.1≠b.1:=sC.unlike;have Nm:(rs.map aj).length<64:=by rw[zb];exact hn
 refine{_,(sc (si (bu bz hr.u (dv 1) ds) (s1<|sr<|N5 (N:=["row"]) (src:=[none]) (sZ.trans T.gA) ⟨T.dU,B⟩ hr (lO (ae h_) ["rows","way"] rfl rfl<|by trivial) (dv 0) (λ_ _ _ _=>(ix (hr.in1.in1.deeper _).units (dv 0) di)) T.ie fC) s0)<|s1<|sr<|Vq (N:=["row"]) (src:=[none]) (sZ.trans T.gA) ⟨T.dU,B⟩ hr (lO (ae h_) ["rows","way"] rfl rfl<|by trivial) (dv 0) (λ_ _ _ _=>(ix (hr.in1.in1.deeper _).units (dv 0) di)) T.ie fC),?_};rcases xf Ke with rfl|rfl;refine !!⟨bB (by trivial) !{l,rs.map aj,Rl,rfl,hl,Nm,ht,Cd,λx hx S' hs Qk hQ=>?_,λg S2 p hg hs hp=>?_}⟩;obtain⟨r,hr,rfl⟩:=zj.mp hx;exact !!⟨hQ S'<|.refl _⟩;obtain⟨cH,e,pm,h⟩:=ng hg;rw[e];refine{S.set p<|.lst<|cH.map aj,cF hs,q cH p pm (h _ _ un (λx y hx hy eC=>?_) λx y hx hy e ne=>absurd (D.str.inj e) ne)<|bq hs hp};show(uz x.1 y.1==decide (("up": Str) ="up"))=true;have:uz x.1 y.1=true:=zC eC;rw[this];rfl;refine !!⟨lh (by trivial) !{l,rs.map aj,Rl,rfl,hl,Nm,ht,Cd,λx hx S' hs Qk hQ=>?_,λg S2 p hg hs hp=>?_}⟩;obtain⟨r,hr,rfl⟩:=zj.mp hx;exact !!⟨hQ S'<|.refl _⟩;obtain⟨cH,e,pm,h⟩:=ng hg;rw[e];refine{S.set p<|.lst<|cH.map aj,cF hs,q cH p pm (h _ _ un (λx y hx hy eC=>?_) λx y hx hy e ne=>absurd (D.str.inj e) ne)<|bq hs hp};show(uz x.1 y.1==decide (("down": Str) ="up"))=true;have:uz y.1 x.1=true:=zC eC;by_cases e:x.1=y.1;rw[e,Ep]at this;cases this;rw[xa e]at this;have h2:uz x.1 y.1=false:=by simpa using this
 rw[h2,zB<|by trivial];rfl
inductive Jo (t:eQ) (ds:List D) (S:au) (R:KD) (Z:KX):Prop where
 |mk (cs:List<|Str×Str) (ps:List Part) (p:Part) (wy:Str) (l:Addr) (rs:List Row) (h0:ds=[.tup<|cs.map aA,p3 p,.ref l]) (h1:Gd cs) (h2:Pin cs<|p::ps) (h3:kP p.2.1=true) (h4:S l=some (.lst<|rs.map aj)) (h5:rs.length<64) (h6:Rg cs rs) (h7:(∀r∈rs,valued cs p r=true)) (h8:(rs.Pairwise λa b=>dm cs wy ps a b=true)) (h9:S t.aL=some (.tab qV)) (h10:∀(cH:List Row)(a:Addr),cH.Perm rs->(cH.Pairwise λa b=>dm cs wy (p::ps) a b=true)->S a=none->R (.ref a) (S.set a<|.lst<|cH.map aj))
theorem CV{α:Type}{f:α->D}{β:Type}{mk:β->D} : ∀{l:List α},(∀x∈l,∃b,f x=mk b)->∃bs:List β,l.map f=bs.map mk|[],_=>{[],rfl}|x::l,h=>by obtain⟨b,e⟩:=h x zm;obtain⟨bs,e2⟩:=CV λy hy=>h y<|zh _ hy;exact{b::bs,by rw[zu,e,e2];rfl}
theorem Gv{cs:List<|Str×Str}{p:Part}{k:Str}{rs:List Row}(hk:∀r∈rs,Vg k<|ao cs r.2 p.1)(hv:∀r∈rs,valued cs p r=true):z_ ((rs.map aj).map<|CU cs p.1):=by
 rw[zG];have nn:∀r∈rs,ao cs r.2 p.1≠.av:=λr hr=>bA (by have:=hv r hr;unfold valued at this;simpa using this);by_cases e:k ="number";refine .inr<|CV λr hr=>?_;have h1:=hk r hr;have h2:=nn r hr;show ∃b,ao cs r.2 p.1=.int b;generalize ao cs r.2 p.1=v at h1 h2;cases v with|av=>exact absurd rfl h2|int i=>exact⟨i,rfl⟩|str z=>(have h1:=h1.1;unfold jk at h1;simp only[ah,yV]at h1;rw[if_pos e]at h1;cases h1)|_=>cases h1.2
 refine .inl<|CV λr hr=>?_;have h1:=hk r hr;have h2:=nn r hr;show ∃b,ao cs r.2 p.1=.str b;generalize ao cs r.2 p.1=v at h1 h2;cases v with|av=>exact absurd rfl h2|str i=>exact⟨i,rfl⟩|int z=>(have h1:=h1.1;unfold jk at h1;simp only[ah,yV]at h1;rw[if_neg e]at h1;cases h1)|_=>cases h1.2
theorem Jp{cs:List<|Str×Str}{wy:Str}{ps:List Part}{p:Part}{x y:Row}(nx:valued cs p x=true)(ny:valued cs p y=true)(ne:pJ (ao cs x.2 p.1) (ao cs y.2 p.1)=false)(h:(ud (ao cs x.2 p.1) (ao cs y.2 p.1)==decide (p.2.1 ="up"))=true):dm cs wy (p::ps) x y=true:=by
 unfold valued at nx ny;have nx:ah (ao cs x.2 p.1)=false:=by simpa using nx
 have ny:ah (ao cs y.2 p.1)=false:=by simpa using ny
 show(if pJ (ao cs x.2 p.1) (ao cs y.2 p.1)=true then dm cs wy ps x y else du p (ao cs x.2 p.1) (ao cs y.2 p.1))=true;rw[ne,if_neg zd];unfold du;rw[nx,ny,if_neg<|by simp];exact h
theorem Jq{x y:D}(h:ud x y=true):pJ x y=false:=by cases x with|int i=>(cases y with|int j=>(exact zB λe=>by rw[e,Er]at h;cases h)|_=>cases h)|str i=>(cases y with|str j=>(exact zB λe=>by rw[e,Er]at h;cases h)|_=>cases h)|_=>cases h
theorem Jr(x y:D):pJ x y=pJ y x:=by cases x<;>cases y<;>first|rfl|exact yN.mpr ⟨Eq.symm,Eq.symm⟩
theorem kQ(T:Txt w K mg t)(B:Bm mg base):Ok P w base T.eI 6 (Jo t):=by
 refine T.eI.F.okC (k:=5) kN (by rintro ds S R Z ⟨_,_,_,_,_,_,e,_⟩;rw[e];rfl) ?_;rintro gY A outer s H E ds S R Z sZ hr ⟨cs,ps,p,wy,l,rs,e,hg,Js,Ke,hl,hn,sC,hv,V3,ht,q⟩;subst e;obtain⟨c,hc,ec⟩:=Js p zm;obtain⟨k,hk⟩:=xb hg Js;have Cd:z_ ((rs.map aj).map<|CU cs p.1):=Gv (λr hr=>hk _<|sC.1 r hr) hv;have Nm:(rs.map aj).length<64:=by rw[zb];exact hn
 have same:∀x y:Row,x∈rs->y∈rs->CU cs p.1 (aj x)=CU cs p.1 (aj y)->dm cs wy ps x y=true->dm cs wy (p::ps) x y=true:=λx y hx hy e h=>by show(if pJ (ao cs x.2 p.1) (ao cs y.2 p.1)=true then dm cs wy ps x y else _)=true;rw[if_pos<|(dF (hk _<|sC.1 x hx).2 (hk _<|sC.1 y hy).2).mpr e];exact h
 have step:∀x,x∈rs.map aj->∀Qk:KD,∀S':au,Qk (CU cs p.1 x) S'->∀Zq,ma [D.tup<|cs.map aA,x,.str p.1] S' Qk Zq:=λx hx Qk S' hQ _=>by obtain⟨r,hr,rfl⟩:=zj.mp hx;exact{cs,r,c,by rw[ec],hg,sC.1 r hr,hc,by rw[ec];exact hQ}
 refine{_,(sc (si (bu bz hr.u (ix hr.u (dv 1) di) ds) (s1<|sr<|N5 (N:=["row","columns","part"]) (src:=[none,some 0,some 1]) (sZ.trans T.fj) ⟨T.dk,B⟩ hr (lO (ae fM) ["columns","part","rows"] rfl rfl<|by trivial) (dv 2) (λ_ _ _ _=>(cf ((dN T).mono<|by decide) (hr.in1.in1.deeper _) T.cz.m T.cz.k T.cz.b d0<|al 1<|al 0<|ac (ix (hr.in1.in1.deeper _).units (dv 2) di) an)) T.ie fC) s0)<|s1<|sr<|Vq (N:=["row","columns","part"]) (src:=[none,some 0,some 1]) (sZ.trans T.fj) ⟨T.dk,B⟩ hr (lO (ae fM) ["columns","part","rows"] rfl rfl<|by trivial) (dv 2) (λ_ _ _ _=>(cf ((dN T).mono<|by decide) (hr.in1.in1.deeper _) T.cz.m T.cz.k T.cz.b d0<|al 1<|al 0<|ac (ix (hr.in1.in1.deeper _).units (dv 2) di) an)) T.ie fC),?_};rcases xf Ke with e1|e1;refine !!!⟨bB (by rw[e1];decide +kernel) !{l,rs.map aj,CU cs p.1,rfl,hl,Nm,ht,Cd,λx hx S' hs Qk hQ=>!!!!⟨step x hx _ S' (hQ S'<|.refl _) _⟩,λg S2 a hg hs ha=>?_}⟩;obtain⟨cH,e,pm,h⟩:=ng hg;rw[e];refine{S.set a<|.lst<|cH.map aj,cF hs,q cH a pm (h _ _ V3 (λx y hx hy eC=>?_) same)<|bq hs ha};have eC:=Jm (a:=ao cs x.2 p.1) (b:=ao cs y.2 p.1) eC;exact Jp (hv x hx) (hv y hy) (Jq eC) (by rw[eC,zC e1];rfl);refine !!!⟨lh (by rw[e1];decide +kernel) !{l,rs.map aj,CU cs p.1,rfl,hl,Nm,ht,Cd,λx hx S' hs Qk hQ=>!!!!⟨step x hx _ S' (hQ S'<|.refl _) _⟩,λg S2 a ZK hs ha=>?_}⟩;obtain⟨cH,e,pm,h⟩:=ng ZK;rw[e];refine{S.set a<|.lst<|cH.map aj,cF hs,q cH a pm (h _ _ V3 (λx y hx hy eC=>?_) same)<|bq hs ha};have eC:=Jm (a:=ao cs y.2 p.1) (b:=ao cs x.2 p.1) eC;have ne:=Jq eC;refine Jp (hv x hx) (hv y hy) (by rw[Jr];exact ne) ?_;have nn:∀r∈rs,ao cs r.2 p.1≠.av:=λr hr=>bA (by have:=hv r hr;unfold valued at this;simpa using this);have Ml:ao cs x.2 p.1≠ao cs y.2 p.1:=λe=>by have:=(dF (hk _<|sC.1 y hy).2 (hk _<|sC.1 x hx).2).mpr e.symm;rw[ne]at this;cases this
 have:=m_ (hk _<|sC.1 x hx) (hk _<|sC.1 y hy) (nn x hx) (nn y hy) Ml;rw[eC]at this;have h2:ud (ao cs x.2 p.1) (ao cs y.2 p.1)=false:=by simpa using this
 rw[h2,e1,zB<|by trivial];rfl
def Tb(t:eQ)(S:au):Prop:=S t.aR=some (.tab qK)/\S t.aL=some (.tab qV)
theorem Tb.sub{t:eQ}{S S':au}(h:Tb t S)(s:Sub S S'):Tb t S':={s _ _ h.1,s _ _ h.2}
noncomputable def Es(b:Bool)(cs:List<|Str×Str)(p:Part):D->Bool|.tup [_,.tup ws]=>ah (ao cs ws p.1)==b|_=>false
theorem oH{rs:List Row}{f:D->Bool}{g:Row->Bool}(h:∀r,f (aj r)=g r):((rs.map aj).filter f).map id=(rs.filter g).map aj:=by rw[List.map_id,List.filter_map];exact congrArg (List.map aj)<|List.filter_congr λr _=>h r
inductive Jt (t:eQ) (ds:List D) (S:au) (R:KD) (Z:KX):Prop where
 |mk (cs:List<|Str×Str) (ps:List Part) (p:Part) (wy:Str) (l:Addr) (rs:List Row) (h0:ds=[.tup<|cs.map aA,p3 p,.ref l]) (h1:Gd cs) (h2:Pin cs<|p::ps) (h3:kP p.2.1=true) (h4:S l=some (.lst<|rs.map aj)) (h5:rs.length<64) (h6:Rg cs rs) (h7:(rs.Pairwise λa b=>dm cs wy ps a b=true)) (h8:Tb t S) (h9:∀(cH:List Row)(a:Addr),cH.Perm rs->(cH.Pairwise λa b=>dm cs wy (p::ps) a b=true)->S a=none->R (.ref a) (S.set a<|.lst<|cH.map aj))
theorem nj(T:Txt w K mg t)(B:Bm mg base):Ok P w base T.fR 7 (Jt t):=by
 refine T.fR.F.bL cE ?_;obtain⟨cs,ps,p,wy,l,rs,e,hg,Js,Ke,hl,hn,sC,V3,ht,q⟩;obtain⟨c,hc,ec⟩:=Js p zm;have hz:(rs.map aj).length<=1000:=by rw[zb];lia
 refine{_,(sc (Qt (i:=3) (N:=["row","columns","part"]) (src:=[none,some 0,some 1]) cE.nd (lO (ae ia) ["columns","part","rows","without","valued"] rfl rfl<|by trivial) (il<|dv 2) (qx<|show(["row","columns","part"]:List Str).Nodup by trivial) (a_ rfl) ba (λ_ _ _ _ _=>(if1<|bu iE hr.u (aV T.cz (dN T) hr<|al 1<|al 0<|ac (ix hr.u (dv 2) di) an) dn)) λ_ _ _ _ _=>(dv 0))<|sc (Qt (i:=4) (N:=["row","columns","part"]) (src:=[none,some 0,some 1]) cE.nd (lO (ae ia) ["columns","part","rows","without","valued"] rfl rfl<|by trivial) (il<|dv 2) (qx<|show(["row","columns","part"]:List Str).Nodup by trivial) (a_ rfl) ba (λ_ _ _ _ _=>(if1<|bu nR hr.u (aV T.cz (dN T) hr<|al 1<|al 0<|ac (ix hr.u (dv 2) di) an) dn)) λ_ _ _ _ _=>(dv 0))<|sc (b_ (i:=4) cE.nd<|aV T.eI (kQ T B) hr<|al 0<|al 1<|al 4 an)<|s1<|sr<|LF (bu bz hr.u (ix hr.u (dv 1) di) ds) (bo aY hr.u (dv 3)<|dv 4)<|bo aY hr.u (dv 4)<|dv 3),?_};refine !{_,hl,?_};refine kB (Es true cs p) id hl hz (λd hd Q Q' hQ Q3=>?_) λp1 AI=>?_;obtain⟨r,hr,rfl⟩:=zj.mp hd;refine !!!!{cs,r,c,(show[D.tup<|cs.map aA,aj r,D.str p.1]=[_,_,D.str c.1] by rw[ec]),hg,sC.1 r hr,hc,?_};rw[ec];refine{_,rfl,cA (λh=>!⟨hQ ?_⟩) λh=>Q3 ?_};show(ah (ao cs r.2 p.1)==true)=true;rw[show ah (ao cs r.2 p.1)=true from h];rfl;show(ah (ao cs r.2 p.1)==true)=false;rw[show ah (ao cs r.2 p.1)=false from h];rfl;have e1:((rs.map aj).filter<|Es true cs p).map id=(rs.filter λr=>!valued cs p r).map aj:=oH λr=>by show(ah (ao cs r.2 p.1)==true)=!valued cs p r;unfold valued;cases ah (ao cs r.2 p.1)<;>rfl
 rw[show({rs.map aj,λS=>uF S (.ref l)<|rs.map aj}:s_).xs=rs.map aj from rfl,e1];have Rm:Sub S (S.set p1<|.lst<|(rs.filter λr=>!valued cs p r).map aj):=.new AI;have h1:(S.set p1<|.lst<|(rs.filter λr=>!valued cs p r).map aj) p1=some (.lst<|(rs.filter λr=>!valued cs p r).map aj):=aa;generalize S.set p1 (.lst<|(rs.filter λr=>!valued cs p r).map aj)=S1 at Rm h1⊢;have GS:=Rm _ _ hl;refine !{_,GS,?_};refine kB (Es false cs p) id GS hz (λd hd Q Q' hQ Q3=>?_) λp2 jf=>?_;obtain⟨r,hr,rfl⟩:=zj.mp hd;refine !!!!{cs,r,c,(show[D.tup<|cs.map aA,aj r,D.str p.1]=[_,_,D.str c.1] by rw[ec]),hg,sC.1 r hr,hc,?_};rw[ec];refine{_,rfl,cA (λh=>!⟨hQ ?_⟩) λh=>Q3 ?_};show(ah (ao cs r.2 p.1)==false)=true;rw[show ah (ao cs r.2 p.1)=false from nt h];rfl;show(ah (ao cs r.2 p.1)==false)=false;rw[show ah (ao cs r.2 p.1)=true from nf h];rfl;have e2:((rs.map aj).filter<|Es false cs p).map id=(rs.filter<|valued cs p).map aj:=oH λr=>by show(ah (ao cs r.2 p.1)==false)=valued cs p r;unfold valued;cases ah (ao cs r.2 p.1)<;>rfl
 rw[show({rs.map aj,λS=>uF S (.ref l)<|rs.map aj}:s_).xs=rs.map aj from rfl,e2];have J4:Sub S (S1.set p2<|.lst<|(rs.filter<|valued cs p).map aj):=Rm.trans<|.new jf;have h21:(S1.set p2<|.lst<|(rs.filter<|valued cs p).map aj) p1=_:=(ag<|gZ h1 jf).trans h1;have h22:(S1.set p2<|.lst<|(rs.filter<|valued cs p).map aj) p2=_:=aa;generalize S1.set p2 (.lst<|(rs.filter<|valued cs p).map aj)=S2 at J4 h21 h22⊢;have fl:(rs.filter<|valued cs p).length<=rs.length:=List.length_filter_le _ _;have fl2:(rs.filter λr=>!valued cs p r).length<=rs.length:=List.length_filter_le _ _;refine !!!{cs,ps,p,wy,p2,rs.filter<|valued cs p,rfl,hg,Js,Ke,h22,by lia,sC.sub List.filter_sublist,λr hr=>(yD.mp hr).2,V3.sublist List.filter_sublist,(ht.sub J4).2,λV p3 hV Xz Xx=>?_};obtain⟨pm,pw⟩:=Gu V3 hV Xz;have h31:(S2.set p3<|.lst<|V.map aj) p1=_:=(ag<|gZ h21 Xx).trans h21;have h33:(S2.set p3<|.lst<|V.map aj) p3=some (.lst<|V.map aj):=aa;have V4:Sub S (S2.set p3<|.lst<|V.map aj):=J4.trans<|.new Xx;generalize S2.set p3 (.lst<|V.map aj)=S3 at h31 h33 V4⊢;have hVl:=hV.length_eq;refine !!!⟨cA (λh=>?_) λh=>?_⟩;rw[if_pos<|zt h]at pm pw;refine !!{_,_,h31,h33,sm<|by rw[zb,zb];lia,λp4 hp4=>?_};rw[<-zy];exact{_,cF V4,q _ p4 pm pw<|bq V4 hp4};rw[if_neg<|yh h]at pm pw;refine !!{_,_,h33,h31,sm<|by rw[zb,zb];lia,λp4 hp4=>?_};rw[<-zy];exact{_,cF V4,q _ p4 pm pw<|bq V4 hp4}
structure Og(cs:List (Str×Str))(ps:List Part)(wy:Str):Prop where
 pin:Pin cs ps
 aaI:∀p∈ps,kP p.2.1=true
 way:kP wy=true
 ok:AF cs ps wy=true
 tx:∀p∈ps,Pok p
noncomputable def eB(ps:List Part)(wy:Str):D:=.tup [.tup<|ps.map p3,.str wy]
inductive Ol (t:eQ) (ds:List D) (S:au) (R:KD) (Z:KX):Prop where
 |mk (cs:List<|Str×Str) (ps:List Part) (wy:Str) (l:Addr) (rs:List Row) (h0:ds=[.tup<|cs.map aA,eB ps wy,.ref l]) (h1:Gd cs) (h2:Og cs ps wy) (h3:S l=some (.lst<|rs.map aj)) (h4:rs.length<64) (h5:Rg cs rs) (h6:Tb t S) (h7:∀(cH:List Row)(a:Addr),cH.Perm rs->(cH.Pairwise λa b=>dm cs wy ps a b=true)->S a=none->R (.ref a) (S.set a<|.lst<|cH.map aj))
structure Vw(C:Addr)(S:au)(a:Addr)(cs:List (Str×Str))(m:D)(rows:List Row):Prop where
 sh:∃F dl rs,bI C S a F cs dl rs/\rs.length<64/\ub dl.length m≠none/\∀i ss,ub dl.length m=some i->ss.Perm (rs.map (·.1))->PyProof.Rows.sortedS ss=true->l9 rs i ss=rows.map aj
 mo:Gt S m
 len:rows.length<64
 rg:Rg cs rows
theorem bI.sub(b:Sub S S')(h:bI C S a F cs dl rs):bI C S' a F cs dl rs:=by obtain⟨ld,lr,ra,h,e⟩:=h;exact{ld,lr,ra,{b _ _ h.ins,b _ _ h.xB,b _ _ h.run,λr hr=>b _ _<|h.cell r hr,h.kn,h.an,h.sz},e}
theorem AL(T:Txt w K mg t)(B:Bm mg base):Ok P w base T.rT 8 (Ol t):=by
 refine T.rT.F.bL gC ?_;obtain⟨cs,ps,wy,l,rs,e,hg,ho,hl,hn,sC,ht,q⟩;refine{_,(sc (b_ (i:=3) gC.nd<|aV T.fQ (nh T B) hr<|al 2<|ac (ix hr.u (dv 1) di) an)<|sc (xy<|GQ (irt T.rQ<|ac (ix hr.u (dv 1) di) an) (gn (i:=4) gC.nd)<|s1<|b_ (i:=3) gC.nd<|aV T.fR (nj T B) hr<|al 0<|al 4<|al 3 an)<|s1<|sr<|dv 3),?_};refine !!!{cs,l,rs,wy,rfl,ho.way,hl,hn,sC,ht.1,λrs1 p1 pm1 pw1 AI=>?_};have hrl:ps.reverse.length=ps.length:=yC;refine{λaG S'=>∃(o:Option D)(p:Addr)(cH:List Row),aG=[some<|.tup<|cs.map aA,some<|eB ps wy,some<|.ref l,some<|.ref p,o]/\S p=none/\S' p=some (.lst<|cH.map aj)/\Sub S S'/\cH.Perm rs/\cH.Pairwise λa b=>dm cs wy ps a b=true,?_,?_};refine !!!⟨?_⟩;refine{λi aG S'=>∃(o:Option D)(p:Addr)(cH:List Row),aG=[some<|.tup<|cs.map aA,some<|eB ps wy,some<|.ref l,some<|.ref p,o]/\S p=none/\S' p=some (.lst<|cH.map aj)/\Sub S S'/\cH.Perm rs/\cH.Pairwise λa b=>dm cs wy (ps.reverse.take i).reverse a b=true,{none,p1,rs1,rfl,AI,aa,.new AI,pm1,pw1},λ_ _ _ _=>trivial,?_,?_};rintro i d aG S' hd ⟨o,p,cH,rfl,hp,dO,sb,pm,pw⟩;have hd:(ps.map p3).reverse[i]?=some d:=hd;rw[<-List.map_reverse,zf]at hd;cases e5:ps.reverse[i]? with|none=>(rw[e5]at hd;cases hd)|some pt=>rw[e5]at hd;cases hd;have P_:pt∈ps:=List.mem_reverse.mp<|zo e5;have et:(ps.reverse.take<|i+1).reverse=pt::(ps.reverse.take i).reverse:=(by rw[List.take_add_one,e5,List.reverse_append];rfl);have J5:Pin cs (pt::(ps.reverse.take i).reverse):=λx hx=>(by rcases zi.mp hx with rfl|hx;exact ho.pin _ P_;exact ho.pin _<|List.mem_reverse.mp<|List.mem_of_mem_take<|List.mem_reverse.mp hx);refine !!!{cs,(ps.reverse.take i).reverse,pt,wy,p,cH,rfl,hg,J5,ho.aaI pt P_,dO,by rw[pm.length_eq];exact hn,sC.perm pm,pw,ht.sub sb,λZY p2 pm2 pw2 jf=>?_};rw[<-et]at pw2;exact{_,p2,ZY,rfl,bq sb jf,aa,sb.trans<|.new jf,pm2.trans pm,pw2}
 rintro aG S' ⟨o,p,cH,rfl,hp,dO,sb,pm,pw⟩;have pw:cH.Pairwise λa b=>dm cs wy (ps.reverse.take (ps.map p3).reverse.length).reverse a b=true:=pw;rw[yC,zb,List.take_of_length_le<|Nat.le_of_eq hrl,List.reverse_reverse]at pw;exact fo ⟨o,p,cH,rfl,hp,dO,sb,pm,pw⟩;rintro aG S' ⟨o,p,cH,rfl,hp,dO,sb,pm,pw⟩;refine !{S.set p<|.lst<|cH.map aj,λb c hb=>?_,q cH p pm pw hp};by_cases e:b=p;subst e;rw[aa]at hb;cases hb;exact dO;rw[ag e]at hb;exact sb b c hb
noncomputable def Om(cs:List<|Str×Str)(d:D):D->Bool|.tup [.str k,.tup ws]=>cn cs (k,ws) 7 d|_=>false
inductive Ju (t:eQ) (ds:List D) (S:au) (R:KD) (Z:KX):Prop where
 |mk (a cs d m rows) (h0:ds=[.ref a,d,m]) (h1:Gd cs) (h2:Sq cs d) (h3:Vw t.ak S a cs m rows) (h4:∀p,S p=none->R (.ref p) (S.set p<|.lst<|(rows.filter λr=>cn cs r 7 d).map aj))
theorem qg(T:Txt w K mg t):Ok P w base T.iJ 11 (Ju t):=by refine T.iJ.F.bL i8 ?_;obtain⟨a,cs,d,m,rows,e,hg,hd,hv,q⟩;obtain⟨F,dl,rs,hS,hn,V5,Rn⟩:=hv.sh;obtain⟨ld,lr,ra,h,_⟩:=id hS;refine{_,(sc (b_ (i:=3) i8.nd<|gu (dv 0) T.ai T.az (aN T) hr)<|s1<|sr<|uH (N:=["row","columns","sieve"]) (src:=[none,some 3,some 1]) (lO (ae rK) ["shelf","sieve","moment","columns"] rfl rfl<|by trivial) (il<|o9 (dv 0) T.ai T.fq (uU T) hr<|al 2 an) (qx<|show(["row","columns","sieve"]:List Str).Nodup by trivial) (a_ rfl) ba (λ_ _ _ _ _=>(if1<|tv<|aV T.passes (kE T 7) hr<|al 1<|al 2<|al 0 an)) λ_ _ _ _ _=>(dv 0)),?_};refine !{a,_,rfl,h.ins,rfl,a,F,cs,dl,rs,rfl,hS,?_};refine !{a,_,rfl,h.ins,rfl,_,rfl,a,F,cs,dl,rs,m,rfl,hS,hn,hv.mo,λi ss hi hp hs p kD=>?_,λh=>absurd h V5};rw[Rn i ss hi hp hs];refine{_,aa,?_};refine kB (Om cs d) id aa (by show(rows.map aj).length<=1000;rw[zb];have:=hv.len;lia) (λx hx Q Q' hQ Q3=>?_) λp2 jf=>?_;obtain⟨r,hr,rfl⟩:=zj.mp hx;refine !!!{cs,d,r,rfl,hg,hd.1,hv.rg.1 r hr,_,rfl,cA (λh=>!⟨hQ h⟩) λh=>Q3 h};have e1:((rows.map aj).filter<|Om cs d).map id=(rows.filter λr=>cn cs r 7 d).map aj:=oH λr=>rfl;rw[show({rows.map aj,λS=>uF S (.ref p)<|rows.map aj}:s_).xs=rows.map aj from rfl,e1];exact{_,cF<|.new kD,q p2<|bq (.new kD) jf}
inductive V6 (t:eQ) (ds:List D) (S:au) (R:KD) (Z:KX):Prop where
 |mk (a cs ps wy d m rows) (h0:ds=[.ref a,eB ps wy,d,m]) (h1:Gd cs) (h2:Og cs ps wy) (h3:Sq cs d) (h4:Vw t.ak S a cs m rows) (h5:Tb t S) (h6:∀(cH:List Row)(p:Addr),cH.Perm (rows.filter λr=>cn cs r 7 d)->(cH.Pairwise λa b=>dm cs wy ps a b=true)->S p=none->R (.ref p) (S.set p<|.lst<|cH.map aj))
theorem cG(T:Txt w K mg t)(B:Bm mg base):Ok P w base T.cg 12 (V6 t):=by refine T.cg.F.bL mU ?_;obtain⟨a,cs,ps,wy,d,m,rows,e,hg,ho,hd,hv,ht,q⟩;obtain⟨F,dl,rs,hS,hn,V5,Rn⟩:=hv.sh;obtain⟨ld,lr,ra,h,_⟩:=id hS;refine{_,(s1<|sr<|aV T.rT (AL T B) hr<|ac (gu (dv 0) T.ai T.az (aN T) hr)<|al 1<|ac (aV T.iJ (qg T) hr<|al 0<|al 2<|al 3 an) an),?_};refine !{a,_,rfl,h.ins,rfl,a,F,cs,dl,rs,rfl,hS,?_};refine !!!!{a,cs,d,m,rows,rfl,hg,hd,hv,λp hp=>?_};have fl:(rows.filter λr=>cn cs r 7 d).length<=rows.length:=List.length_filter_le _ _;have:=hv.len;refine{cs,ps,wy,p,rows.filter λr=>cn cs r 7 d,rfl,hg,ho,aa,Nat.lt_of_le_of_lt fl this,hv.rg.sub List.filter_sublist,ht.sub<|.new hp,λcH p2 pm pw jf=>?_};exact{_,cF<|.new hp,q cH p2 pm pw<|bq (.new hp) jf}
theorem kd_sub(h:Sub S S')(hk:Qf S d k):Qf S' d k:=by cases d with|ref a=>(rcases hk with⟨e,ds,q⟩|⟨e,ds,q⟩;exact .inl {e,ds,h _ _ q};exact .inr {e,ds,h _ _ q})|_=>exact hk
theorem Gt.sub(h:Sub S S')(g:Gt S d):Gt S' d:={by obtain⟨k,hk⟩:=g.1;exact{k,kd_sub h hk},g.2}
theorem Ro:Gt S (.tup ws):={{.tup,rfl},λ_=>nofun}
theorem MG(h:ws.length<=1000)(g:∀v∈ws,Gt S v):Sw S (.tup ws):={Ro,λXy e=>by cases e;exact⟨h,g⟩}
theorem gt_int:Gt S (.int i):={{.int,rfl},λ_=>nofun}
theorem Et(h:z.cps.size<=1000):Gt S (.str z):={{.str,rfl},λz' e=>by cases e;exact h}
theorem Jv(h:cR d=true):Gt S d:=by cases d with|av=>exact sA|int i=>exact gt_int|str z=>have h:(decide (z.cps.size<=40)&&PyData.strOk z)=true:=h;rw[zM]at h;have:=zt h.1;exact Et (by lia)|_=>cases h
theorem sJ:∀{cs:List (Str×Str)}{ws:List D},Paired rel cs ws->ws.length=cs.length|_,_,.nil=>rfl|_,_,.cons _ t=>by rw[zS,zS,sJ t]
theorem Wg.len(h:Wg cs ws):ws.length=cs.length:=sJ h
theorem Wg.Rp(h:Wg cs ws):mX cs (.tup ws)=true:=by show(decide (ws.length=cs.length)&&(List.zipWith (λc v=>jk c.2 v) cs ws).all id)=true;rw[zC h.len,yc];unfold Wg at h;induction h with|nil=>rfl|cons r t ih=>rw[List.zipWith_cons_cons,List.all_cons,ih];show(id (jk _ _)&&true)=true;rw[show id (jk _ _)=true from r.1];rfl
theorem Wg.gts(h:Wg cs ws)(hc:cs.length<=8):Sw S (.tup ws):=MG (by rw[h.len];lia) λv hv=>Jv<|h.all v hv
theorem MH(hg:Gd cs)(hN:∀c∈cs,c.1∈wU):∀d∈cs.map aA,Ly S 60 d:=λd hd=>by obtain⟨c,hc,rfl⟩:=zj.mp hd;refine(Ly.tup (n:=0) λx hx=>?_).le (by decide);have hx:x∈[D.str c.1,D.str c.2]:=hx;simp only[zi,zH,or_false]at hx;rcases hx with rfl|rfl;exact Ly.str (wV _<|hN c hc).2;rcases (hg.2.2 c hc).2 with e|e<;>rw[e]<;>exact Ly.str (by trivial)
theorem MI{n a b tn:Nat}(ha:a<n)(hb:b<n)(h:(a+tn)%n=(b+tn)%n):a=b:=by rcases Nat.lt_trichotomy a b with l|l|l;have:=Nat.sub_mod_eq_zero_of_mod_eq h.symm;rw[show b+tn-(a+tn)=b-a by lia,Nat.mod_eq_of_lt<|by lia]at this;lia;exact l;have:=Nat.sub_mod_eq_zero_of_mod_eq h;rw[show a+tn-(b+tn)=a-b by lia,Nat.mod_eq_of_lt<|by lia]at this;lia
noncomputable def sL(cs:List<|Str×Str)(tn k:Nat):Str:=(cs.getD ((tn+k)%cs.length) ("","")).1
theorem AM(h:0<cs.length):∃c∈cs,cs[(tn+k)%cs.length]?=some c/\c.1=sL cs tn k:=by have eC:(tn+k)%cs.length<cs.length:=Nat.mod_lt _ h;refine{cs[(tn+k)%cs.length],List.getElem_mem eC,zg eC,?_};unfold sL;rw[zJ,zg eC];rfl
theorem AN{cs:List<|Str×Str}(hg:(cs.map Prod.fst).Nodup){tn i:Nat}(hi:i<=cs.length):((List.range i).map<|sL cs tn).Nodup:=by
 refine List.pairwise_map.mpr<|List.nodup_range.imp_of_mem λ{a b} ha hb n e=>n ?_;have ha:=zV.mp ha;have hb:=zV.mp hb;have h0:0<cs.length:=by lia
 have la:(tn+a)%cs.length<cs.length:=Nat.mod_lt _ h0;have lb:(tn+b)%cs.length<cs.length:=Nat.mod_lt _ h0;unfold sL at e;rw[zJ,zg la,zJ,zg lb]at e;have e:(cs[(tn+a)%cs.length]).1=(cs[(tn+b)%cs.length]).1:=e;have e2:(cs.map Prod.fst)[(tn+a)%cs.length]'(by rw[zb];exact la)=(cs.map Prod.fst)[(tn+b)%cs.length]'(by rw[zb];exact lb):=by rw[List.getElem_map,List.getElem_map];exact e
 have e3:=(List.getElem_inj hg).mp e2;rw[Nat.add_comm tn a,Nat.add_comm tn b]at e3;exact MI (n:=cs.length) (by lia) (by lia) e3
inductive u3 (ds:List D) (S:au) (R:KD) (Z:KX):Prop where
 |mk (cs:List<|Str×Str) (c:Int) (h0:ds=[.tup<|cs.map aA,.int c]) (h1:Gd cs) (h2:∀(ps:List Part)(wy:Str),Og cs ps wy->R (eB ps wy) S)
theorem Jw(T:Txt w K mg t):Ok P w base T.we 2 u3:=by
 refine T.we.F.bL eN ?_;obtain⟨cs,c0,e,hg,q⟩;have h8:=hg.1;have BG:(cs.map aA).length=cs.length:=zb _;refine{_,(sc (b_ (i:=2) eN.nd<|aV T.iO (j0 T) hr<|al 1<|ac di an)<|sc (b_ (i:=3) eN.nd<|cb NM T.Oa HL<|ac (cb bj T.bb aK<|al 0 an)<|ac (vP<|ix hr.u (cy<|ac di<|ac di<|ac di<|ac di<|ac di<|ac di<|ac di<|ac di an)<|bo bw hr.u (ix hr.u (dv 2) di) di) an)<|sc (b_ (i:=4) eN.nd<|cy an)<|sc (xy<|GQ (LL T.ft<|al 3 an) (gn (i:=5) eN.nd)<|sc (b_ (i:=6) eN.nd<|ix hr.u (ix hr.u (dv 0)<|bo bw hr.u (bo aY hr.u (ix hr.u (dv 2) di)<|dv 5)<|cb bj T.bb aK<|al 0 an) di)<|s1<|se<|bm zK zQ zR bF (dv 4)<|ac (ck<|al 6<|ac (vP<|ix hr.u (cy<|ac ds<|ac ds an)<|bo bw hr.u (ix hr.u (dv 2)<|bo aY hr.u di<|dv 5) di)<|ac (vP<|ix hr.u (cy<|ac ds<|ac ds an)<|bo bw hr.u (bo bR hr.u (ix hr.u (dv 2)<|bo aY hr.u di<|dv 5) di) di) an) an)<|s1<|sr<|ck<|ac (ct km T.bJ bp<|al 4 an)<|ac (vP<|ix hr.u (cy<|ac ds<|ac ds an)<|bo bw hr.u (ix hr.u (dv 2) di) di) an),?_};refine !{c0,12,rfl,by decide,λxs lx Mu hx BI=>?_};have s1:=Sub.new (c:=.lst<|xs.map D.int) BI;have hX:(S.set lx<|.lst<|xs.map D.int) lx=some (.lst<|xs.map D.int):=aa;generalize S.set lx (.lst<|xs.map D.int)=S1 at s1 hX⊢;have at_:∀k:Nat,k<12->∃x:Int,jm (xs.map D.int) ((k:Nat):Int)=some (.int x)/\0<=x:=λk hk=>sD (by lia) (by rw[zb];lia) hx;obtain⟨x0,e0,_⟩:=at_ 0 (by decide);obtain⟨x1,e1,x10⟩:=at_ 1 (by decide);obtain⟨x11,e11,_⟩:=at_ 11 (by decide);obtain⟨tn,rfl⟩:=Int.eq_ofNat_of_zero_le x10;refine !!{Gb,λp hp=>!{_,_,(Sub.new hp) _ _ hX,e0,by decide,bX (zP _<|by decide) (zN _<|by decide) hp λd hd=>?_}};obtain⟨m,rfl⟩:∃m:Nat,d=.int m:=by have hd:d∈[D.int 1,.int 2,.int 0,.int 3,.int 1,.int 2,.int 8,.int 3]:=hd;simp only[zi,zH,or_false]at hd;rcases hd with h|h|h|h|h|h|h|h;exact{1,h};exact{2,h};exact{0,h};exact{3,h};exact{1,h};exact{2,h};exact{8,h};exact{3,h}
 obtain⟨k,hk,ek⟩:∃k:Nat,k<=cs.length/\(if decide ((m:Int)<(((cs.map aA).length:Nat):Int))=true then (m:Int) else (((cs.map aA).length:Nat):Int))=(k:Int):=by rw[BG];by_cases h:(m:Int)<((cs.length:Nat):Int);exact{m,by lia,by rw[zC h,if_pos rfl]};exact{cs.length,zp _,by rw[zB h,if_neg zd]}
 refine{_,_,rfl,?_};have ek2:(if (λi j:Int=>decide<|i<j) ((m:Nat):Int) (((cs.map aA).length:Nat):Int)=true then ((m:Nat):Int) else (((cs.map aA).length:Nat):Int))=((k:Nat):Int):=ek;rw[ek2];refine{r_,λlp XB=>?_};have nxp:lx≠lp:=gZ hX XB;refine{λaG S'=>∃(o5 o6:Option D)(ps:List Part),aG=[some<|.tup<|cs.map aA,some<|.int c0,some<|.ref lx,some<|.int (k:Nat),some<|.ref lp,o5,o6]/\ps.map Prod.fst=(List.range k).map (sL cs tn)/\(∀p∈ps,kP p.2.1=true/\CP p.2.2=true)/\S'=S1.set lp (.lst<|ps.map p3),?_,?_};refine !{((k:Nat):Int),rfl,by lia,by lia,?_};refine{λi aG S'=>∃(o5 o6:Option D)(ps:List Part),aG=[some<|.tup<|cs.map aA,some<|.int c0,some<|.ref lx,some<|.int (k:Nat),some<|.ref lp,o5,o6]/\ps.map Prod.fst=(List.range i).map (sL cs tn)/\(∀p∈ps,kP p.2.1=true/\CP p.2.2=true)/\S'=S1.set lp (.lst<|ps.map p3),{none,none,[],rfl,rfl,λ_ h=>(nomatch h),rfl},λ_ _ _ _=>trivial,?_,?_};rintro i d aG S' hd ⟨o5,o6,ps,rfl,hn,dM,rfl⟩;have hd:(fm 0 ((k:Nat):Int).toNat)[i]?=some d:=hd;obtain⟨hi,rfl⟩:=cK hd;have hi:i<k:=by lia
 have dO:ps.length=i:=by have:=congrArg List.length hn;simpa using this
 obtain⟨c,hc,ec,ec1⟩:=AM (cs:=cs) (tn:=tn) (k:=i) (by lia);have Ja:(S1.set lp<|.lst<|ps.map p3) lx=some (.lst<|xs.map D.int):=(ag nxp).trans hX;have hP2:(S1.set lp<|.lst<|ps.map p3) lp=some (.lst<|ps.map p3):=aa;have eat:jm (cs.map aA) ((((tn:Nat):Int)+(0+((i:Nat):Int)))%(((cs.map aA).length:Nat):Int))=some (aA c):=by rw[BG,show(((tn:Nat):Int)+(0+((i:Nat):Int)))%((cs.length:Nat):Int)=(((tn+i)%cs.length:Nat):Int) by rw[Int.zero_add,Int.natCast_emod,Int.natCast_add]];refine bW ?_;rw[zf,ec];rfl
 obtain⟨xi,XD,_⟩:=at_ (2+i) (by lia);have XD:jm (xs.map D.int) (2+(0+((i:Nat):Int)))=some (.int xi):=by rw[show(2:Int)+(0+((i:Nat):Int))=((2+i:Nat):Int) by lia];exact XD
 refine !!{_,_,Ja,e1,_,rfl,_,rfl,_,rfl,by rw[BG];lia,_,eat,_,rfl,?_};refine{_,rfl,{rfl,_,hP2},_,rfl,cQ,λp hp=>!!{_,_,(Sub.new hp) _ _ Ja,XD,by decide,bX (zP _<|by decide) (zN _<|by decide) hp λd hd=>?_}};obtain⟨wy,rfl,Ke⟩:∃wy:Str,d=.str wy/\kP wy=true:=by have hd:d∈[D.str "up",.str "down"]:=hd;simp only[zi,zH,or_false]at hd;rcases hd with h|h;exact{_,h,by trivial};exact{_,h,by trivial}
 refine{cQ,λp hp=>!!{_,_,(Sub.new hp) _ _ Ja,XD,{by decide,by trivial},by decide,bX (zP _<|by decide) (zN _<|by decide) hp λd hd=>?_}};obtain⟨en,rfl,Bb⟩:∃en:Str,d=.str en/\CP en=true:=by have hd:d∈[D.str "first",.str "last"]:=hd;simp only[zi,zH,or_false]at hd;rcases hd with h|h;exact{_,h,by trivial};exact{_,h,by trivial}
 refine{oy,lp,_,_,rfl,rfl,hP2,bg<|by rw[zb];lia,?_};refine{_,_,ps++[(c.1,wy,en)],rfl,?_,λx hx=>?_,?_};rw[zy,hn,List.range_succ,zy];show _=_++[sL cs tn i];rw[<-ec1];rfl;rcases zL.mp hx with h|h;exact dM x h;rw[zA.mp h];exact⟨Ke,Bb⟩;rw[bf,zy];rfl;rintro aG S' ⟨o5,o6,ps,rfl,hn,dM,rfl⟩;rw[show({fm 0 ((k:Nat):Int).toNat,λ_=>True}:s_).xs.length=((k:Nat):Int).toNat from cJ,show((k:Nat):Int).toNat=k by lia]at hn;exact fo ⟨o5,o6,ps,rfl,hn,dM,rfl⟩;rintro aG S' ⟨o5,o6,ps,rfl,hn,dM,rfl⟩;have Ja:(S1.set lp<|.lst<|ps.map p3) lx=some (.lst<|xs.map D.int):=(ag nxp).trans hX;refine !{_,_,rfl,.inl aa,cQ,λp hp=>!{_,_,(Sub.new hp) _ _ Ja,e11,by decide,bX (zP _<|by decide) (zN _<|by decide) hp λd hd=>?_}};obtain⟨wy,rfl,Ke⟩:∃wy:Str,d=.str wy/\kP wy=true:=by have hd:d∈[D.str "up",.str "down"]:=hd;simp only[zi,zH,or_false]at hd;rcases hd with h|h;exact{_,h,by trivial};exact{_,h,by trivial}
 have dO:ps.length=k:=by have:=congrArg List.length hn;simpa using this
 have pin:Pin cs ps:=λx hx=>by have:x.1∈ps.map Prod.fst:=zj.mpr ⟨x,hx,rfl⟩;rw[hn]at this;obtain⟨k,hk,e⟩:=zj.mp this;have:=zV.mp hk;obtain⟨c,hc,_,ec⟩:=AM (cs:=cs) (tn:=tn) (k:=k) (by lia);exact{c,hc,ec.trans e}
 refine{cQ,S,s1.trans<|.new XB,q ps wy {pin,λx hx=>(dM x hx).1,Ke,?_,λx hx=>?_}};unfold AF;rw[zC<|show ps.length<=8 by lia,yc,zM,zM];refine{yg.mpr λx hx=>?_,zC<|by rw[hn];exact AN hg.2.1 hk,Ke};obtain⟨c,hc,ec⟩:=pin x hx;unfold fZ;rw[zC<|zj.mpr ⟨c,hc,ec⟩,(dM x hx).1,(dM x hx).2];rfl;obtain⟨c,hc,ec⟩:=pin x hx;obtain⟨h1,h2⟩:=dM x hx;refine{by rw[<-ec];exact oB (hg.2.2 c hc).1,by rcases xf h1 with e|e<;>rw[e]<;>decide +kernel,?_};unfold CP at h2;simp only[yJ,zY]at h2;rcases h2 with e|e<;>rw[e]<;>decide +kernel
theorem Oo{c1:Bool}{X A B:Prop}(c2:Bool)(hx:(if c2=true then A else B)->X)(h:if (c1||c2)=true then A else B):if c1=true then (if true=true then A else B) else X:=by cases c1 with|true=>exact h|false=>exact hx h
theorem CW{c1:Bool}{X A B:Prop}(c2:Bool)(hx:(if c2=true then A else B)->X)(h:if (c1&&c2)=true then A else B):if c1=true then X else (if false=true then A else B):=by cases c1 with|true=>exact hx h|false=>exact h
theorem keys_str{out:List D} : (∀d∈out,∃z∈KS,d=.str z)->∃ks:List Str,out=ks.map D.str/\∀k∈ks,k∈KS:=by induction out with|nil=>exact λ_=>{[],rfl,λ_ h=>(nomatch h)}|cons x l ih=>intro h;obtain⟨z,hz,e⟩:=h x zm;obtain⟨ks,e2,hk⟩:=ih λd hd=>h d<|zh _ hd;exact{z::ks,by rw[e,e2];rfl,λk Hv=>(zi.mp Hv).elim (λe=>e ▸ hz)<|hk k}
theorem sM{rel:D->D->Prop} : ∀{xs out:List D},Paired rel xs out->∀v∈out,∃x,rel x v|_,_,.nil,_,h=>(nomatch h)|_,_,.cons r t,v,h=>by rcases zi.mp h with rfl|h;exact{_,r};exact sM t v h
theorem Oq{cs:List<|Str×Str}{d:D}(h:Lf cs d){n:Nat} : pG (n+1) d=1:=by rcases h with rfl|⟨ks,rfl,_⟩|⟨o,c,v,_,_,_,rfl⟩<;>rfl
theorem Rq(n:Nat)(e:D):pG (n+1) (.tup [.str "not",e])=pG n e+1:=by show((m9 _).map<|pG n).sum+1=_;rw[w4];simp
theorem MJ{o:Str}(h:o ="and"\/o ="or")(n:Nat)(ds:List D):pG (n+1) (.tup [.str o,.tup ds])=(ds.map<|pG n).sum+1:=by show((m9 _).map<|pG n).sum+1=_;rw[w5 h]
theorem kF{I:s_}{S1:au}{g:y1}{te:TD}{σ:SD}{src:List<|Option Nat}{R:KD}(P:Nat->List D->au->Prop)(h0:P 0 [] S1)(aM:∀i out S,P i out S->I.ok S) (step:∀i d out S,I.xs[i]?=some d->P i out S->out.length<sizeLine/\g d (mF σ src) S λgq S3=>te gq S3 (λv S5=>P (i+1) (out++[v]) S5) Zf) (fin:∀out S2,P I.xs.length out S2->∀p,S2 p=none->R (.ref p) (S2.set p<|.lst out)):y3 σ src g mG te R I S1:=by
 refine{P,h0,aM,λi d out S hd h=>{(step i d out S hd h).1,?_},fin};have e:(λ(gq:SD)(S3:au)=>mG gq S3 (λb S4=>if b=true then te gq S4 (λv S5=>P (i+1) (out++[v]) S5) Zf else P (i+1) out S4) Zf)=λgq S3=>te gq S3 (λv S5=>P (i+1) (out++[v]) S5) Zf:=by funext gq S3;simp[mG]
 rw[e];exact(step i d out S hd h).2
theorem Jx{f:D->Nat}{k:Nat} : ∀{l:List D},(∀e∈l,f e<=k)->(l.map f).sum<=k*l.length|[],_=>zT _|e::l,h=>by have h1:=h e zm;have ih:=Jx λx hx=>h x<|zh _ hx;rw[zu,List.sum_cons,zS,Nat.mul_succ];lia
noncomputable def Rr:Nat->Nat|0=>0|n+1=>1+3*Rr n
theorem Ru{S S':au}{p:Addr}{c c':Ce}(h:Sub (S.set p c) S'):Sub (S.set p c') (S'.set p c'):=λb x hb=>by by_cases e:b=p;subst e;rw[aa]at hb⊢;exact hb;rw[ag e]at hb⊢;exact h b x<|(ag e).trans hb
inductive Rw (n:Nat) (ds:List D) (S:au) (R:KD) (Z:KX):Prop where
 |mk (cs:List<|Str×Str) (lx:Addr) (m:Nat) (xs:List Int) (hn:n=m+1) (h0:ds=[.tup<|cs.map aA,.ref lx,.int ((m:Nat):Int)]) (h1:Cg cs) (h2:S lx=some (.lst<|xs.map D.int)) (h3:xs.length<=20) (h4:∀x∈xs,0<=x)
  (h5:∀(d:D)(ys:List Int),Sg cs n d->pG n d<=Rr n->ys.length<=20->(∀y∈ys,0<=y)->R d (S.set lx<|.lst<|ys.map D.int)):Rw n ds S R Z
theorem oI(T:Txt w K mg t):∀n,Ok P w base T.iP (2+n) (Rw n)
 |0=>by refine T.iP.F.bL (k:=1) cO ?_;rintro _ _ _ _ _ _ _ S R Z hr ⟨_,_,_,_,e,_⟩;cases e
 |n+1=>by
  refine T.iP.F.bL (k:=2+n) cO ?_;obtain⟨cs,lx,m,xs,en,e,hc,hX,Mu,hx,q⟩;cases en;have hg:=hc.1;have n2:=cQ;have n3:=oy;refine{_,(sc (b_ (i:=3) cO.nd<|aV T.qD (AB T) hr<|al 1 an)<|sc (b_ (i:=4) cO.nd<|bo bw hr.u (dv 3) di)<|sc (si (twd<|twand (bu rn hr.u (dv 2) di)<|tw1<|bu bz hr.u (dv 4) di) (s1<|sr<|ck<|ac ds<|ac (aV T.iP (oI T n) hr<|al 0<|al 1<|ac (bo rm hr.u (dv 2) di) an) an) s0)<|sc (si (twd<|twand (bu rn hr.u (dv 2) di)<|tw1<|bu x8 hr.u (dv 4) di) (sc (Qt (i:=5) (N:=["_law_k","_law_columns_here","_law_xs","_law_deep"]) (src:=[none,some 0,some 1,some 2]) cO.nd (lO (ae uN) ["_law_columns_here","_law_xs","_law_deep","_law_x","_law_way","_law_some","_law_name","_law_kind","_law_value_here"] rfl rfl<|by trivial) (LL T.ft<|ac (vP<|ix hr.u (cy<|ac di<|ac di<|ac di<|ac di an)<|bo bw hr.u (bo bR hr.u (dv 3) di) di) an) (qx<|show(["_law_k","_law_columns_here","_law_xs","_law_deep"]:List Str).Nodup by trivial) (a_ rfl) ba (λ_ _ _ _ _=>rB) λ_ _ _ _ _=>(aV T.iP (oI T n) hr<|al 1<|al 2<|ac (bo rm hr.u (dv 3) di) an))<|s1<|sr<|ck<|ac (vP<|ix hr.u (cy<|ac ds<|ac ds an)<|bo rm hr.u (dv 4) di)<|ac (ct km T.bJ bp<|al 5 an) an) s0)<|sc (si (twd<|twor (bu bz hr.u (dv 4) di)<|tw1<|bu bz hr.u (dv 0)<|ck an) (s1<|sr<|vP<|ix hr.u (cy<|ac (ck<|ac ds an)<|ac (ck<|ac ds<|ac (ct km T.bJ bp<|ac (uH (N:=["_law_k","_law_x"]) (src:=[none,some 3]) (lO (ae uN) ["_law_columns_here","_law_xs","_law_deep","_law_x","_law_way","_law_some","_law_name","_law_kind","_law_value_here"] rfl rfl<|by trivial) (LL T.ft<|ac (bo bw hr.u (bo bR hr.u (dv 3) di) di) an) (qx<|show(["_law_k","_law_x"]:List Str).Nodup by trivial) (a_ rfl) ba (λ_ _ _ _ _=>rB) λ_ _ _ _ _=>(aV T.Ed (I9 T) hr<|ac (bo aY hr.u (bo bR hr.u (dv 1) di)<|bo mz hr.u di<|dv 0) an)) an) an) an)<|bo bw hr.u (bo bR hr.u (dv 3) di) di) s0)<|sc (sa (ix hr.u (dv 0)<|bo bw hr.u (bo bR hr.u (dv 3) di)<|cb bj T.bb aK<|al 0 an)<|gt (n:=2)<|gc (gn (i:=6) cO.nd)<|gc (gn (i:=7) cO.nd) g0)<|sc (b_ (i:=8) cO.nd<|aV T.qE (AD T) hr<|al 7<|ac (aV T.qD (AB T) hr<|al 1 an) an)<|sc (si (twd<|twor (bu iE hr.u (dv 8) dn)<|tw1<|bu x8 hr.u (dv 4) di) (s1<|sr<|ck<|ac ds<|al 6<|al 8 an) s0)<|sc (si (twd<|twand (bu bz hr.u (dv 4) di)<|tw1<|bu bz hr.u (dv 7) ds) (s1<|sr<|ck<|ac ds<|al 6<|al 8 an) s0)<|s1<|sr<|ck<|ac (vP<|ix hr.u (cy<|ac ds<|ac ds an)<|bo bw hr.u (dv 4) di)<|al 6<|al 8 an),?_};refine !{lx,xs,rfl,hX,Mu,hx,λx ys x0 yl hy=>?_};have hY:(S.set lx<|.lst<|ys.map D.int) lx=some (.lst<|ys.map D.int):=aa;have q1:∀d,Lf cs d->R d (S.set lx<|.lst<|ys.map D.int):=λd hd=>q d ys (.inl hd) (by rw[Oq hd];show 1<=1+_;lia) (by lia) hy;refine !{by decide,?_};have w0:0<=x%9:=zP _ (by decide);have w1:x%9<9:=zN _ (by decide);generalize x%9=way at w0 w1⊢;have ed:0<n->((n:Nat):Int)-1=((n-1:Nat):Int):=λh=>by lia
  refine !{decide<|(0:Int)<((n:Nat):Int),rfl,CW (decide<|way=0) (λh=>!!⟨h⟩)<|cA (λh=>?_) λMa=>?_};rw[zM,zY,zY]at h;have hn:0<n:=by lia
  refine !!!{cs,lx,n-1,ys,by lia,by rw[ed hn];rfl,hc,hY,by lia,hy,λd zs hd hz zl xA=>{n2,?_}};rw[bf];exact fo<|q _ zs (.inr<|.inl ⟨d,rfl,hd⟩) (by rw[Rq];show _<=1+3*Rr n;lia) zl xA;refine !{decide<|(0:Int)<((n:Nat):Int),rfl,CW (decide<|way<3) (λh=>!!⟨h⟩)<|cA (λh=>?_) λ_=>?_};rw[zM,zY,zY]at h;have hn:0<n:=by lia
  have hwz:way≠0:=λe=>by rw[Bool.and_eq_false_iff,yn,yn]at Ma;lia
  refine{t_,λp hp=>!⟨{by decide,by trivial},by decide,bX (zP _<|by decide) (zN _<|by decide) hp λd hd=>?_⟩};obtain⟨k,rfl,hk⟩:∃k:Nat,d=.int k/\k<=3:=by have hd:d∈[D.int 2,.int 3,.int 1,.int 0]:=hd;simp only[zi,zH,or_false]at hd;rcases hd with h|h|h|h;exact{2,h,by decide};exact{3,h,by decide};exact{1,h,by decide};exact{0,h,by decide}
  refine{((k:Nat):Int),rfl,by lia,by lia,?_};refine kF (λi out S'=>∃zs:List Int,Sub (S.set lx<|.lst<|zs.map D.int) S'/\zs.length<=20/\(∀z∈zs,0<=z)/\out.length=i/\∀e∈out,Sg cs n e/\pG n e<=Rr n) {ys,.refl _,by lia,hy,rfl,λ_ h=>(nomatch h)} (λ_ _ _ _=>trivial) ?_ ?_;rintro i d out S' hd ⟨zs,sb,zl,hz,Qb,ho⟩;have hi:i<k:=by have hd:(fm 0 ((k:Nat):Int).toNat)[i]?=some d:=hd;have:=(cK hd).1;lia
  refine{bg<|by lia,_,rfl,_,rfl,_,rfl,cs,lx,n-1,zs,by lia,by rw[ed hn];rfl,hc,sb _ _ aa,zl,hz,λd vs hd hsz vl hv=>{vs,Ru sb,vl,hv,by rw[zx,Qb];rfl,λe he=>?_}};rcases zL.mp he with he|he;exact ho e he;rw[zA.mp he];exact⟨hd,hsz⟩;rintro out S' ⟨zs,sb,zl,hz,Qb,ho⟩ pl dO;rw[show({fm 0 ((k:Nat):Int).toNat,λ_=>True}:s_).xs.length=((k:Nat):Int).toNat from cJ]at Qb;refine{n2,λp2 jf=>!⟨bX (by lia) (by show way-1<2;lia) jf λd hd=>?_⟩};obtain⟨o,rfl,hoo⟩:∃o:Str,d=.str o/\(o ="and"\/o ="or"):=by have hd:d∈[D.str "and",.str "or"]:=hd;simp only[zi,zH,or_false]at hd;rcases hd with h|h;exact{_,h,.inl rfl};exact{_,h,.inr rfl}
  refine !{_,_,rfl,.inl aa,n2,_,sb.trans<|.new dO,q _ zs (.inr<|.inr {o,out,hoo,rfl,by lia,λe he=>(ho e he).1}) ?_ zl hz};have hs:=Jx λe he=>(ho e he).2;have:Rr n*out.length<=Rr n*3:=Nat.mul_le_mul_left _ (by lia);rw[MJ hoo];show _<=1+3*Rr n;lia;refine !{decide<|way=8,rfl,Oo (cs.map aA).isEmpty (λh=>!{r_,Mx (MH hc.1 hc.2) !⟨h⟩})<|cA (λh=>?_) λh=>?_};have k0:0<=x/9%4:=zP _ (by decide);have k1:x/9%4<4:=zN _ (by decide);refine{t9,_,rfl,{by decide,by trivial},by decide,x/9%4,rfl,by lia,by lia,?_};refine jT (λ_ v=>∃z∈KS,v=.str z) trivial (by show(fm 0 _).length<=_;rw[cJ];lia) (λd hd Q hQ=>?_) λout ho p1 AI=>?_;obtain⟨j,hj⟩:=zZ hd;obtain⟨_,rfl⟩:=cK hj;exact{_,rfl,{by decide,by trivial},_,rfl,.inl {by decide,by decide},_,rfl,λz hz=>hQ _ ⟨z,hz,rfl⟩};obtain⟨ks,rfl,Cd⟩:=keys_str λd hd=>(sM ho d hd).elim λ_ h=>h;have hl:=yG ho;rw[show({fm 0 (x/9%4).toNat,λ_=>True}:s_).xs=fm 0 (x/9%4).toNat from rfl,cJ,zb]at hl;refine{_,_,rfl,.inl aa,n2,n2,λp hp=>!⟨{by decide,by trivial},by decide,bX (zP _<|by decide) (zN _<|by decide) hp λd hd=>?_⟩};have hd:d∈[D.tup [.str "every"],.tup [.str "key",.tup<|ks.map D.str]]:=hd;simp only[zi,zH,or_false]at hd;rcases hd with rfl|rfl;exact{_,.new AI,q1 _<|.inl rfl};exact{_,.new AI,q1 _<|.inr<|.inl {ks,rfl,by lia,Cd}};rw[Bool.or_eq_false_iff]at h;have BG:0<cs.length:=by cases cs with|nil=>(cases h.2)|cons c cs=>exact Nat.succ_pos _
  have Sz:(cs.map aA).length=cs.length:=zb _;obtain⟨d,e1,e2⟩:=vE (l:=cs.map aA) (i:=x/9%(((cs.map aA).length:Nat):Int)) (zP _<|by lia)<|zN _ (by lia);obtain⟨c,SR,rfl⟩:=zj.mp<|zo e2;refine !!⟨{by decide,by trivial},_,rfl,_,rfl,by lia,_,e1,_,rfl,rfl,_,_,rfl,_,_,rfl,rfl,?_⟩;refine !!{lx,ys,rfl,hY,by lia,hy,λx2 zs _ zl hz=>{c.2,x2,rfl,λv hv=>?_}};rw[bf];have qc:∀o,wZ o c v->Fo (S.set lx<|.lst<|zs.map D.int) (R<|.tup [.str o,.str c.1,v]):=λo ho=>fo<|q _ zs (.inl<|.inr<|.inr ⟨o,c,v,SR,hv,ho,rfl⟩) (by rw[Oq<|.inr<|.inr ⟨o,c,v,SR,hv,ho,rfl⟩];show 1<=1+_;lia) (by lia) hz;refine !{ah v,rfl,Oo (decide<|way<4) (λh=>!!⟨h⟩)<|cA (λh4=>?_) λh4=>?_};exact !!{n3,qc _<|.inl rfl};rw[Bool.or_eq_false_iff]at h4;have N1:=bA h4.1;refine !{decide<|way=4,rfl,CW (decide<|c.2 ="word") (λh=>!!⟨h⟩)<|cA (λh5=>?_) λh5=>?_};rw[zM]at h5;exact !!{n3,qc _<|.inr {N1,.inr<|.inr {rfl,zt h5.2}}};refine{n2,λp hp=>!{(by decide:(0:Int)<2),bX (zP _<|by decide) (zN _<|by decide) hp λd hd=>?_}};obtain⟨o,rfl,ho⟩:∃o:Str,d=.str o/\(o ="below"\/o ="above"):=by have hd:d∈[D.str "below",.str "above"]:=hd;simp only[zi,zH,or_false]at hd;rcases hd with rfl|rfl;exact{_,rfl,.inl rfl};exact{_,rfl,.inr rfl}
  exact !!{n3,qc o<|.inr {N1,ho.elim .inl λh=>.inr<|.inl h}}
theorem Eu:∀{l:List Str}{p:Str},PyProof.Rows.risingS p l=true->(p::l).Pairwise λa b=>a.cps.toList<=b.cps.toList|[],p,_=>List.pairwise_singleton _ _|x::r,p,h=>by have h:(!PySem.Spec.ltCps x.cps.toList p.cps.toList&&PyProof.Rows.risingS x r)=true:=h;rw[zM,PyProof.Rows.ltCps_eq,Bool.not_eq_true',yn]at h;have ih:=Eu h.2;have hpx:p.cps.toList<=x.cps.toList:=List.not_lt.mp h.1;refine List.pairwise_cons.mpr {λy hy=>?_,ih};rcases zi.mp hy with e|hy;rw[e];exact hpx;exact List.le_trans hpx<|(List.pairwise_cons.mp ih).1 y hy
theorem oJ(h:PyProof.Rows.sortedS l=true):l.Pairwise λa b=>a.cps.toList<=b.cps.toList:=by cases l with|nil=>exact List.Pairwise.nil|cons x r=>exact Eu h
theorem MK{a b:Str}(h:a.cps.toList=b.cps.toList):a=b:=by obtain⟨⟨x⟩⟩:=a;obtain⟨⟨y⟩⟩:=b;cases h;rfl
theorem u4{l m:List Str}(hl:l.Pairwise λa b=>a.cps.toList<=b.cps.toList)(hm:m.Pairwise λa b=>a.cps.toList<=b.cps.toList)(nl:l.Nodup)(nm:m.Nodup)(h:∀z,z∈l↔z∈m):l=m:=List.Perm.eq_of_pairwise (λa b _ _ h1 h2=>MK<|List.le_antisymm h1 h2) hl hm<|(List.perm_ext_iff_of_nodup nl nm).mpr h
def TI(l:List Std)(n:Nat):Prop:=∀s∈l,s.b<=n/\∀m,s.e=some m->m<n
noncomputable def ML(s:Std):D:=match s.e with|none=>.tup s.ws|some _=>.av
noncomputable def cur(l:List Std):D:=match l.getLast? with|none=>.av|some s=>ML s
theorem j7(r:List Std)(s:Std):cur (r++[s])=ML s:=by unfold cur;rw[List.getLast?_concat]
theorem Rx(h:TI l n):wt l n=cur l:=by by_cases e:l=[];subst e;rfl;obtain⟨r,s,rfl⟩:=kC e;rw[j7];unfold wt;rw[List.reverse_append];obtain⟨h1,h2⟩:=h s<|zI _<|zA.mpr rfl;show IV (s::r.reverse) (n:Int)=_;unfold IV ML;rw[if_pos<|show(s.b:Int)<=(n:Int) by lia];cases q:s.e with|none=>rfl|some m=>have:=h2 m q;exact if_neg<|show ¬(n:Int)<=(m:Int) by lia
theorem TI.up(h:TI l n):TI l (n+1):=λs hs=>{Nat.le_succ_of_le (h s hs).1,λm e=>Nat.lt_succ_of_lt<|(h s hs).2 m e}
theorem TI.close(h:TI l n):TI (iR n l) (n+1):=by by_cases e:l=[];subst e;exact λs hs=>(nomatch hs);obtain⟨r,s,rfl⟩:=kC e;rw[eX];intro x hx;rcases zL.mp hx with hx|hx;exact h.up x<|ye _ hx;rw[zA.mp hx];exact{Nat.le_succ_of_le (h s<|zI _<|zA.mpr rfl).1,λm e=>by cases e;exact Nat.lt_succ_self _}
theorem TI.beg(h:TI l<|n+1):TI (l++[Std.mk (n+1) none ws]) (n+1):=λs hs=>by rcases zL.mp hs with hs|hs;exact h s hs;rw[zA.mp hs];exact{zp _,λm e=>(by cases e)}
theorem Gw:cur (iR n l)=.av:=by by_cases e:l=[];subst e;rfl;obtain⟨r,s,rfl⟩:=kC e;rw[eX,j7];rfl
noncomputable def tw(kn:Kn)(z:Str):D:=match iU kn z with|none=>.av|some ws=>.tup ws
structure RI(rs:mi)(n:Nat)(kn:Kn):Prop where
 ti:∀z,TI ((lu rs z).getD []) n
 eq:∀z,cur ((lu rs z).getD [])=tw kn z
 ks:∀r∈rs,r.1∈KS
theorem MM(h:r∈CJ rs z s):r.1=z\/∃r'∈rs,r'.1=r.1:=by unfold CJ at h;split at h;obtain⟨r0,xC,e⟩:=zj.mp h;refine .inr {r0,xC,?_};subst e;split<;>rfl;rcases zL.mp h with h|h;exact .inr ⟨r,h,rfl⟩;rw[zA.mp h];exact .inl rfl
theorem Jy(h:∀r∈rs,r.1∈KS)(hz:z∈KS):∀r∈CJ rs z s,r.1∈KS:=λr hr=>by rcases MM hr with e|⟨r',sC,e⟩;rw[e];exact hz;rw[<-e];exact h r' sC
theorem Ew:tw (qd kn z ws) k=if k=z then .tup ws else tw kn k:=by unfold tw;rw[Mv];by_cases h:k=z;rw[if_pos h,if_pos h];rw[if_neg h,if_neg h]
theorem Ex:tw (wW kn z) k=if k=z then .av else tw kn k:=by unfold tw;rw[Mw];by_cases h:k=z;rw[if_pos h,if_pos h];rw[if_neg h,if_neg h]
theorem RI.nil:RI [] 0 []:={λz s hs=>(nomatch hs),λz=>rfl,λr hr=>(nomatch hr)}
theorem RI.put(h:RI rs n kn)(hz:z∈KS):RI (uc rs z (n+1) ws) (n+1) (qd kn z ws):=by refine{λk=>?_,λk=>?_,Jy h.ks hz};unfold uc;rw[jY];by_cases e:k=z;rw[if_pos e];exact(h.ti z).up.beg;rw[if_neg e];exact(h.ti k).up;unfold uc;rw[jY,Ew];by_cases e:k=z;rw[if_pos e,if_pos e];exact j7 _ _;rw[if_neg e,if_neg e];exact h.eq k
theorem RI.del(h:RI rs n kn)(hz:z∈KS):RI (oF rs z n) (n+1) (wW kn z):=by refine{λk=>?_,λk=>?_,Jy h.ks hz};unfold oF;rw[jY];by_cases e:k=z;rw[if_pos e];exact(h.ti z).close;rw[if_neg e];exact(h.ti k).up;unfold oF;rw[jY,Ex];by_cases e:k=z;rw[if_pos e,if_pos e];exact Gw;rw[if_neg e,if_neg e];exact h.eq k
theorem RI.change(h:RI rs n kn)(hz:z∈KS):RI (uc (oF rs z n) z (n+1) ws) (n+1) (qd kn z ws):=by have h1:=h.del hz;refine{λk=>?_,λk=>?_,Jy h1.ks hz};unfold uc;rw[jY];by_cases e:k=z;rw[if_pos e];exact(h1.ti z).beg;rw[if_neg e];exact h1.ti k;unfold uc;rw[jY,Ew];by_cases e:k=z;rw[if_pos e,if_pos e];exact j7 _ _;rw[if_neg e,if_neg e,h1.eq k,Ex,if_neg e]
theorem RI.wt{rs:mi}{n:Nat}{kn:Kn}(h:RI rs n kn)(z:Str):wt ((lu rs z).getD []) n=tw kn z:=by rw[Rx<|h.ti z,h.eq]
theorem RI.Bf(h:RI rs n kn)(hz:z∈KS):Bf rs (.str z) n=tw kn z:=by rw[wO (fX z hz).1,h.wt]
theorem u5(kn:Kn)(z:Str):ah (tw kn z)=!(iU kn z).isSome:=by unfold tw;cases iU kn z<;>rfl
theorem Ot(h:bI C S a F cs dl rs):(rs.map (·.1)).Nodup:=by obtain⟨ld,lr,ra,h,_,rfl⟩:=h;unfold ir;rw[zG];exact h.kn
theorem RI.len(h:RI rs n kn)(hs:bI C S a F cs dl rs):rs.length<=60:=by
 have:=sub_len (Ot hs) (m:=KS) λx hx=>by obtain⟨r,hr,rfl⟩:=zj.mp hx;exact h.ks r hr
 rw[zb]at this;exact zO this<|by trivial
noncomputable def Ry(kn:Kn)(ss:List Str):List D:=ss.map λz=>.tup [.str z,tw kn z]
theorem V7(h:lu rs k=some s):k∈rs.map (·.1):=by induction rs with|nil=>(cases h)|cons r rs ih=>rw[fB]at h;rw[zu];by_cases e:r.1=k;exact zi.mpr<|.inl e.symm;rw[if_neg e]at h;exact zh _<|ih h
noncomputable def oK(k:Nat)(l:List Std):List Std:=match l.getLast? with|none=>l|some s=>match s.e with|none=>iR k l|some _=>l
theorem pK(h:s.e=none):oK k (r++[s])=r++[Std.mk s.b (some k) s.ws]:=by unfold oK;rw[List.getLast?_concat];dsimp only;rw[h];exact eX _ _ _
theorem AO(h:s.e=some n):oK k (r++[s])=r++[s]:=by unfold oK;rw[List.getLast?_concat];dsimp only;rw[h]
theorem MN{s:Std}{r:List Std}{m:Nat}(h:m<s.b):IV (s::r) m=IV r m:=by show(if (s.b:Int)<=(m:Int) then _ else IV r m)=_;rw[if_neg<|by lia]
theorem Gx(hm:m<=n):wt (oK n l) m=wt l m:=by by_cases e:l=[];subst e;rfl;obtain⟨r,s,rfl⟩:=kC e;cases q:s.e with|some k=>rw[AO q]|none=>rw[pK q];unfold wt;rw[List.reverse_append,List.reverse_append];show(if (s.b:Int)<=(m:Int) then (if (m:Int)<=(n:Int) then D.tup s.ws else .av) else IV r.reverse m)=(if (s.b:Int)<=(m:Int) then (match s.e with|none=>.tup s.ws|some n=>if (m:Int)<=(n:Int) then .tup s.ws else .av) else IV r.reverse m);rw[q,if_pos<|show(m:Int)<=(n:Int) by lia]
theorem CY(h:cur l≠.av):oK n l=iR n l:=by by_cases e:l=[];subst e;rfl;obtain⟨r,s,rfl⟩:=kC e;rw[j7]at h;cases q:s.e with|none=>rw[pK q,eX]|some m=>unfold ML at h;rw[q]at h;exact absurd rfl h
noncomputable def iz(kn:Kn)(ss:List Str):List Row:=ss.map λz=>(z,(iU kn z).getD [])
structure Snap(rs:mi)(cs:List (Str×Str))(m:Nat)(rows:List Row):Prop where
 ex:∃kn ss,rows=iz kn ss/\KI cs kn/\ss.Perm (kn.map (·.1))/\PyProof.Rows.sortedS ss=true/\∀z,wt ((lu rs z).getD []) m=tw kn z
theorem u6(p:ss.Perm (kn.map (·.1))):(iz kn ss).map aj=Ry kn ss:=by unfold iz Ry;rw[zG];refine zW λz hz=>?_;obtain⟨ws,CZ⟩:=l_<|p.mem_iff.mp hz;show D.tup [.str z,.tup<|(iU kn z).getD []]=.tup [.str z,tw kn z];unfold tw;rw[CZ];rfl
theorem AQ(hI:KI cs kn)(p:ss.Perm (kn.map (·.1))):Rg cs (iz kn ss):=by refine{λr hr=>?_,?_};obtain⟨z,hz,rfl⟩:=zj.mp hr;obtain⟨ws,CZ⟩:=l_<|p.mem_iff.mp hz;show Wg cs ((iU kn z).getD []);rw[CZ];exact(hI.ok _<|qF CZ).2;unfold iz;rw[zG];show(ss.map id).Nodup;rw[List.map_id];exact p.nodup_iff.mpr hI.nd
theorem Gy(hI:KI cs kn)(p:ss.Perm (kn.map (·.1))):(iz kn ss).length<=60:=by unfold iz;rw[zb,p.length_eq,zb];exact hI.len
theorem Snap.rg(h:Snap rs cs m rows):Rg cs rows/\rows.length<=60:=by obtain⟨kn,ss,rfl,hI,p,_⟩:=h.ex;exact{AQ hI p,Gy hI p}
theorem Snap.key(h:Snap rs cs m rows):∀r∈rows,r.1∈KS:=by obtain⟨kn,ss,rfl,hI,p,_⟩:=h.ex;intro r hr;obtain⟨z,hz,rfl⟩:=zj.mp hr;obtain⟨ws,CZ⟩:=l_<|p.mem_iff.mp hz;exact(hI.ok _<|qF CZ).1
theorem u7{C a:Addr}{S:au}{F:List Addr}{cs:List<|Str×Str}{dl:List D}{rs:mi}{m:Nat}{rows:List Row}(h:Snap rs cs m rows)(hs:bI C S a F cs dl rs){ss:List Str} (p1:ss.Perm (rs.map (·.1))) (o1:PyProof.Rows.sortedS ss=true):l9 rs m ss=rows.map aj:=by
 obtain⟨kn,s2,rfl,hI,p2,o2,hw⟩:=h.ex;rw[u6 p2];have e:ss.filter (λz=>!ah (wt ((lu rs z).getD []) m))=s2:=by refine u4 ((oJ o1).filter _) (oJ o2) ?_ (p2.nodup_iff.mpr hI.nd) λz=>?_;exact List.filter_sublist.nodup<|p1.nodup_iff.mpr<|Ot hs;rw[yD,hw,u5,Bool.not_not,p1.mem_iff,p2.mem_iff];constructor;rintro⟨_,hz⟩;obtain⟨ws,CZ⟩:=Option.isSome_iff_exists.mp hz;exact zj.mpr {_,qF CZ,rfl};intro hz;obtain⟨ws,CZ⟩:=l_ hz;refine{?_,by rw[CZ];rfl};have e:=hw z;unfold tw at e;rw[CZ]at e;cases q:lu rs z with|none=>(rw[q]at e;cases e)|some s=>exact V7 q
 unfold l9 Ry;rw[e];refine zW λz _=>?_;unfold wQ;rw[hw]
def HI(rs:mi)(cs:List<|Str×Str)(n:Nat)(hs:List<|List Row):Prop:=hs.length=n+1/\∀m rows,hs[m]?=some rows->Snap rs cs m rows
theorem HI.step{rs cH:mi}{cs:List<|Str×Str}{n:Nat}{hs:List<|List Row}(h:HI rs cs n hs)(old:∀z m,m<=n->wt ((lu cH z).getD []) m=wt ((lu rs z).getD []) m){kn:Kn}(hI:KI cs kn)(hR:RI cH (n+1) kn){ss:List Str}(p:ss.Perm (kn.map (·.1)))(o:PyProof.Rows.sortedS ss=true):HI cH cs (n+1) (hs++[iz kn ss]):=by
 refine{by rw[zx,h.1];rfl,λm rows e=>?_};by_cases hm:m<hs.length;rw[List.getElem?_append_left hm]at e;obtain⟨kn0,s0,e0,h1,h2,h3,h4⟩:=(h.2 m rows e).ex;have:=h.1;exact{kn0,s0,e0,h1,h2,h3,λz=>(old z m<|by lia).trans<|h4 z};rw[List.getElem?_append_right<|by lia]at e;have NX:m-hs.length=0:=by cases q:m-hs.length with|zero=>rfl|succ k=>rw[q]at e;simp at e
 rw[NX]at e;cases e;have:=h.1;have hmn:m=n+1:=by lia
 subst hmn;exact{kn,ss,rfl,hI,p,o,λz=>hR.wt z}
theorem Rz{l:List Std}{n m:Nat}{ws:List D}(hm:m<=n):wt (l++[Std.mk (n+1) none ws]) m=wt l m:=by unfold wt;rw[List.reverse_append];exact MN<|show m<n+1 by lia
theorem Ey(k:Str)(m:Nat)(hm:m<=n):wt ((lu (uc rs z (n+1) ws) k).getD []) m=wt ((lu rs k).getD []) m:=by unfold uc;rw[jY];by_cases e:k=z;rw[if_pos e,e];exact Rz hm;rw[if_neg e]
theorem Ez(h:RI rs n kn)(hz:(iU kn z).isSome=true)(k:Str)(m:Nat)(hm:m<=n):wt ((lu (oF rs z n) k).getD []) m=wt ((lu rs k).getD []) m:=by
 unfold oF;rw[jY];by_cases e:k=z;rw[if_pos e,e];have hc:cur ((lu rs z).getD [])≠.av:=by rw[h.eq];unfold tw;cases q:iU kn z with|none=>(rw[q]at hz;cases hz)|some ws=>exact λe=>by cases e
 show wt (iR n<|(lu rs z).getD []) m=_;rw[<-CY hc,Gx hm];rw[if_neg e]
theorem EA(hz:z∈KS):Gt S (.str z):=Et<|by have:=(fX z hz).2.1;lia
section
variable{t:eQ}{S:au}{a:Addr}{F:List Addr}{cs:List (Str×Str)}{dl:List D}{rs:mi}{kn:Kn}{d:D}{R:KD}{Z:KX}
theorem Jz(hz:z∈KS)(h:Wg cs ws):oA cs (.str z) (.tup ws)=true:=by unfold oA;rw[h.Rp,show ofStr kO (.str z)=true from(fX z hz).1];rfl
theorem C3(hR:RI rs dl.length kn)(hz:z∈KS):ah (Bf rs (.str z) dl.length)=!(iU kn z).isSome:=by rw[hR.Bf hz,u5]
theorem V8(h:iU kn z=none):(!(iU kn z).isSome)=true:=by rw[h];rfl
theorem JA(h:(iU kn z).isSome=true):(!(iU kn z).isSome)=false:=by rw[h];rfl
theorem tf{b:Bool}(h1:b=true)(h2:b=false){p:Prop} : p:=by rw[h1]at h2;cases h2
theorem bI.out(hS:bI C S a F cs dl rs)(hb:S b=none):b∉F:=λm=>by obtain⟨ld,lr,ra,h,rfl,_⟩:=hS;unfold fp at m;simp only[zi,zj]at m;rcases m with e|e|e|⟨r,hr,e⟩;have:=h.ins;rw[<-e,hb]at this;cases this;have:=h.xB;rw[<-e,hb]at this;cases this;have:=h.run;rw[<-e,hb]at this;cases this;have:=h.cell r hr;rw[e,hb]at this;cases this
theorem bI.off(hS:bI C S a F cs dl rs)(hp:p∉F):bI C (S.set p c) a F cs dl rs:=by obtain⟨ld,lr,ra,hh,rfl,e2⟩:=hS;unfold fp at hp;simp only[zi,not_or]at hp;obtain⟨n1,n2,n3,n4⟩:=hp;exact{ld,lr,ra,{(ag<|Ne.symm n1).trans hh.ins,(ag<|Ne.symm n2).trans hh.xB,(ag<|Ne.symm n3).trans hh.run,λr hr=>(ag λe=>n4<|by rw[<-e];exact zj.mpr ⟨r,hr,rfl⟩).trans<|hh.cell r hr,hh.kn,hh.an,hh.sz},rfl,e2}
structure Dos(t:eQ)(ds:List D)(S:au)(R:KD)(Z:KX):Prop where
 of:CO t ds S R Z
theorem u9(hS:bI t.ak S a F cs dl rs)(hg:Gd cs)(hI:KI cs kn)(hR:RI rs dl.length kn)(hl:dl.length<=100)(hd:GD KS cs kn d){j5:Kn}(hkn:KnD kn d j5) (q:∀S' F' cH,bI t.ak S' a F' cs (dl++[d]) cH->Be F F' S S'->RI cH (dl.length+1) j5->(∀z m,m<=dl.length->wt ((lu cH z).getD []) m=wt ((lu rs z).getD []) m)->R .av S'):Dos t [.ref a,d] S R Z:=by
 have hrl:=hR.len hS;have V9:=hg.1;obtain⟨ld,lr,ra,h,_,_⟩:=id hS;refine{a,_,h.ins,rfl,?_};rcases hd with⟨z,ws,hz,hw,hn,rfl⟩|⟨z,ws,hz,hw,hn,rfl⟩|⟨z,hz,hn,rfl⟩;have ro:=Jz hz hw;have st:=(C3 hR hz).trans<|V8 hn;refine .inl {_,_,rfl,a,F,cs,_,rs,_,_,rfl,hS,V9,EA hz,hw.gts V9,by lia,by lia,λe=>tf ro e,λ_ e=>tf st e,λz' Xy e1 e2 _ _ S' F' qw hK=>?_};cases e1;cases e2;have V_:j5=qd kn z ws:=by rcases hkn with⟨n,y,vs,_,e1,e2⟩|⟨y,_,e1,_⟩<;>cases e1;exact e2
 subst V_;exact q S' F' _ qw hK (hR.put hz) Ey;have ro:=Jz hz hw;have st:=(C3 hR hz).trans<|JA hn;refine .inr<|.inl {_,_,rfl,a,F,cs,_,rs,_,_,rfl,hS,V9,EA hz,hw.gts V9,by lia,by lia,λe=>tf ro e,λ_ e=>tf e st,λz' Xy e1 e2 _ _ S' F' qw hK=>?_};cases e1;cases e2;have V_:j5=qd kn z ws:=by rcases hkn with⟨n,y,vs,_,e1,e2⟩|⟨y,_,e1,_⟩<;>cases e1;exact e2
 subst V_;exact q S' F' _ qw hK (hR.change hz) λk m hm=>(Ey k m hm).trans<|Ez hR hn k m hm;have st:=(C3 hR hz).trans<|JA hn;refine .inr<|.inr !{a,F,cs,_,rs,_,rfl,hS,EA hz,by lia,λe=>tf (fX z hz).1 e,λ_ e=>tf e st,λz' e1 _ _ S' qw hK=>?_};cases e1;have V_:j5=wW kn z:=by rcases hkn with⟨n,y,vs,_,e1,e2⟩|⟨y,_,e1,e2⟩<;>cases e1;exact e2
 subst V_;exact q S' F _ qw hK (hR.del hz)<|Ez hR hn
theorem Snap.vw(h:Snap rs cs m rows)(hS:bI t.ak S a F cs dl rs)(hR:RI rs dl.length kn)(hm:ub dl.length md=some (m:Int))(Xg:Gt S md):Vw t.ak S a cs md rows:=by have:=h.rg;refine{{F,dl,rs,hS,by have:=hR.len hS;lia,(λe=>by rw[hm]at e;cases e),λi ss hi hp hs=>?_},Xg,by lia,this.1};rw[hm]at hi;cases hi;exact u7 h hS hp hs
end
def XE(S:au)(F:List Addr)(S':au):Prop:=∀b c,S b=some c->b∉F/\S' b=some c
theorem XE.sub(h:XE S F S'):Sub S S':=λb c e=>(h b c e).2
theorem KI.nil(cs:List<|Str×Str):KI cs []:={List.nodup_nil,λ_ h=>(nomatch h)}
theorem nq(ns:List Int)(lo hi:Option Int):dP (ns.map D.int) lo hi=(dP ns lo hi).map D.int:=by unfold dP;rw[zb,List.map_take,List.map_drop]
structure St(t:eQ)(S0:au)(a:Addr)(fs:List (Addr×Ce))(F:List Addr)(cs:List (Str×Str))(dl:List D)(rs:mi)(S:au):Prop where
 sh:bI t.ak S a F cs dl rs
 fa:∀x∈fs,S x.1=some x.2/\x.1∉F/\S0 x.1=none
 nd:(fs.map Prod.fst).Nodup
 Bh:XE S0 F S
section
variable{t:eQ}{S0:au}{a:Addr}{fs:List (Addr×Ce)}{F:List Addr}{cs:List (Str×Str)}{dl:List D}{rs:mi}{S:au}
theorem St.at(h:St t S0 a fs F cs dl rs S)(i:Nat)(e:fs[i]?=some (b,c)):S b=some c:=(h.fa _<|zo e).1
theorem St.sub(h:St t S0 a fs F cs dl rs S)(b:Sub S S'):St t S0 a fs F cs dl rs S':={h.sh.sub b,λx hx=>{b _ _ (h.fa x hx).1,(h.fa x hx).2},h.nd,λx c hx=>{(h.Bh x c hx).1,b _ _ (h.Bh x c hx).2}}
theorem St.zero(h:St t S0 a fs F cs dl rs S)(hb:S b=none):S0 b=none:=by cases e:S0 b with|none=>rfl|some c=>have:=h.Bh.sub _ _ e;rw[hb]at this;cases this
theorem St.new(h:St t S0 a fs F cs dl rs S)(hp:S p=none)(c:Ce):St t S0 a (fs++[(p,c)]) F cs dl rs (S.set p c):=by
 have h1:=h.sub<|.new (c:=c) hp;refine{h1.sh,λx hx=>?_,?_,h1.Bh};rcases zL.mp hx with hx|hx;exact h1.fa x hx;rw[zA.mp hx];exact{aa,h.sh.out hp,h.zero hp};rw[zy,List.nodup_append];refine{h.nd,by simp,λx hx y hy e=>?_};obtain⟨z,hz,rfl⟩:=zj.mp hx;have hy:y=p:=by simpa using hy
 have:=(h.fa z hz).1;rw[e,hy,hp]at this;cases this
theorem St.put(h:St t S0 a fs F cs dl rs S)(i:Nat)(e:fs[i]?=some (b,c))(c':Ce):St t S0 a (fs.set i (b,c')) F cs dl rs (S.set b c'):=by
 have hb:=h.fa _<|zo e;have hi:=(ze.mp e).1;have em:(fs.set i (b,c')).map Prod.fst=fs.map Prod.fst:=by refine List.ext_getElem? λj=>?_;rw[zf,zf];by_cases q:j=i;subst q;rw[yj hi,e];rfl;rw[yk<|Ne.symm q]
 refine{h.sh.off hb.2.1,λx hx=>?_,by rw[em];exact h.nd,λx c hx=>{(h.Bh x c hx).1,(ag<|gZ hx hb.2.2).trans (h.Bh x c hx).2}};obtain⟨j,hj⟩:=zZ hx;by_cases q:j=i;subst q;rw[yj hi]at hj;cases hj;exact⟨aa,hb.2⟩;rw[yk<|Ne.symm q]at hj;have LK:=h.fa x<|zo hj;refine{(ag λe2=>q ?_).trans LK.1,LK.2};have a1:(fs.map Prod.fst)[j]?=some x.1:=by rw[zf,hj];rfl
 have a2:(fs.map Prod.fst)[i]?=some b:=by rw[zf,e];rfl
 obtain⟨b1,c1⟩:=ze.mp a1;obtain⟨b2,c2⟩:=ze.mp a2;exact(List.getElem_inj h.nd (h₀:=b1) (h₁:=b2)).mp<|by rw[c1,c2];exact e2
theorem St.perm(h:St t S0 a fs F cs dl rs S)(p:Nk.Perm fs):St t S0 a Nk F cs dl rs S:={h.sh,λx hx=>h.fa x<|p.mem_iff.mp hx,(p.map _).nodup_iff.mpr h.nd,h.Bh}
theorem St.less(h:St t S0 a fs F cs dl rs S)(n:(Nk.map Prod.fst).Nodup)(p:∀x∈Nk,x∈fs):St t S0 a Nk F cs dl rs S:={h.sh,λx hx=>h.fa x<|p x hx,n,h.Bh}
theorem St.RA(h:St t S0 a fs F cs dl rs S)(hS:bI t.ak S' a F' cs SF cH)(hK:Be F F' S S'):St t S0 a fs F' cs SF cH S':={hS,λx hx=>by obtain⟨h1,h2,h3⟩:=h.fa x hx;exact by obtain⟨k1,k2⟩:=hK _ _ h2 h1;exact⟨k2,k1,h3⟩,h.nd,λx c hx=>by obtain⟨h1,h2⟩:=h.Bh x c hx;exact hK _ _ h1 h2}
end
abbrev Wa:=List<|Addr×List Row
noncomputable def aaK(x:Addr×List Row):Addr×Ce:=(x.1,.lst<|x.2.map aj)
theorem Vw.sub(h:Vw C S a cs m rows)(b:Sub S S'):Vw C S' a cs m rows:=by obtain⟨F,dl,rs,h1,h2⟩:=h.sh;exact{{F,dl,rs,h1.sub b,h2},h.mo.sub b,h.len,h.rg}
theorem EB(q:R (.bl<|if neg then !(x==y) else (x==y)) S):Fx neg (.bl x) (.bl y) S R:=⟨.bool x,.bool y,by simp only[Dl,Dp],by simp only[Dl,Dp],by simp only[PyData.canLay0],by simp only[PyData.canLay0],.inl<|by simp only[PyData.depth];lia,by
 have e:PyData.eqv (.bool x) (.bool y)=(x==y):=by cases x<;>cases y<;>rfl
 rw[e];exact q⟩
theorem Ou(q:R (.bl<|if neg then !decide (i=j) else decide (i=j)) S):Fx neg (.str i) (.str j) S R:=q
noncomputable def cV(w e:Str)(x y:D):Int:=if pJ x y=true then 0 else if du ("",w,e) x y=true then -1 else 1
def Cm(x y:D):Prop:=∃k,Vg k x/\Vg k y
theorem sN{w e:Str}(h:Cm x y):cV w e x y=0↔x=y:=by obtain⟨k,hx,hy⟩:=h;unfold cV;by_cases q:pJ x y=true;rw[if_pos q];simpa using (dF hx.2 hy.2).mp q;rw[if_neg q];have q':¬x=y:=λz=>q<|(dF hx.2 hy.2).mpr z;constructor;intro z;split at z<;>cases z;exact λz=>absurd z q'
theorem AR{w e:Str}(h:Cm x y):cV w e x y<0↔x≠y/\du ("",w,e) x y=true:=by obtain⟨k,hx,hy⟩:=h;unfold cV;by_cases q:pJ x y=true;rw[if_pos q];have:=(dF hx.2 hy.2).mp q;simp[this];rw[if_neg q];have q':¬x=y:=λz=>q<|(dF hx.2 hy.2).mpr z;by_cases l:du ("",w,e) x y=true;rw[if_pos l];simp[q',l];rw[if_neg l];simp[l]
inductive cT (ds:List D) (S:au) (R:KD) (Z:KX):Prop where
 |mk (x y wy e) (h0:ds=[x,y,.str e]) (h1:Cm x y) (h2:(x=.av\/y=.av)) (h3:R (.int<|cV wy e x y) S)
theorem jl(T:Txt w K mg t):Ok P w base T.dJ 1 cT:=by
 refine T.dJ.F.bL eE ?_;rintro _ _ _ _ _ _ _ S R Z hr ⟨x,y,wy,e,e0,⟨k,hx,hy⟩,hn,q⟩;subst e0;refine{_,(sc (si (twd<|twand (bu iE hr.u (dv 0) dn)<|tw1<|bu iE hr.u (dv 1) dn) (s1<|sr di) s0)<|sc (b_ (i:=3) eE.nd<|cm bz hr.u (dv 2) ds)<|s1<|sr<|LF (bu bz hr.u (dv 3)<|cm iE hr.u (dv 0) dn) (HR di) di),?_};unfold cV at q;refine !!⟨cA (λh=>!!⟨cA (λh2=>?_) λh2=>?_⟩) λh=>?_⟩;rw[d_ h,d_ h2]at q;exact fo q;have e1:ah x≠ah y:=by rw[show ah x=true from h,show ah y=false from h2];decide
 rw[xc e1,if_neg zd]at q;unfold du at q;rw[show ah x=true from h,show ah y=false from h2]at q;refine !!!⟨?_⟩;dsimp only[dC,Zi];refine EB !⟨?_⟩;have q:R (.int<|if (ah x==decide (e ="first"))=true then -1 else 1) S:=by rw[show ah x=true from h];exact q
 rw[Bool.beq_comm]at q;refine cA (λz=>?_) λz=>?_;rw[if_pos<|show(decide (e ="first")==ah x)=true from z]at q;exact{_,rfl,fo q};rw[if_neg λz2=>tf z2<|show(decide (e ="first")==ah x)=false from z]at q;exact fo q;have hy1:ah y=true:=by rcases hn with rfl|rfl;cases h;rfl
 have e1:ah x≠ah y:=by rw[show ah x=false from h,hy1];decide
 rw[xc e1,if_neg zd]at q;unfold du at q;rw[show ah x=false from h,hy1]at q;refine !!!⟨?_⟩;dsimp only[dC,Zi];refine EB !⟨?_⟩;have q:R (.int<|if (ah x==decide (e ="first"))=true then -1 else 1) S:=by rw[show ah x=false from h];exact q
 rw[Bool.beq_comm]at q;refine cA (λz=>?_) λz=>?_;rw[if_pos<|show(decide (e ="first")==ah x)=true from z]at q;exact{_,rfl,fo q};rw[if_neg λz2=>tf z2<|show(decide (e ="first")==ah x)=false from z]at q;exact fo q
inductive sO (ds:List D) (S:au) (R:KD) (Z:KX):Prop where
 |mk (x y wy e) (h0:ds=[x,y,.str wy,.str e]) (h1:Cm x y) (h2:R (.int<|cV wy e x y) S)
theorem pL(T:Txt w K mg t):Ok P w base T.compared 2 sO:=by refine T.compared.F.bL ph ?_;rintro _ _ _ _ _ _ _ S R Z hr ⟨x,y,wy,e,e0,hc,q⟩;subst e0;obtain⟨k,hx,hy⟩:=id hc;refine{_,(sc (si (twd<|twor (bu iE hr.u (dv 0) dn)<|tw1<|bu iE hr.u (dv 1) dn) (s1<|sr<|aV T.dJ (jl T) hr<|al 0<|al 1<|al 3 an) s0)<|sc (si (bu bz hr.u (dv 0)<|dv 1) (s1<|sr di) s0)<|sc (b_ (i:=4) ph.nd<|cm x8 hr.u (dv 0)<|dv 1)<|s1<|sr<|LF (bu bz hr.u (dv 4)<|cm bz hr.u (dv 2) ds) (HR di) di),?_};have none:∀Zq:KX,x=.av\/y=.av->cT [x,y,.str e] S (λd S'=>Fo S'<|R d) Zq:=λ_ hn=>{x,y,wy,e,rfl,hc,hn,fo q};refine !!⟨cA (λh=>?_) λh=>!!⟨cA (λh2=>?_) λh2=>?_⟩⟩;exact !!!⟨none _<|.inl<|d_ h⟩;exact !!!⟨none _<|.inr<|d_ h2⟩;clear none;have nx:ah x=false:=h;have ny:ah y=false:=h2;unfold cV at q;refine !!⟨AJ hx.2 hy.2 !⟨cA (λh3=>?_) λh3=>?_⟩⟩;have h3:pJ x y=true:=h3;rw[if_pos h3]at q;exact fo q;have h3:pJ x y=false:=h3;rw[h3,if_neg zd]at q;unfold du at q;rw[nx,ny]at q;have q:R (.int<|if (ud x y==decide (wy ="up"))=true then -1 else 1) S:=q;rcases w_ hx hy (bA nx) (bA ny) with⟨i,j,rfl,rfl⟩|⟨i,j,rfl,rfl⟩;refine !!!!⟨?_⟩;dsimp only[dC];refine Ou ?_;refine EB ?_;refine{_,rfl,?_};refine cA (λz=>?_) λz=>?_;rw[if_pos<|show(ud (.int i) (.int j)==decide (wy ="up"))=true from z]at q;exact{_,rfl,fo q};rw[if_neg λz2=>tf z2<|show(ud (.int i) (.int j)==decide (wy ="up"))=false from z]at q;exact fo q;refine !!!!⟨?_⟩;dsimp only[dC];refine Ou ?_;refine EB ?_;refine{_,rfl,?_};refine cA (λz=>?_) λz=>?_;rw[if_pos<|show(ud (.str i) (.str j)==decide (wy ="up"))=true from z]at q;exact{_,rfl,fo q};rw[if_neg λz2=>tf z2<|show(ud (.str i) (.str j)==decide (wy ="up"))=false from z]at q;exact fo q
noncomputable def C5(ps:List Part)(wy:Str):List (Str×Str):=ps.map Prod.snd++[(wy,("last": Str))]
noncomputable def fe:List (Str×Str)->List D->List D->Int|w::ws,x::xs,y::ys=>(if cV w.1 w.2 x y=0 then fe ws xs ys else cV w.1 w.2 x y)|_,_,_=>0
def PV(ks:List Str)(xs:List D):Prop:=Paired (λk x=>Vg k x) ks xs
theorem AS:∀{ws:List (Str×Str)}{ks:List Str}{xs ys:List D},ws.length=ks.length->PV ks xs->PV ks ys->(fe ws xs ys=0↔xs=ys)|[],_,_,_,h,.nil,.nil=>by simp[fe]|w::ws,_,_,_,h,.cons (b:=x) a1 a2,.cons (b:=y) b1 b2=>by unfold fe;have c:=sN (w:=w.1) (e:=w.2) {_,a1,b1};by_cases q:cV w.1 w.2 x y=0;rw[if_pos q,AS (Nat.succ.inj h) a2 b2,c.mp q];simp;rw[if_neg q];exact{λz=>absurd z q,λz=>absurd (c.mpr (List.cons.inj z).1) q}
theorem JB:∀{ws:List (Str×Str)}{ks:List Str}{xs ys zs:List D},PV ks xs->PV ks ys->PV ks zs->fe ws xs ys<0->fe ws ys zs<0->fe ws xs zs<0|[],_,_,_,_,_,_,_,h,_=>by simp[fe]at h|w::ws,_,_,_,_,.nil,.nil,.nil,h,_=>by simp[fe]at h|w::ws,_,_,_,_,.cons (b:=x) a1 a2,.cons (b:=y) b1 b2,.cons (b:=z) c1 c2,h1,h2=>by unfold fe at h1 h2⊢;have e1:=sN (w:=w.1) (e:=w.2) {_,a1,b1};have e2:=sN (w:=w.1) (e:=w.2) {_,b1,c1};have e3:=sN (w:=w.1) (e:=w.2) {_,a1,c1};by_cases q1:x=y;subst q1;rw[if_pos<|e1.mpr rfl]at h1;by_cases q2:x=z;subst q2;rw[if_pos<|e2.mpr rfl]at h2⊢;exact JB a2 b2 c2 h1 h2;rw[if_neg λz=>q2<|e2.mp z]at h2⊢;exact h2;rw[if_neg λz=>q1<|e1.mp z]at h1;by_cases q2:y=z;subst q2;rw[if_neg λz=>q1<|e3.mp z];exact h1;rw[if_neg λz=>q2<|e2.mp z]at h2;obtain⟨q3,l3⟩:=MD (p:=("",w.1,w.2)) a1 b1 c1 q1 q2 ((AR {_,a1,b1}).mp h1).2 ((AR {_,b1,c1}).mp h2).2;rw[if_neg λz=>q3<|e3.mp z];exact(AR {_,a1,c1}).mpr ⟨q3,l3⟩
noncomputable def MO(cs:List<|Str×Str)(z:Str):Str:=((cs[Rh cs z]?).map Prod.snd).getD "word"
noncomputable def XF(cs:List<|Str×Str)(ps:List Part):List Str:=ps.map (λp=>MO cs p.1)++[("word": Str)]
noncomputable def Ov(cs:List<|Str×Str)(ps:List Part)(r:Row):List D:=ps.map (λp=>ao cs r.2 p.1)++[.str r.1]
theorem pM:∀z∈KS,Vg "word" (.str z):=by
 have h:∀z∈KS,(px z&&cR (.str z))=true:=by trivial
 exact λz hz=>let q:=Bool.and_eq_true_iff.mp<|h z hz;⟨q.1,q.2⟩
theorem iW:∀{l:List α}{m:List β}{l':List α}{m':List β},Paired r l m->Paired r l' m'->Paired r (l++l') (m++m')|_,_,_,_,.nil,h=>h|_,_,_,_,.cons a t,h=>.cons a<|iW t h
theorem C6(hg:Gd cs)(hp:Pin cs ps)(hw:Wg cs ws):Paired (λk x=>Vg k x) (ps.map λp=>MO cs p.1) (ps.map λp=>ao cs ws p.1):=by induction ps with|nil=>exact .nil|cons p ps ih=>refine .cons ?_<|ih hp.tail;obtain⟨c,hc,e⟩:=hp p zm;show Vg (MO cs p.1) (ao cs ws p.1);unfold MO;rw[<-e,(w9 hg hc).1];exact(qG hg hw hc).2
theorem JC(hg:Gd cs)(hp:Pin cs ps)(hw:Wg cs r.2)(hk:r.1∈KS):PV (XF cs ps) (Ov cs ps r):=iW (C6 hg hp hw)<|.cons (pM _ hk) .nil
theorem EC(hg:Gd cs){wy:Str}(ha:Wg cs a.2)(hb:Wg cs b.2)(ka:a.1∈KS)(kb:b.1∈KS)(n:a.1≠b.1):∀{ps:List Part},Pin cs ps->(dm cs wy ps a b=true↔fe (C5 ps wy) (Ov cs ps a) (Ov cs ps b)<0)|[],_=>(by show(uz a.1 b.1==decide (wy ="up"))=true↔(if cV wy "last" (.str a.1) (.str b.1)=0 then 0 else cV wy "last" (.str a.1) (.str b.1))<0;have n':(.str a.1:D)≠.str b.1:=λe=>n<|D.str.inj e;rw[if_neg λz=>n'<|(sN {_,pM _ ka,pM _ kb}).mp z,AR {_,pM _ ka,pM _ kb}];exact{λh=>⟨n',h⟩,λh=>h.2})|p::ps,hp=>by obtain⟨k,hk⟩:=xb hg hp;have va:=hk _ ha;have vb:=hk _ hb;show(if pJ (ao cs a.2 p.1) (ao cs b.2 p.1)=true then dm cs wy ps a b else du p (ao cs a.2 p.1) (ao cs b.2 p.1))=true↔(if cV p.2.1 p.2.2 (ao cs a.2 p.1) (ao cs b.2 p.1)=0 then fe (C5 ps wy) (Ov cs ps a) (Ov cs ps b) else cV p.2.1 p.2.2 (ao cs a.2 p.1) (ao cs b.2 p.1))<0;by_cases q:ao cs a.2 p.1=ao cs b.2 p.1;rw[if_pos<|(dF va.2 vb.2).mpr q,if_pos<|(sN {_,va,vb}).mpr q];exact EC hg ha hb ka kb n hp.tail;rw[if_neg λz=>q<|(dF va.2 vb.2).mp z,if_neg λz=>q<|(sN {_,va,vb}).mp z,AR {_,va,vb}];exact{λh=>⟨q,h⟩,λh=>h.2}
noncomputable def Wb(ws:List<|Str×Str)(g:List D)(sd:Str)(x:List D):Bool:=decide (fe ws x g<0)||(decide (fe ws x g=0)&&decide (sd ="behind"))
theorem Wc{ws:List<|Str×Str}{ks:List Str}{g x y:List D}{sd:Str}(hl:ws.length=ks.length)(hx:PV ks x)(hy:PV ks y)(hg:PV ks g)(h:fe ws x y<0)(q:Wb ws g sd y=true):Wb ws g sd x=true:=by unfold Wb at q⊢;simp only[yJ,zM,zY]at q⊢;rcases q with q|⟨q,_⟩;exact .inl<|JB hx hy hg h q;rw[<-(AS hl hy hg).mp q];exact .inl h
theorem C7:∀{l:List α},(l.Pairwise λa b=>g b=true->g a=true)->∀{i:Nat}{a:α},l[i]?=some a->(g a=true↔i<l.countP g)
 |[],_,i,a,h=>by simp at h
 |x::l,hp,i,a,h=>by
  obtain⟨h1,h2⟩:=List.pairwise_cons.mp hp;rw[List.countP_cons];by_cases q:g x=true;rw[if_pos q];cases i with|zero=>(cases h;simp[q])|succ i=>rw[C7 h2<|show l[i]?=some a from h];lia
  have z:l.countP g=0:=List.countP_eq_zero.mpr λb hb e=>q<|h1 b hb e;rw[if_neg q,z];have:g a≠true:=by cases i with|zero=>(cases h;exact q)|succ i=>exact λe=>q<|h1 a (zo h) e
  simp[this]
theorem RB{α:Type}{g:α->Bool}{l:List α}(hp:l.Pairwise λa b=>g b=true->g a=true){n:Nat}(hn:n<=l.length)(h1:∀i a,i<n->l[i]?=some a->g a=true)(h2:∀i a,n<=i->l[i]?=some a->g a=false):n=l.countP g:=by
 have hc:l.countP g<=l.length:=List.countP_le_length;rcases Nat.lt_trichotomy n (l.countP g) with h|h|h;have hi:n<l.length:=by lia
 have e:=zg hi;have:=(C7 hp e).mpr h;rw[h2 n _ (zp _) e]at this;cases this;exact h;have hi:l.countP g<l.length:=by lia
 have e:=zg hi;have:=(C7 hp e).mp<|h1 _ _ h e;lia
noncomputable def Kf(xs:List D)(k:Str):D:=.tup [.tup xs,.str k]
abbrev u_:=List D×Str×Str
noncomputable def oM(g:u_):D:=.tup [Kf g.1 g.2.1,.str g.2.2]
noncomputable def MP:Option u_->D|none=>.av|some g=>oM g
noncomputable def AU(z:Str):Bool:=decide (z ="ahead")||decide (z ="behind")
structure Gp(cs:List (Str×Str))(ps:List Part)(g:u_):Prop where
 pv:Paired (λk x=>Vg k x) (ps.map λp=>MO cs p.1) g.1
 key:g.2.1∈KS
 side:AU g.2.2=true
def Bg(cs:List<|Str×Str)(ps:List Part)(b:Option u_):Prop:=∀g,b=some g->Gp cs ps g
noncomputable def Wd(g:u_):List D:=g.1++[.str g.2.1]
theorem Gp.vs(h:Gp cs ps g):PV (XF cs ps) (Wd g):=iW h.pv<|.cons (pM _ h.key) .nil
theorem Gp.len(h:Gp cs ps g):g.1.length=ps.length:=by have:=yG h.pv;rw[zb]at this;exact this.symm
theorem Og.len(h:Og cs ps wy):ps.length<=8:=by have:=h.ok;unfold AF at this;simp only[zM,zY]at this;exact this.1
theorem C8(hg:Gd cs)(hc:c∈cs):c.1.cps.size<=1000:=by have h:=(hg.2.2 c hc).1;unfold k_ at h;simp only[zM,zY]at h;lia
inductive vd (ds:List D) (S:au) (R:KD) (Z:KX):Prop where
 |mk (z) (h0:ds=[.str z]) (h1:R (.bl<|AU z) S)
theorem C9(T:Txt w K mg t):Ok P w base T.wb 1 vd:=by refine T.wb.F.bL Cz ?_;obtain⟨z,e,q⟩;refine{_,(s1<|sr<|tP (cb c_ T.ax aq<|al 0<|ac (s9 T.pb jx) an)<|J_<|ZM T.v5 (dv 0)<|dg (v:=.ref t.iG) T.tU rfl λ_=>gL _),?_};refine !{_,_,_,_,rfl,cW,rfl,_,rfl,dh !{z,rfl,rfl,?_}};rw[Je];exact fo q
inductive gk (ds:List D) (S:au) (R:KD) (Z:KX):Prop where
 |mk (cs ps xs) (h0:ds=[.tup<|cs.map aA,.tup<|ps.map p3,.tup xs]) (h1:Gd cs) (h2:Pin cs ps) (h3:ps.length<=8) (h4:Paired (λk x=>Vg k x) (ps.map λp=>MO cs p.1) xs) (h5:R (.bl true) S)
theorem kR(T:Txt w K mg t):Ok P w base T.eK 4 gk:=by
 refine T.eK.F.bL kM ?_;obtain⟨cs,ps,xs,e,hg,hp,h8,hv,q⟩;have hl:xs.length=ps.length:=by have:=yG hv;rw[zb]at this;exact this.symm
 have Sz:(ps.map p3).length=ps.length:=zb _;refine{_,(sc (si (twd<|twor (cI<|tv<|cb c_ T.ax aq<|al 2<|ac (s9 T.bJ bp) an)<|tw1<|bu lP hr.u (cb bj T.bb aK<|al 2 an)<|cb bj T.bb aK<|al 1 an) (s1<|sr db) s0)<|s1<|sr<|cb kZ T.k8 gJ<|ac (uH (N:=["part","value","columns"]) (src:=[none,none,some 0]) (lO (ae lS) ["columns","parts","thing"] rfl rfl<|by trivial) (izn T.IM<|al 1<|al 2 an) (ZL<|show(["part","value","columns"]:List Str).Nodup by trivial) (vA rfl rfl) vO (λ_ _ _ _ _=>rB) λ_ _ _ _ _=>(aV T.jJ (jV T) hr<|ac (aV T.eJ (gW T) hr<|al 2<|ac (ix hr.u (dv 0) di) an)<|al 1 an)) an),?_};refine !{_,_,_,_,rfl,aZ,rfl,_,rfl,bh !!!!!⟨bB (by rw[hl,Sz];simp) ?_⟩};refine !!{_,_,rfl,by rw[hl,Sz],?_};refine comp_map (λ_=>.bl true) trivial (by show(cC _ _).length<=_;unfold cC;rw[List.length_zipWith];lia) (λd hd Q hQ=>?_) λp kD=>?_;have hd:d∈cC (ps.map p3) xs:=hd;unfold cC at hd;obtain⟨i,ei⟩:=zZ hd;obtain⟨x,y,e2,e3,e4⟩:=List.getElem?_zipWith_eq_some.mp ei;subst e4;rw[zf]at e2;cases e5:ps[i]? with|none=>(rw[e5]at e2;cases e2)|some pt=>rw[e5]at e2;cases e2;obtain⟨c,hc,ec⟩:=hp pt<|zo e5;obtain⟨k,ek,hk⟩:=cS hv e3;rw[zf,e5]at ek;cases ek;have hk:Vg (MO cs pt.1) y:=hk;unfold MO at hk;rw[<-ec,(w9 hg hc).1]at hk;have hk:Vg c.2 y:=hk;refine !{rfl,_,_,rfl,_,_,rfl,rfl,_,rfl,_,rfl,_,rfl,cs,pt.1,rfl,hg,by rw[<-ec];exact C8 hg hc,λk' Hv=>?_,λhn=>absurd (zj.mpr ⟨c,hc,ec⟩) hn};have e6:k'=c.2:=(by have:=gD (f:=Prod.fst) hg.2.1 Hv hc ec.symm;rw[<-this]);rw[e6];refine !{c.2,y,rfl,Oi hk,?_};rw[hk.1];exact hQ
 have e2:(cC (ps.map p3) xs).map (λ_=>D.bl true)=((cC (ps.map p3) xs).map λ_=>true).map D.bl:=by rw[zG];rfl
 have e3:((cC (ps.map p3) xs).map λ_=>true).all id=true:=by rw[all_map];exact yg.mpr λ_ _=>rfl
 refine{.ref p,(cC (ps.map p3) xs).map λ_=>true,rfl,?_,?_};show(S.set p<|.lst<|(cC (ps.map p3) xs).map _) p=_;rw[aa,e2];rw[e3];exact{S,.new kD,q}
inductive ly (ds:List D) (S:au) (R:KD) (Z:KX):Prop where
 |mk (cs ps wy xs k) (h0:ds=[.tup<|cs.map aA,eB ps wy,Kf xs k]) (h1:Gd cs) (h2:Pin cs ps) (h3:ps.length<=8) (h4:Paired (λk x=>Vg k x) (ps.map λp=>MO cs p.1) xs) (h5:k∈KS) (h6:R .av S)
theorem sP(T:Txt w K mg t):Ok P w base T.jK 5 ly:=by refine T.jK.F.bL rW ?_;obtain⟨cs,ps,wy,xs,k,e,hg,hp,h8,hv,hk,q⟩;refine{_,(sc (si (twd<|twor (cI<|tv<|cb c_ T.ax aq<|al 2<|ac (s9 T.bJ bp) an)<|tw1<|bu lP hr.u (cb bj T.bb aK<|al 2 an) di) (s1<|rA ⟨T.dI⟩ T.eS<|ac ds an) s0)<|sc (si (cI<|tv<|aV T.eK (kR T) hr<|al 0<|ac (ix hr.u (dv 1) di)<|ac (ix hr.u (dv 2) di) an) (s1<|rA ⟨T.dI⟩ T.eS<|ac ds an) s0)<|s1<|si (cI<|tv<|aV T.lZ (iq T) hr<|ac (ix hr.u (dv 2) di) an) (s1<|rA ⟨T.dI⟩ T.eS<|ac ds an) s0),?_};refine !{_,_,_,_,rfl,aZ,rfl,_,rfl,bh !!!⟨bh ?_⟩};refine !!!!!{cs,ps,xs,rfl,hg,hp,h8,hv,_,rfl,bh ?_};refine !!{.str k,rfl,EA hk,_,rfl,?_};rw[show ofStr kO (.str k)=true from(fX k hk).1];exact bh<|fo q
inductive pN (ds:List D) (S:au) (R:KD) (Z:KX):Prop where
 |mk (cs ps wy g) (h0:ds=[.tup<|cs.map aA,eB ps wy,oM g]) (h1:Gd cs) (h2:Pin cs ps) (h3:ps.length<=8) (h4:Gp cs ps g) (h5:R .av S)
theorem xg(T:Txt w K mg t):Ok P w base T.oi 6 pN:=by refine T.oi.F.bL wB ?_;obtain⟨cs,ps,wy,g,e,hg,hp,h8,hv,q⟩;refine{_,(sc (si (twd<|twor (cI<|tv<|cb c_ T.ax aq<|al 2<|ac (s9 T.bJ bp) an)<|tw1<|bu lP hr.u (cb bj T.bb aK<|al 2 an) di) (s1<|rA ⟨T.dI⟩ T.eS<|ac ds an) s0)<|sc (se<|aV T.jK (sP T) hr<|al 0<|al 1<|ac (ix hr.u (dv 2) di) an)<|s1<|si (cI<|tv<|aV T.wb (C9 T) hr<|ac (ix hr.u (dv 2) di) an) (s1<|rA ⟨T.dI⟩ T.eS<|ac ds an) s0),?_};refine !{_,_,_,_,rfl,aZ,rfl,_,rfl,bh !!!⟨bh ?_⟩};refine !!!!{cs,ps,wy,g.1,g.2.1,rfl,hg,hp,h8,hv.pv,hv.key,?_};refine !!{g.2.2,rfl,_,rfl,?_};rw[hv.side];exact bh<|fo q
inductive lA (ds:List D) (S:au) (R:KD) (Z:KX):Prop where
 |mk (cs ps wy b) (h0:ds=[.tup<|cs.map aA,eB ps wy,MP b]) (h1:Gd cs) (h2:Pin cs ps) (h3:ps.length<=8) (h4:Bg cs ps b) (h5:R .av S)
theorem gm(T:Txt w K mg t):Ok P w base T.eV 7 lA:=by refine T.eV.F.bL rX ?_;obtain⟨cs,ps,wy,b,e,hg,hp,h8,hv,q⟩;refine{_,(s1<|si (bu nR hr.u (dv 2) dn) (s1<|se<|aV T.oi (xg T) hr<|al 0<|al 1<|al 2 an) s0),?_};cases b with|none=>exact (!!⟨bh<|fo q⟩)|some g=>exact !!⟨dh !!!{cs,ps,wy,g,rfl,hg,hp,h8,hv g rfl,fo q}⟩
inductive nr (ds:List D) (S:au) (R:KD) (Z:KX):Prop where
 |mk (n:Int) (h0:ds=[.int n]) (h1:1<=n) (h2:n<=1000) (h3:R .av S)
theorem lB(T:Txt w K mg t):Ok P w base T.iN 2 nr:=by refine T.iN.F.bL tZ ?_;obtain⟨n,e,h1,h2,q⟩;refine{_,(s1<|si (twd<|twor (cI<|tv<|aV T.jI (jU T) hr<|al 0 an)<|tw1<|cI<|W5 jz jz hr.u di (dv 0)<|dg (v:=.int 1000) T.vX {_,rfl} λ_=>aP _) (s1<|rA ⟨T.n_⟩ T.Cs<|ac ds an) s0),?_};refine !{.int n,rfl,gt_int,_,rfl,bh !!⟨lh (zC h1) !⟨?_⟩⟩};exact bB (by show(!decide (n<=1000))=false;rw[zC h2];rfl)<|fo q
inductive nv (ds:List D) (S:au) (R:KD) (Z:KX):Prop where
 |mk (cs ps wy d n b) (h0:ds=[.tup<|cs.map aA,eB ps wy,d,.int n,MP b]) (h1:Gd cs) (h2:Og cs ps wy) (h3:Sq cs d) (h4:1<=n) (h5:n<=1000) (h6:Bg cs ps b) (h7:R .av S)
theorem lC(T:Txt w K mg t):Ok P w base T.iM 8 nv:=by refine T.iM.F.bL tY ?_;obtain⟨cs,ps,wy,d,n,b,e,hg,ho,hd,h1,h2,hv,q⟩;refine{_,(sc (se<|aV T.eT (f_ T) hr<|al 0<|al 1 an)<|sc (se<|aV T.eU (gb T) hr<|al 0<|al 2 an)<|sc (se<|aV T.iN (lB T) hr<|al 3 an)<|s1<|se<|aV T.eV (gm T) hr<|al 0<|al 1<|al 4 an),?_};refine !!{cs,ps,wy,rfl,hg,ho.tx,λ_=>?_,λz=>tf ho.ok z};refine !!{cs,d,rfl,hg,hd,_,rfl,n,rfl,h1,h2,?_};exact !!!{cs,ps,wy,b,rfl,hg,ho.pin,ho.len,hv,fo q}
structure An(cs:List (Str×Str))(ps:List Part)(wy:Str)(A:List Row):Prop where
 rg:Rg cs A
 ky:∀r∈A,r.1∈KS
 pw:A.Pairwise λa b=>dm cs wy ps a b=true
noncomputable def gP(cs:List<|Str×Str)(ps:List Part)(wy:Str)(g:u_)(r:Row):Bool:=Wb (C5 ps wy) (Wd g) g.2.2<|Ov cs ps r
theorem MQ:(C5 ps wy).length=(XF cs ps).length:=by unfold C5 XF;simp
theorem An.lex(hg:Gd cs)(hp:Pin cs ps)(h:An cs ps wy A):A.Pairwise λa b=>fe (C5 ps wy) (Ov cs ps a) (Ov cs ps b)<0:=by have nd:A.Pairwise λa b=>a.1≠b.1:=List.pairwise_map.mp h.rg.2;refine(h.pw.and nd).imp_of_mem λ{a b} ha hb q=>?_;exact(EC hg (h.rg.1 a ha) (h.rg.1 b hb) (h.ky a ha) (h.ky b hb) q.2 hp).mp q.1
theorem An.mono(hg:Gd cs)(hp:Pin cs ps)(h:An cs ps wy A)(hv:Gp cs ps g):A.Pairwise λa b=>gP cs ps wy g b=true->gP cs ps wy g a=true:=by refine(h.lex hg hp).imp_of_mem λ{a b} ha hb q=>?_;exact Wc MQ (JC hg hp (h.rg.1 a ha)<|h.ky a ha) (JC hg hp (h.rg.1 b hb)<|h.ky b hb) hv.vs q
inductive sQ (ds:List D) (S:au) (R:KD) (Z:KX):Prop where
 |mk (cs ps wy r) (h0:ds=[.tup<|cs.map aA,eB ps wy,aj r]) (h1:Gd cs) (h2:Pin cs ps) (h3:ps.length<=8) (h4:Wg cs r.2) (h5:R (Kf (ps.map λp=>ao cs r.2 p.1) r.1) S)
theorem j8(T:Txt w K mg t):Ok P w base T.jL 3 sQ:=by
 refine T.jL.F.bL pj ?_;obtain⟨cs,ps,wy,r,e,hg,hp,h8,hw,q⟩;refine{_,(sc (Qt (i:=3) (N:=["part","columns","row"]) (src:=[none,some 0,some 2]) pj.nd (lO (ae Co) ["columns","order","row","values"] rfl rfl<|by trivial) (NR<|ix hr.u (dv 1) di) (qx<|show(["part","columns","row"]:List Str).Nodup by trivial) (a_ rfl) ba (λ_ _ _ _ _=>rB) λ_ _ _ _ _=>(aV T.cz (dN T) hr<|al 1<|al 2<|ac (ix hr.u (dv 0) di) an))<|s1<|sr<|ck<|ac (ct km T.bJ bp<|al 3 an)<|ac (ix hr.u (dv 2) di) an),?_};refine !!{_,.inl rfl,?_};refine comp_map (λd=>match d with|.tup (.str z::_)=>ao cs r.2 z|_=>.av) trivial (by show(ps.map p3).length<=_;rw[zb];lia) (λd hd Q hQ=>?_) λp kD=>?_;obtain⟨pt,hpt,rfl⟩:=zj.mp hd;obtain⟨c,hc,ec⟩:=hp pt hpt;refine !!!!{cs,r,c,(by rw[ec];rfl),hg,hw,hc,?_};rw[ec];exact hQ;have e3:(ps.map p3).map (λd=>match d with|.tup (.str z::_)=>ao cs r.2 z|_=>.av)=ps.map λp=>ao cs r.2 p.1:=by rw[zG];rfl
 rw[show({ps.map p3,λ_=>True}:s_).xs=ps.map p3 from rfl,e3];exact !{_,_,rfl,.inl aa,_,rfl,_,rfl,cQ,S,.new kD,q}
inductive gE (ds:List D) (S:au) (R:KD) (Z:KX):Prop where
 |mk (ps:List Part) (wy:Str) (xs:List D) (k:Str) (ys:List D) (l:Str) (ks:List Str) (h0:ds=[eB ps wy,Kf xs k,Kf ys l]) (h1:ps.length=xs.length) (h2:ps.length=ys.length) (h3:Paired (λk x=>Vg k x) ks xs) (h4:Paired (λk x=>Vg k x) ks ys) (h5:k∈KS) (h6:l∈KS) (h7:R (.int<|fe (C5 ps wy) (xs++[.str k])<|ys++[.str l]) S)
theorem me(T:Txt w K mg t):Ok P w base T.e_ 3 gE:=by refine T.e_.F.bL bG ?_;obtain⟨ps,wy,xs,k,ys,l,ks,e,h1,h2,vx,vy,hk,hl,q⟩;refine{_,(sc (xy<|GQ (aak T.IM<|ac (ix hr.u (dv 0) di)<|ac (ix hr.u (dv 1) di)<|ac (ix hr.u (dv 2) di) an) (gt (n:=3)<|gc (gn (i:=3) bG.nd)<|gc (gn (i:=4) bG.nd)<|gc (gn (i:=5) bG.nd) g0)<|sc (b_ (i:=6) bG.nd<|aV T.compared (pL T) hr<|al 4<|al 5<|ac (ix hr.u (dv 3) di)<|ac (ix hr.u (dv 3) di) an)<|s1<|si (bu lP hr.u (dv 6) di) (s1<|sr<|dv 6) s0)<|s1<|sr<|aV T.compared (pL T) hr<|ac (ix hr.u (dv 1) di)<|ac (ix hr.u (dv 2) di)<|ac (ix hr.u (dv 0) di)<|ac ds an),?_};refine{λaG S'=>∃(o3 o4 o5 o6:Option D),aG=[some<|eB ps wy,some<|Kf xs k,some<|Kf ys l,o3,o4,o5,o6]/\S'=S/\fe (C5 ps wy) (xs++[.str k]) (ys++[.str l])=cV wy "last" (.str k) (.str l),?_,?_};{refine !!!!!!{_,_,_,rfl,by rw[zb];exact h1,by rw[zb];exact h2,?_};refine{λi aG S'=>∃(o3 o4 o5 o6:Option D),aG=[some<|eB ps wy,some<|Kf xs k,some<|Kf ys l,o3,o4,o5,o6]/\S'=S/\fe (C5 ps wy) (xs++[.str k]) (ys++[.str l])=fe (C5 (ps.drop i) wy) (xs.drop i++[.str k]) (ys.drop i++[.str l]),{_,_,_,_,rfl,rfl,rfl},λ_ _ _ _=>trivial,?_,?_};rintro i d aG S' hd ⟨o3,o4,o5,o6,rfl,rfl,he⟩;obtain⟨x,y,z,e1,e2,e3,rfl⟩:=nY hd;rw[zf]at e1;(cases e5:ps[i]? with|none=>(rw[e5]at e1;cases e1)|some p=>rw[e5]at e1;cases e1;obtain⟨i1,g1⟩:=ze.mp e5;obtain⟨i2,g2⟩:=ze.mp e2;obtain⟨i3,g3⟩:=ze.mp e3;rw[List.drop_eq_getElem_cons i1,List.drop_eq_getElem_cons i2,List.drop_eq_getElem_cons i3,g1,g2,g3]at he;have he:_=if cV p.2.1 p.2.2 y z=0 then fe (C5 (ps.drop<|i+1) wy) (xs.drop (i+1)++[.str k]) (ys.drop (i+1)++[.str l]) else cV p.2.1 p.2.2 y z:=he;obtain⟨k1,q1,v1⟩:=cS vx e2;obtain⟨k2,q2,v2⟩:=cS vy e3;cases q1.symm.trans q2;refine !{rfl,_,_,rfl,_,_,rfl,_,_,rfl,rfl,?_};refine !!!!!!{y,z,p.2.1,p.2.2,rfl,⟨k1,v1,v2⟩,_,rfl,_,rfl,cA (λh=>?_) λh=>?_};have h:(!decide (cV p.2.1 p.2.2 y z=0))=true:=h;rw[if_neg<|yh<|nt h]at he;rw[he]at q;exact{_,rfl,fo q};have h:(!decide (cV p.2.1 p.2.2 y z=0))=false:=h;rw[if_pos<|zt<|nf h]at he;exact{_,_,_,_,rfl,rfl,he});{rintro aG S' ⟨o3,o4,o5,o6,rfl,rfl,he⟩;have he:_=fe (C5 (ps.drop (jB (ps.map p3) xs ys).length) wy) (xs.drop (jB (ps.map p3) xs ys).length++[.str k]) (ys.drop (jB (ps.map p3) xs ys).length++[.str l]):=he;rw[nX (by rw[zb];exact h1)<|by rw[zb];exact h2,zb,List.drop_length,h1,List.drop_length,<-h1,h2,List.drop_length]at he;refine fo {o3,o4,o5,o6,rfl,rfl,he.trans ?_};show(if cV wy "last" (.str k) (.str l)=0 then 0 else cV wy "last" (.str k) (.str l))=_;split;{next h=>exact h.symm};rfl}};rintro aG S' ⟨o3,o4,o5,o6,rfl,rfl,he⟩;rw[he]at q;exact !!!!!!{_,_,_,_,rfl,{_,pM k hk,pM l hl},fo q}
inductive sR (ds:List D) (S:au) (R:KD) (Z:KX):Prop where
 |mk (cs ps wy r g) (h0:ds=[eB ps wy,Kf (ps.map λp=>ao cs r.2 p.1) r.1,oM g]) (h1:Gd cs) (h2:Pin cs ps) (h3:Wg cs r.2) (h4:r.1∈KS) (h5:Gp cs ps g) (h6:R (.bl<|gP cs ps wy g r) S)
theorem AV(T:Txt w K mg t):Ok P w base T.rS 4 sR:=by refine T.rS.F.bL pq ?_;obtain⟨cs,ps,wy,r,g,e,hg,hp,hw,hk,hv,q⟩;refine{_,(sc (b_ (i:=3) pq.nd<|aV T.e_ (me T) hr<|al 0<|al 1<|ac (ix hr.u (dv 2) di) an)<|sc (si (bu bz hr.u (dv 3) di) (s1<|sr<|cm bz hr.u (ix hr.u (dv 2) di) ds) s0)<|s1<|sr<|cm x8 hr.u (dv 3) di),?_};refine !!!!{ps,wy,_,r.1,g.1,g.2.1,_,rfl,by rw[zb],hv.len.symm,C6 hg hp hw,hv.pv,hk,hv.key,_,rfl,_,rfl,?_};unfold gP Wb at q;change R (.bl<|decide (fe (C5 ps wy) ((ps.map λp=>ao cs r.2 p.1)++[.str r.1]) (g.1++[.str g.2.1])<0)||decide (fe (C5 ps wy) ((ps.map λp=>ao cs r.2 p.1)++[.str r.1]) (g.1++[.str g.2.1])=0)&&decide (g.2.2 ="behind")) S at q;generalize fe (C5 ps wy) _ _=n at q⊢;refine cA (λh=>?_) λh=>?_;have h:n=0:=zt h;subst h;exact !!⟨fo q⟩;have h:¬n=0:=yh h;rw[zB h,zX,Bool.or_false]at q;exact{_,rfl,fo q}
inductive lE (ds:List D) (S:au) (R:KD) (Z:KX):Prop where
 |mk (cs ps wy A l g) (h0:ds=[.tup<|cs.map aA,eB ps wy,.ref l,oM g]) (h1:Gd cs) (h2:Pin cs ps) (h3:ps.length<=8) (h4:S l=some (.lst<|A.map aj)) (h5:An cs ps wy A) (h6:Gp cs ps g) (h7:R (.int ((A.countP (gP cs ps wy g):Nat):Int)) S)
theorem cU(T:Txt w K mg t):Ok P w base T.cM 5 lE:=by
 refine T.cM.F.bL cj ?_;obtain⟨cs,ps,wy,A,l,g,e,hg,hp,h8,hl,hA,hv,q⟩;refine{_,(sc (b_ (i:=4) cj.nd di)<|sc (b_ (i:=5) cj.nd<|cb bj T.bb aK<|al 2 an)<|sc (xy<|Z7 (bu x8 hr.u (dv 4)<|dv 5)<|sc (b_ (i:=6) cj.nd<|bo bR hr.u (bo aY hr.u (dv 4)<|dv 5) di)<|s1<|si (tv<|aV T.rS (AV T) hr<|al 1<|ac (aV T.jL (j8 T) hr<|al 0<|al 1<|ac (ix hr.u (dv 2)<|dv 6) an)<|al 3 an) (s1<|b_ (i:=4) cj.nd<|bo aY hr.u (dv 6) di)<|s1<|b_ (i:=5) cj.nd<|dv 6)<|s1<|sr<|dv 4),?_};refine !!⟨.inl {_,hl,?_}⟩;rw[zb];refine{λaG S'=>∃(o6:Option D),aG=[some<|.tup<|cs.map aA,some<|eB ps wy,some<|.ref l,some<|oM g,some<|.int ((A.countP (gP cs ps wy g):Nat):Int),some<|.int ((A.countP (gP cs ps wy g):Nat):Int),o6]/\S'=S,?_,?_};refine{λm aG S'=>∃(lo hi:Nat)(o6:Option D),aG=[some<|.tup<|cs.map aA,some<|eB ps wy,some<|.ref l,some<|oM g,some<|.int (lo:Nat),some<|.int (hi:Nat),o6]/\S'=S/\m=hi-lo/\lo<=hi/\hi<=A.length/\(∀i a,i<lo->A[i]?=some a->gP cs ps wy g a=true)/\(∀i a,hi<=i->A[i]?=some a->gP cs ps wy g a=false),{_,0,A.length,none,rfl,rfl,rfl,zT _,zp _,λi a h=>absurd h<|Nat.not_lt_zero _,λi a h e=>?_},?_};rw[List.getElem?_eq_none h]at e;cases e;rintro m aG S' ⟨lo,hi,o6,rfl,rfl,rfl,h1,h2,b1,b2⟩;refine !!!⟨cA (λh=>?_) λh=>?_⟩;have h:lo<hi:=by have:=zt h;lia
 have hm:(lo+hi)/2<A.length:=by lia
 have em:=zg hm;generalize A[(lo+hi)/2]=r at em;have Gi:=zo em;have ed:(((lo:Nat):Int)+((hi:Nat):Int))/2=(((lo+hi)/2:Nat):Int):=by lia
 have mono:=hA.mono hg hp hv;refine !!⟨{by decide,by decide},?_⟩;rw[ed];refine !!!!!{_,aj r,hl,bW<|by rw[zf,em];rfl,cs,ps,wy,r,rfl,hg,hp,h8,hA.rg.1 r Gi,_,rfl,cs,ps,wy,r,g,rfl,hg,hp,hA.rg.1 r Gi,hA.ky r Gi,hv,_,rfl,cA (λz=>?_) λz=>?_};refine !{hi-((lo+hi)/2+1),by lia,(lo+hi)/2+1,hi,_,rfl,rfl,rfl,by lia,h2,λi a Qq ei=>?_,b2};rcases Nat.lt_or_ge i ((lo+hi)/2) with eC|Xh;exact List.pairwise_iff_getElem.mp mono i _ (ze.mp ei).1 hm eC |> λk=>by rw[(ze.mp ei).2,(ze.mp em).2]at k;exact k z
 have:i=(lo+hi)/2:=by lia
 subst this;rw[em]at ei;cases ei;exact z;refine !{(lo+hi)/2-lo,by lia,lo,(lo+hi)/2,_,rfl,rfl,rfl,by lia,by lia,b1,λi a Qq ei=>?_};rcases Nat.lt_or_ge ((lo+hi)/2) i with eC|Xh;cases qa:gP cs ps wy g a with|false=>rfl|true=>have k:=List.pairwise_iff_getElem.mp mono _ i hm (ze.mp ei).1 eC;rw[(ze.mp ei).2,(ze.mp em).2]at k;exact tf (k qa) z
 have:i=(lo+hi)/2:=by lia
 subst this;rw[em]at ei;cases ei;exact z;have h:lo=hi:=by have:=yh h;lia
 subst h;have:=RB (hA.mono hg hp hv) h2 b1 b2;subst this;exact fo !⟨rfl⟩;rintro aG S' ⟨o6,rfl,rfl⟩;exact{_,rfl,fo q}
noncomputable def seg{α:Type}(A:List α)(b e:Nat):List α:=(A.drop b).take<|e-b
theorem ED(h:b<=e)(h2:e<=A.length):dP (A.map aj) (some ((b:Nat):Int)) (some ((e:Nat):Int))=(seg A b e).map aj:=by unfold dP seg;rw[HT.sIx_nat,HT.sIx_nat,zb,Nat.min_eq_left h2,Nat.min_eq_left<|zO h h2,List.map_take,List.map_drop]
noncomputable def C_(p:Addr)(b c:Nat):D:=.tup [.ref p,.int (b:Nat),.int (c:Nat)]
noncomputable def GU(cs:List<|Str×Str)(ps:List Part)(wy:Str)(A:List Row)(n:Nat):Option u_->Nat|none=>n|some g=>A.countP<|gP cs ps wy g
structure Gz(cs:List (Str×Str))(ps:List Part)(wy:Str)(n:Nat)(d:D)(rows A:List Row):Prop where
 an:An cs ps wy A
 pm:A.Perm (rows.filter λr=>cn cs r n d)
theorem Gz.one(hg:Gd cs)(hp:Pin cs ps)(h:Gz cs ps wy n d rows A)(h':Gz cs ps wy n d rows A'):A=A':=ME hg hp h'.an.rg h.an.pw h'.an.pw<|h.pm.trans h'.pm.symm
def Ow(rows:List Row):Prop:=∀r∈rows,r.1∈KS
theorem xh{cs:List<|Str×Str}{ps:List Part}{wy:Str}{n:Nat}{d:D}{rows A:List Row}(hr:Rg cs rows)(hk:Ow rows)(pm:A.Perm<|rows.filter λr=>cn cs r n d)(pw:A.Pairwise λa b=>dm cs wy ps a b=true):Gz cs ps wy n d rows A:={{(hr.sub List.filter_sublist).perm pm,λr h=>hk r (yD.mp<|pm.mem_iff.mp h).1,pw},pm}
noncomputable def GA(A:List Row)(b n:Nat):Nat:=min (b+n) A.length
def RC(t:eQ)(f:List (Str×Str)->List Part->Str->List Row->Option u_->Nat->Nat×Nat):kI:=λds S R _=>∃(a:Addr)(cs:List (Str×Str))(ps:List Part)(wy:Str)(d m:D)(n:Nat)(b:Option u_)(rows:List Row),ds=[.ref a,eB ps wy,d,.int (n:Nat),MP b,m]/\Gd cs/\Og cs ps wy/\Sq cs d/\1<=n/\n<=1000/\Bg cs ps b/\Vw t.ak S a cs m rows/\Ow rows/\Tb t S/\∀(A:List Row)(p:Addr),Gz cs ps wy 7 d rows A->S p=none->R (C_ p (f cs ps wy A b n).1<|A.length-(f cs ps wy A b n).2) (S.set p<|.lst<|(seg A (f cs ps wy A b n).1 (f cs ps wy A b n).2).map aj)
noncomputable def XG(cs:List<|Str×Str)(ps:List Part)(wy:Str)(A:List Row)(b:Option u_)(n:Nat):Nat×Nat:=(GU cs ps wy A 0 b,GA A (GU cs ps wy A 0 b) n)
noncomputable def XH(cs:List<|Str×Str)(ps:List Part)(wy:Str)(A:List Row)(b:Option u_)(n:Nat):Nat×Nat:=(GU cs ps wy A A.length b-n,GU cs ps wy A A.length b)
theorem xj{S:au}{p q:Addr}{c e:Ce}(h:S q=none)(hp:S p=none)(hn:q≠p):Sub (S.set q e) ((S.set p c).set q e):=λb x hb=>by by_cases z:b=q;subst z;rw[aa]at hb⊢;exact hb;rw[ag z]at hb⊢;rw[ag<|gZ hb hp];exact hb
inductive JD (t:eQ) (ds:List D) (S:au) (R:KD) (Z:KX):Prop where
 |mk (a:Addr) (cs:List<|Str×Str) (ps:List Part) (wy:Str) (d m:D) (f g:Option u_) (rows:List Row) (h0:ds=[.ref a,eB ps wy,d,MP f,MP g,m]) (h1:Gd cs) (h2:Og cs ps wy) (h3:Sq cs d) (h4:Bg cs ps f) (h5:Bg cs ps g) (h6:Vw t.ak S a cs m rows) (h7:Ow rows) (h8:Tb t S) (h9:∀(A:List Row)(p:Addr),Gz cs ps wy 7 d rows A->S p=none->R (.ref p) (S.set p<|.lst<|dP (A.map aj) (some ((GU cs ps wy A 0 f:Nat):Int))<|some ((GU cs ps wy A A.length g:Nat):Int)))
inductive j9 (ds:List D) (S:au) (R:KD) (Z:KX):Prop where
 |mk (l:Addr) (A:List Row) (b e:Nat) (h0:ds=[.ref l,.int (b:Nat),.int (e:Nat)]) (h1:S l=some (.lst<|A.map aj)) (h2:b<=e) (h3:e<=A.length) (h4:∀p,S p=none->R (C_ p b<|A.length-e) (S.set p<|.lst<|(seg A b e).map aj))
theorem jd(T:Txt w K mg t):Ok P w base T.fz 1 j9:=by refine T.fz.F.bL p9 ?_;rintro _ _ _ _ _ _ _ S R Z hr ⟨l,A,b,e,e0,hl,h1,h2,q⟩;subst e0;refine{_,(s1<|sr<|ck<|ac (QO (dv 0) (o1<|dv 1)<|o1<|dv 2)<|al 1<|ac (bo rm hr.u (cb bj T.bb aK<|al 0 an)<|dv 2) an),?_};refine !!!!!{_,hl,λp hp=>?_};rw[ED h1 h2];refine !!!⟨.inl {_,(Sub.new hp) _ _ hl,_,rfl,oy,?_}⟩;rw[zb,show((A.length:Nat):Int)-((e:Nat):Int)=((A.length-e:Nat):Int) by omega];exact fo<|q p hp
inductive pO (ds:List D) (S:au) (R:KD) (Z:KX):Prop where
 |mk (l:Addr) (A:List Row) (b n:Nat) (h0:ds=[.ref l,.int (b:Nat),.int (n:Nat)]) (h1:S l=some (.lst<|A.map aj)) (h2:b<=A.length) (h3:∀p,S p=none->R (C_ p b<|A.length-GA A b n) (S.set p<|.lst<|(seg A b<|GA A b n).map aj))
theorem nA(T:Txt w K mg t):Ok P w base T.kz 2 pO:=by
 refine T.kz.F.bL wF ?_;rintro _ _ _ _ _ _ _ S R Z hr ⟨l,A,b,n,e0,hl,h1,q⟩;subst e0;refine{_,(s1<|sr<|aV T.fz (jd T) hr<|al 0<|al 1<|ac (cb NM T.Oa HL<|ac (bo aY hr.u (dv 1)<|dv 2)<|ac (cb bj T.bb aK<|al 0 an) an) an),?_};refine !!!!!!⟨.inl {_,hl,_,_,rfl,?_}⟩;rw[zb];have e1:(if decide (((A.length:Nat):Int)<((b:Nat):Int)+((n:Nat):Int))=true then ((A.length:Nat):Int) else ((b:Nat):Int)+((n:Nat):Int))=((GA A b n:Nat):Int):=by unfold GA;by_cases h:((A.length:Nat):Int)<((b:Nat):Int)+((n:Nat):Int);rw[if_pos<|zC h];omega;rw[if_neg<|by rw[zB h];exact zd];omega
 rw[e1];exact{l,A,b,GA A b n,rfl,hl,by unfold GA;omega,by unfold GA;omega,λp hp=>fo<|q p hp}
inductive nB (ds:List D) (S:au) (R:KD) (Z:KX):Prop where
 |mk (l:Addr) (A:List Row) (e n:Nat) (h0:ds=[.ref l,.int (e:Nat),.int (n:Nat)]) (h1:S l=some (.lst<|A.map aj)) (h2:e<=A.length) (h3:∀p,S p=none->R (C_ p (e-n)<|A.length-e) (S.set p<|.lst<|(seg A (e-n) e).map aj))
theorem lF(T:Txt w K mg t):Ok P w base T.iL 2 nB:=by
 refine T.iL.F.bL tX ?_;rintro _ _ _ _ _ _ _ S R Z hr ⟨l,A,e,n,e0,hl,h1,q⟩;subst e0;refine{_,(s1<|sr<|aV T.fz (jd T) hr<|al 0<|ac (cb UR T.VN QM<|ac (bo rm hr.u (dv 1)<|dv 2)<|ac di an)<|al 1 an),?_};refine !!!{_,_,rfl,?_};have e1:(if decide (((e:Nat):Int)-((n:Nat):Int)<0)=true then (0:Int) else ((e:Nat):Int)-((n:Nat):Int))=((e-n:Nat):Int):=by by_cases h:((e:Nat):Int)-((n:Nat):Int)<0;rw[if_pos<|zC h];omega;rw[if_neg<|by rw[zB h];exact zd];omega
 rw[e1];exact !{l,A,e-n,e,rfl,hl,Nat.sub_le _ _,h1,λp hp=>fo<|q p hp}
def Ox(f:List (Str×Str)->List Part->Str->List Row->Option u_->Nat->Nat×Nat):kI:=λds S R _=>∃(cs:List (Str×Str))(ps:List Part)(wy:Str)(l:Addr)(A:List Row)(n:Nat)(b:Option u_),ds=[.tup<|cs.map aA,eB ps wy,.ref l,.int (n:Nat),MP b]/\Gd cs/\Pin cs ps/\ps.length<=8/\S l=some (.lst<|A.map aj)/\An cs ps wy A/\Bg cs ps b/\∀p,S p=none->R (C_ p (f cs ps wy A b n).1<|A.length-(f cs ps wy A b n).2) (S.set p<|.lst<|(seg A (f cs ps wy A b n).1 (f cs ps wy A b n).2).map aj)
theorem ue(T:Txt w K mg t):Ok P w base T.l5 6 (Ox XG):=by refine T.l5.F.bL k9 ?_;rintro _ _ _ _ _ _ _ S R Z hr ⟨cs,ps,wy,l,A,n,b,e0,hg,hp,h8,hl,hA,hb,q⟩;subst e0;refine{_,(sc (b_ (i:=5) k9.nd<|LF (bu iE hr.u (dv 4) dn) di<|aV T.cM (cU T) hr<|al 0<|al 1<|al 2<|al 4 an)<|s1<|sr<|aV T.kz (nA T) hr<|al 2<|al 5<|al 3 an),?_};cases b with|none=>exact (!!⟨dh !!!{l,A,0,n,rfl,hl,zT _,λp hp=>fo<|q p hp}⟩)|some g=>exact !!⟨bh !!!!{cs,ps,wy,A,l,g,rfl,hg,hp,h8,hl,hA,hb g rfl,_,rfl,_,rfl,_,rfl,l,A,_,n,rfl,hl,List.countP_le_length,λp hp=>fo<|q p hp}⟩
theorem qh(T:Txt w K mg t):Ok P w base T.iK 6 (Ox XH):=by refine T.iK.F.bL i9 ?_;rintro _ _ _ _ _ _ _ S R Z hr ⟨cs,ps,wy,l,A,n,b,e0,hg,hp,h8,hl,hA,hb,q⟩;subst e0;refine{_,(sc (b_ (i:=5) i9.nd<|LF (bu iE hr.u (dv 4) dn) (cb bj T.bb aK<|al 2 an)<|aV T.cM (cU T) hr<|al 0<|al 1<|al 2<|al 4 an)<|s1<|sr<|aV T.iL (lF T) hr<|al 2<|al 5<|al 3 an),?_};cases b with|none=>refine !!⟨dh !!⟨.inl {_,hl,?_}⟩⟩;rw[zb];exact (!!!{l,A,A.length,n,rfl,hl,zp _,λp hp=>fo<|q p hp})|some g=>exact !!⟨bh !!!!{cs,ps,wy,A,l,g,rfl,hg,hp,h8,hl,hA,hb g rfl,_,rfl,_,rfl,_,rfl,l,A,_,n,rfl,hl,List.countP_le_length,λp hp=>fo<|q p hp}⟩
theorem Dc(T:Txt w K mg t)(B:Bm mg base):Ok P w base T.qz 13 (RC t XG):=by
 refine T.qz.F.bL CB ?_;rintro _ _ _ _ _ _ _ S R Z hr ⟨a,cs,ps,wy,d,m,n,b,rows,e0,hg,ho,hd,h1,h2,hb,hv,hk,ht,q⟩;subst e0;obtain⟨F,dl,rs,hS,hn,V5,Rn⟩:=hv.sh;obtain⟨ld,lr,ra,h,_⟩:=id hS;refine{_,(sc (se<|aV T.iM (lC T) hr<|ac (gu (dv 0) T.ai T.az (aN T) hr)<|al 1<|al 2<|al 3<|al 4 an)<|s1<|sr<|aV T.l5 (ue T) hr<|ac (gu (dv 0) T.ai T.az (aN T) hr)<|al 1<|ac (aV T.cg (cG T B) hr<|al 0<|al 1<|al 2<|al 5 an)<|al 3<|al 4 an),?_};refine !{a,_,rfl,h.ins,rfl,a,F,cs,dl,rs,rfl,hS,_,rfl,_,rfl,_,rfl,_,rfl,cs,ps,wy,d,n,b,rfl,hg,ho,hd,by omega,by omega,hb,?_};refine !{a,_,rfl,h.ins,rfl,a,F,cs,dl,rs,rfl,hS,_,rfl,_,rfl,_,rfl,_,rfl,_,rfl,a,cs,ps,wy,d,m,rows,rfl,hg,ho,hd,hv,ht,λA l pm pw hl=>?_};have an:=xh hv.rg hk pm pw;refine !!{cs,ps,wy,l,A,n,b,rfl,hg,ho.pin,ho.len,aa,an.an,hb,λp hp=>?_};have dO:p≠l:=λe=>by rw[e,aa]at hp;cases hp
 have xD:S p=none:=by rw[ag dO]at hp;exact hp
 exact{_,xj xD hl dO,q A p an xD}
theorem xk(T:Txt w K mg t)(B:Bm mg base):Ok P w base T.kr 13 (RC t XH):=by
 refine T.kr.F.bL wD ?_;rintro _ _ _ _ _ _ _ S R Z hr ⟨a,cs,ps,wy,d,m,n,b,rows,e0,hg,ho,hd,h1,h2,hb,hv,hk,ht,q⟩;subst e0;obtain⟨F,dl,rs,hS,hn,V5,Rn⟩:=hv.sh;obtain⟨ld,lr,ra,h,_⟩:=id hS;refine{_,(sc (se<|aV T.iM (lC T) hr<|ac (gu (dv 0) T.ai T.az (aN T) hr)<|al 1<|al 2<|al 3<|al 4 an)<|s1<|sr<|aV T.iK (qh T) hr<|ac (gu (dv 0) T.ai T.az (aN T) hr)<|al 1<|ac (aV T.cg (cG T B) hr<|al 0<|al 1<|al 2<|al 5 an)<|al 3<|al 4 an),?_};refine !{a,_,rfl,h.ins,rfl,a,F,cs,dl,rs,rfl,hS,_,rfl,_,rfl,_,rfl,_,rfl,cs,ps,wy,d,n,b,rfl,hg,ho,hd,by omega,by omega,hb,?_};refine !{a,_,rfl,h.ins,rfl,a,F,cs,dl,rs,rfl,hS,_,rfl,_,rfl,_,rfl,_,rfl,_,rfl,a,cs,ps,wy,d,m,rows,rfl,hg,ho,hd,hv,ht,λA l pm pw hl=>?_};have an:=xh hv.rg hk pm pw;refine !!{cs,ps,wy,l,A,n,b,rfl,hg,ho.pin,ho.len,aa,an.an,hb,λp hp=>?_};have dO:p≠l:=λe=>by rw[e,aa]at hp;cases hp
 have xD:S p=none:=by rw[ag dO]at hp;exact hp
 exact{_,xj xD hl dO,q A p an xD}
theorem Dd(T:Txt w K mg t)(B:Bm mg base):Ok P w base T.qA 13 (JD t):=by
 refine T.qA.F.bL fU ?_;rintro _ _ _ _ _ _ _ S R Z hr ⟨a,cs,ps,wy,d,m,f,g,rows,e0,hg,ho,hd,hf,hgg,hv,hk,ht,q⟩;subst e0;obtain⟨F,dl,rs,hS,hn,V5,Rn⟩:=hv.sh;obtain⟨ld,lr,ra,h,_⟩:=id hS;refine{_,(sc (b_ (i:=6) fU.nd<|gu (dv 0) T.ai T.az (aN T) hr)<|sc (se<|aV T.eT (f_ T) hr<|al 6<|al 1 an)<|sc (se<|aV T.eU (gb T) hr<|al 6<|al 2 an)<|sc (se<|aV T.eV (gm T) hr<|al 6<|al 1<|al 3 an)<|sc (se<|aV T.eV (gm T) hr<|al 6<|al 1<|al 4 an)<|sc (b_ (i:=7) fU.nd<|aV T.cg (cG T B) hr<|al 0<|al 1<|al 2<|al 5 an)<|sc (b_ (i:=8) fU.nd<|LF (bu iE hr.u (dv 3) dn) di<|aV T.cM (cU T) hr<|al 6<|al 1<|al 7<|al 3 an)<|sc (b_ (i:=9) fU.nd<|LF (bu iE hr.u (dv 4) dn) (cb bj T.bb aK<|al 7 an)<|aV T.cM (cU T) hr<|al 6<|al 1<|al 7<|al 4 an)<|s1<|sr<|QO (dv 7) (o1<|dv 8)<|o1<|dv 9),?_};refine !{a,_,rfl,h.ins,rfl,a,F,cs,dl,rs,rfl,hS,?_};refine !!{cs,ps,wy,rfl,hg,ho.tx,λ_=>?_,λz=>tf ho.ok z};refine !!{cs,d,rfl,hg,hd,?_};refine !!!{cs,ps,wy,f,rfl,hg,ho.pin,ho.len,hf,?_};refine !!!{cs,ps,wy,g,rfl,hg,ho.pin,ho.len,hgg,?_};refine !!!!{a,cs,ps,wy,d,m,rows,rfl,hg,ho,hd,hv,ht,λA l pm pw hl=>?_};have an:=xh hv.rg hk pm pw;have fin:∀p,(S.set l<|.lst<|A.map aj) p=none->Fo (((S.set l<|.lst<|A.map aj).set p<|.lst<|dP (A.map aj) (some ((GU cs ps wy A 0 f:Nat):Int))<|some ((GU cs ps wy A A.length g:Nat):Int))) (R<|.ref p):=λp hp=>by have dO:p≠l:=λe=>(by rw[e,aa]at hp;cases hp);have xD:S p=none:=(by rw[ag dO]at hp;exact hp);exact{_,xj xD hl dO,q A p an xD}
 cases f with|none=>(refine !!⟨dh ?_⟩;cases g with|none=>refine !!⟨dh !!⟨.inl {_,aa,?_}⟩⟩;rw[zb];exact (!!!!!{_,aa,fin})|some g=>exact !!⟨bh !!!!{cs,ps,wy,A,l,g,rfl,hg,ho.pin,ho.len,aa,an.an,hgg g rfl,_,rfl,_,rfl,_,rfl,_,rfl,_,rfl,_,aa,fin}⟩)|some f=>refine !!⟨bh !!!!{cs,ps,wy,A,l,f,rfl,hg,ho.pin,ho.len,aa,an.an,hf f rfl,?_}⟩;cases g with|none=>refine !!⟨dh !!⟨.inl {_,aa,?_}⟩⟩;rw[zb];exact (!!!!!{_,aa,fin})|some g=>exact !!⟨bh !!!!{cs,ps,wy,A,l,g,rfl,hg,ho.pin,ho.len,aa,an.an,hgg g rfl,_,rfl,_,rfl,_,rfl,_,rfl,_,rfl,_,aa,fin}⟩
structure Qs(t:eQ)(S:au)(a:Addr)(cs:List (Str×Str))(ps:List Part)(wy:Str)(d m:D)(rows:List Row):Prop where
 g:Gd cs
 o:Og cs ps wy
 s:Sq cs d
 v:Vw t.ak S a cs m rows
 k:Ow rows
 t:Tb t S
theorem Qs.sub{t:eQ}{S S':au}{a:Addr}{cs:List<|Str×Str}{ps:List Part}{wy:Str}{d m:D}{rows:List Row}(h:Qs t S a cs ps wy d m rows)(b:Sub S S'):Qs t S' a cs ps wy d m rows:={h.g,h.o,h.s,h.v.sub b,h.k,h.t.sub b}
section
variable{t:eQ}{S:au}{a:Addr}{cs:List (Str×Str)}{ps:List Part}{wy:Str}{d m:D}{rows:List Row}{R:KD}{Z:KX}(hq:Qs t S a cs ps wy d m rows)
include hq
theorem Qs.pg(b:Option u_)(h1:1<=n)(h2:n<=1000)(hb:Bg cs ps b) (k:∀(A:List Row)(p:Addr),Gz cs ps wy 7 d rows A->S p=none->R (C_ p (f cs ps wy A b n).1<|A.length-(f cs ps wy A b n).2) (S.set p<|.lst<|(seg A (f cs ps wy A b n).1 (f cs ps wy A b n).2).map aj)):W (RC t f) [.ref a,eB ps wy,d,.int (n:Nat),MP b,m] S R Z:=⟨a,cs,ps,wy,d,m,n,b,rows,rfl,hq.g,hq.o,hq.s,h1,h2,hb,hq.v,hq.k,hq.t,k⟩
theorem Qs.st(f g:Option u_)(hf:Bg cs ps f)(hg:Bg cs ps g)(k:∀(A:List Row)(p:Addr),Gz cs ps wy 7 d rows A->S p=none->R (.ref p) (S.set p<|.lst<|dP (A.map aj) (some ((GU cs ps wy A 0 f:Nat):Int))<|some ((GU cs ps wy A A.length g:Nat):Int))):W (JD t) [.ref a,eB ps wy,d,MP f,MP g,m] S R Z:=⟨a,cs,ps,wy,d,m,f,g,rows,rfl,hq.g,hq.o,hq.s,hf,hg,hq.v,hq.k,hq.t,k⟩
end
noncomputable def We(cs:List<|Str×Str)(ps:List Part)(sd:Str)(r:Row):u_:=(ps.map λp=>ao cs r.2 p.1,r.1,sd)
theorem JE{cs:List<|Str×Str}(hg:Gd cs){ps:List Part}(hp:Pin cs ps){r:Row}(hw:Wg cs r.2)(hk:r.1∈KS){sd:Str}(hs:AU sd=true):Gp cs ps (We cs ps sd r):={C6 hg hp hw,hk,hs}
inductive ve (ds:List D) (S:au) (R:KD) (Z:KX):Prop where
 |mk (cs:List<|Str×Str) (ps:List Part) (wy:Str) (p:Addr) (rows:List Row) (b c:Nat) (h0:ds=[.tup<|cs.map aA,eB ps wy,C_ p b c]) (h1:Gd cs) (h2:Pin cs ps) (h3:ps.length<=8) (h4:S p=some (.lst<|rows.map aj)) (h5:(∀r∈rows,Wg cs r.2)) (h6:(rows=[]->R .av S)) (h7:∀r0 r1,rows[0]?=some r0->rows[rows.length-1]?=some r1->R (.tup [oM<|We cs ps "ahead" r0,oM<|We cs ps "behind" r1]) S)
theorem sS(T:Txt w K mg t):Ok P w base T.qC 4 ve:=by
 refine T.qC.F.bL rY ?_;rintro _ _ _ _ _ _ _ S R Z hr ⟨cs,ps,wy,p,rows,b,c,e0,hg,hp,h8,hS,hw,q1,q2⟩;subst e0;refine{_,(sc (b_ (i:=3) rY.nd<|ix hr.u (dv 2) di)<|sc (si (bu bz hr.u (cb bj T.bb aK<|al 3 an) di) (s1<|sr dn) s0)<|s1<|sr<|ck<|ac (ck<|ac (aV T.jL (j8 T) hr<|al 0<|al 1<|ac (ix hr.u (dv 3) di) an)<|ac ds an)<|ac (ck<|ac (aV T.jL (j8 T) hr<|al 0<|al 1<|ac (ix hr.u (dv 3)<|HR di) an)<|ac ds an) an),?_};refine !!!!⟨.inl {_,hS,_,rfl,?_}⟩;rw[zb];refine cA (λh=>?_) λh=>?_;have h:((rows.length:Nat):Int)=0:=zt h;exact fo<|q1<|List.length_eq_zero_iff.mp (by lia);have h:¬((rows.length:Nat):Int)=0:=yh h;have h0:0<rows.length:=by lia
 have hl:rows.length-1<rows.length:=by lia
 have e0:=zg h0;have e1:=zg hl;generalize rows[0]=r0 at e0;generalize rows[rows.length-1]=r1 at e1;have w0:=hw r0<|zo e0;have w1:=hw r1<|zo e1;have ea:jm (rows.map aj) (-1)=some (aj r1):=by unfold jm GI;rw[zb,if_neg<|by decide,if_pos<|by lia,show((-1:Int)+((rows.length:Nat):Int)).toNat=rows.length-1 by lia];show(rows.map aj)[rows.length-1]?=_;rw[zf,e1];rfl
 refine !!!{_,aj r0,hS,bW (j:=0)<|by rw[zf,e0];rfl,cs,ps,wy,r0,rfl,hg,hp,h8,w0,cQ,?_};refine !!!!{_,aj r1,hS,ea,cs,ps,wy,r1,rfl,hg,hp,h8,w1,cQ,cQ,?_};exact fo<|q2 r0 r1 e0 e1
noncomputable def Bi:D->PyData|.int i=>.int i|.str z=>.str z|_=>.none
theorem RD(hx:cR x=true):Dp S x (Bi x)/\(Bi x).canLay0=true/\(Bi x).depth<=0:=by cases x with|av=>exact{by simp only[Dp,Bi],by simp only[Bi,PyData.canLay0],by simp only[Bi,PyData.depth];lia}|int i=>exact{by simp only[Dp,Bi],by simp only[Bi,PyData.canLay0],by simp only[Bi,PyData.depth];lia}|str z=>refine{by simp only[Dp,Bi],?_,by simp only[Bi,PyData.depth];lia};unfold cR at hx;simp only[zM]at hx;simp only[Bi,PyData.canLay0];exact hx.2|_=>cases hx
theorem EF:∀{xs:List D},(∀x∈xs,cR x=true)->DpAll S xs (xs.map Bi)/\PyData.canLayAll0 (xs.map Bi)=true/\PyData.depthAll (xs.map Bi)<=0|[],_=>{by simp only[List.map_nil,DpAll],rfl,zT _}|x::xs,h=>by obtain⟨a,b,c⟩:=RD (S:=S)<|h x zm;obtain⟨a',b',c'⟩:=EF (S:=S) λy hy=>h y<|zh _ hy;exact{by simp only[zu,DpAll];exact{_,_,rfl,a,a'},by simp only[zu,PyData.canLayAll0,b,b',yW],by simp only[zu,PyData.depthAll];lia}
noncomputable def JF(r:Row):PyData:=.tuple [.str r.1,.tuple<|r.2.map Bi]
theorem RE(hw:Wg cs r.2):Dr S (aj r) (JF r):=by refine .tup<|.cons (.str _)<|.cons (.tup ?_) .nil;have h:=Wg.all hw;generalize r.2=ws at h;induction ws with|nil=>exact .nil|cons v ws ih=>refine .cons ?_<|ih λd hd=>h d<|zh _ hd;have hv:=h v zm;cases v<;>first|exact .av|exact .int _|exact .str _|cases hv
theorem xl:∀{rows:List Row},(∀r∈rows,Wg cs r.2)->FL S (rows.map aj) (rows.map JF)|[],_=>.nil|r::rows,h=>.cons (RE<|h r zm)<|xl λx hx=>h x<|zh _ hx
theorem MR(hw:Wg cs r.2)(hk:r.1∈KS):(JF r).canLay0=true/\(JF r).depth<=2:=by obtain⟨_,b,c⟩:=EF (S:=λ_=>none)<|Wg.all hw;have z:=(fX _ hk).2.2;unfold JF;refine{by simp only[PyData.canLay0,PyData.canLayAll0,z,b,yW],?_};simp only[PyData.depth,PyData.depthAll];lia
theorem sT:∀{rows:List Row},(∀r∈rows,Wg cs r.2)->Ow rows->PyData.canLayAll0 (rows.map JF)=true/\PyData.depthAll (rows.map JF)<=2|[],_,_=>{rfl,zT _}|r::rows,h,k=>by obtain⟨a,b⟩:=MR (h r zm)<|k r zm;obtain⟨a',b'⟩:=sT (λx hx=>h x<|zh _ hx) λx hx=>k x<|zh _ hx;exact{by simp only[zu,PyData.canLayAll0,a,a',yW],by simp only[zu,PyData.depthAll];lia}
theorem gF(h:r∈seg A b e):r∈A:=List.mem_of_mem_drop<|List.mem_of_mem_take h
noncomputable def XI(A:List Row)(b e:Nat):PyData:=.tuple [.list<|(seg A b e).map JF,.int (b:Nat),.int<|(A.length-e:Nat)]
theorem Oy(hw:∀r∈A,Wg cs r.2)(h:S p=some (.lst<|(seg A b e).map aj)):Dr S (C_ p b<|A.length-e) (XI A b e):=.tup<|.cons (.ref h<|xl λr hr=>hw r<|gF hr)<|.cons (.int _)<|.cons (.int _) .nil
theorem RF(hw:∀r∈A,Wg cs r.2)(hk:Ow A):(XI A b e).canLay0=true/\(XI A b e).depth<=4:=by obtain⟨a,c⟩:=sT (rows:=seg A b e) (λr hr=>hw r<|gF hr) λr hr=>hk r<|gF hr;unfold XI;refine{by simp only[PyData.canLay0,PyData.canLayAll0,a,yW],?_};simp only[PyData.depth,PyData.depthAll];lia
inductive AW (ds:List D) (S:au) (R:KD) (Z:KX):Prop where
 |mk (x:Int) (h0:ds=[.int x]) (h1:∀n:Nat,1<=n->n<=1000->R (.int (n:Nat)) S)
theorem MS(T:Txt w K mg t):Ok P w base T.Cu 1 AW:=by
 refine T.Cu.F.bL Ga ?_;obtain⟨x,e,q⟩;refine{_,(s1<|sr<|vP<|ix hr.u (cy<|ac di<|ac di<|ac di<|ac (bo aY hr.u di<|bo bw hr.u (bo bR hr.u (dv 0) di) di)<|ac di<|ac (bo aY hr.u di<|bo bw hr.u (bo bR hr.u (dv 0) di) di) an)<|bo bw hr.u (dv 0) di),?_};have a0:0<=x/6%9:=zP _ (by decide);have a1:x/6%9<9:=zN _ (by decide);have b0:0<=x/6%30:=zP _ (by decide);have b1:x/6%30<30:=zN _ (by decide);refine{_,rfl,{by decide,by trivial},by decide,_,rfl,{by decide,by trivial},by decide,VO,λp hp=>!{by decide,bX (zP _<|by decide) (zN _<|by decide) hp λd hd=>?_}};have hd:d∈[D.int 1,.int 2,.int 3,.int<|1+x/6%9,.int 1000,.int<|13+x/6%30]:=hd;have one:∀i:Int,d=.int i->1<=i->i<=1000->Fo S (R d):=λi e h1 h2=>by obtain⟨m,rfl⟩:=Int.eq_ofNat_of_zero_le (show 0<=i by lia);rw[e];exact fo<|q m (by lia)<|by lia
 simp only[zi,zH,or_false]at hd;rcases hd with h|h|h|h|h|h<;>exact one _ h (by lia) (by lia)
theorem JG(h:xs.length=10):(dP xs (some 2) none).length=8:=by unfold dP;rw[yz,List.length_drop,show HT.sIx xs.length 0 (some 2)=min 2 xs.length from HT.sIx_nat ..,show HT.sIx xs.length xs.length none=xs.length from rfl,h];rfl
inductive AX (ds:List D) (S:au) (R:KD) (Z:KX):Prop where
 |mk (cs:List<|Str×Str) (lk:Addr) (kn:Kn) (c:Int) (h0:ds=[.tup<|cs.map aA,.ref lk,.int c]) (h1:Gd cs) (h2:S lk=some (.cB<|g8 kn)) (h3:KI cs kn) (h4:∀d j5,GD KS cs kn d->KnD kn d j5->KI cs j5->R d (S.set lk<|.cB<|g8 j5))
theorem AY(T:Txt w K mg t):Ok P w base T.wg 3 AX:=by
 refine T.wg.F.bL ik ?_;obtain⟨cs,lk,kn,c0,e,hg,hk,hI,q⟩;have V9:=hg.1;have hkl:=hI.len;refine{_,(sc (b_ (i:=3) ik.nd<|aV T.iO (j0 T) hr<|al 2<|ac di an)<|sc (b_ (i:=4) ik.nd<|aV T.Ed (I9 T) hr<|ac (ix hr.u (dv 3) di) an)<|sc (b_ (i:=5) ik.nd<|aV T.rV (Gm T) hr<|al 0<|ac (QO (dv 3) (o1 di) o0) an)<|sc (si (twd<|twand (bu yY hr.u (dv 4)<|dv 1)<|tw1<|bu bz hr.u (bo bw hr.u (ix hr.u (dv 3) di) di) di) (sc (se<|mp1 (dv 1)<|dv 4)<|s1<|sr<|ck<|ac ds<|al 4 an) s0)<|sc (b_ (i:=6) ik.nd<|vP<|ix hr.u (cy<|ac ds<|ac ds an)<|ct HV T.Ec vB<|ac (cm yY hr.u (dv 4)<|dv 1) an)<|sc (sd hr.u (dv 1) (dv 4)<|dv 5)<|s1<|sr<|ck<|al 6<|al 4<|al 5 an),?_};refine !{c0,10,rfl,by decide,λxs lx Mu hx BI=>?_};have s1:=Sub.new (c:=.lst<|xs.map D.int) BI;have hX:(S.set lx<|.lst<|xs.map D.int) lx=some (.lst<|xs.map D.int):=aa;generalize S.set lx (.lst<|xs.map D.int)=S1 at s1 hX⊢;have at_:∀k:Nat,k<10->∃x:Int,jm (xs.map D.int) ((k:Nat):Int)=some (.int x)/\0<=x:=λk hk=>sD (by lia) (by rw[zb];lia) hx;obtain⟨x0,e0,_⟩:=at_ 0 (by decide);obtain⟨x1,e1,_⟩:=at_ 1 (by decide);refine !{_,_,hX,e0,x0,rfl,λz hz=>?_};refine !!!{_,hX,λp2 jf=>{cs,p2,dP xs (some 2) none,rfl,hg,by rw[nq];exact aa,by rw[JG Mu];lia,λws hw=>?_}};have s2:=s1.trans<|Sub.new (c:=.lst<|dP (xs.map D.int) (some 2) none) jf;have Ja:=(Sub.new (c:=.lst<|dP (xs.map D.int) (some 2) none) jf) _ _ hX;generalize S1.set p2 (.lst<|dP (xs.map D.int) (some 2) none)=S2 at s2 Ja⊢;have dM:=s2 _ _ hk;have isS:(bZ (g8 kn)<|.inr z).isSome=(iU kn z).isSome:=by rw[sG];cases iU kn z<;>rfl
 have hl:(g8 kn).length<sizeLine:=bg (by unfold g8;rw[zb];lia);have n2:=cQ;have n3:=oy;have fin:∀{d:D}{j5:Kn},GD KS cs kn d->KnD kn d j5->KI cs j5->Fo (S2.set lk<|.cB<|g8 j5) (R d):=λh1 h2 h3=>{_,cF s2,q _ _ h1 h2 h3};refine !!⟨.inr {g8 kn,.inr z,dM,rfl,_,rfl,cA (λh=>?_) λh=>?_}⟩;have h:(bZ (g8 kn)<|.inr z).isSome=true:=h;have XJ:(iU kn z).isSome=true:=isS ▸ h;obtain⟨vs,hvs⟩:=Option.isSome_iff_exists.mp XJ;refine !{_,_,Ja,e1,by decide,_,rfl,cA (λ_=>?_) λ_=>?_};refine !{lk,g8 kn,rfl,dM,_,rfl,g8 kn,.inr z,.tup vs,dM,rfl,by rw[sG,hvs];rfl,?_};rw[Q_];exact !{n2,fin (.inr<|.inr ⟨z,hz,XJ,rfl⟩) (.inr ⟨z,XJ,rfl,rfl⟩)<|hI.del z};refine{n2,λp hp=>!!⟨.inr {g8 kn,.inr z,(Sub.new hp) _ _ dM,rfl,?_}⟩};rw[h];refine .inr !{_,_,aa,(show jm _ 1=some _ from rfl),S2,.new hp,?_};refine !!!{lk,g8 kn,.inr z,rfl,dM,rfl,hl,?_};rw[Jb];exact !!!{n3,fin (.inr<|.inl ⟨z,ws,hz,hw,XJ,rfl⟩) (.inl {_,z,ws,.inr rfl,rfl,rfl})<|hI.put hz hw};have h:(bZ (g8 kn)<|.inr z).isSome=false:=h;have Y2:iU kn z=none:=by cases e:iU kn z with|none=>rfl|some _=>rw[isS,e]at h;cases h
 refine bh {n2,λp hp=>!!⟨.inr {g8 kn,.inr z,(Sub.new hp) _ _ dM,rfl,?_}⟩};rw[h];refine .inr !{_,_,aa,(show jm _ 0=some _ from rfl),S2,.new hp,?_};refine !!!{lk,g8 kn,.inr z,rfl,dM,rfl,hl,?_};rw[Jb];exact !!!{n3,fin (.inl ⟨z,ws,hz,hw,Y2,rfl⟩) (.inl {_,z,ws,.inl rfl,rfl,rfl})<|hI.put hz hw}
inductive AZ (ds:List D) (S:au) (R:KD) (Z:KX):Prop where
 |mk (cs:List<|Str×Str) (lk:Addr) (kn:Kn) (h0:ds=[.ref lk]) (h1:S lk=some (.cB<|g8 kn)) (h2:KI cs kn) (h3:∀ss p,ss.Perm (kn.map (·.1))->PyProof.Rows.sortedS ss=true->S p=none->R (.ref p) (S.set p<|.lst<|(iz kn ss).map aj))
theorem A1(T:Txt w K mg t):Ok P w base T.wj 1 AZ:=by
 refine T.wj.F.bL F_ ?_;obtain⟨cs,lk,kn,e,hk,hI,q⟩;have hkl:=hI.len;refine{_,(s1<|sr<|uH (N:=["_law_key_here","_law_standing"]) (src:=[none,some 0]) (lO (ae IF) ["_law_standing"] rfl rfl<|by trivial) (il<|cb y6 T.ie fC<|al 0 an) (qx<|show(["_law_key_here","_law_standing"]:List Str).Nodup by trivial) (a_ rfl) ba (λ_ _ _ _ _=>rB) λ_ _ _ _ _=>(ck<|al 0<|ac (ix hr.u (dv 1)<|dv 0) an)),?_};refine !{lk,g8 kn,kn.map (·.1),rfl,hk,by unfold g8;rw[zG,zG];rfl,by unfold g8;rw[zb];lia,λss hp hs p kD=>?_};have hlen:ss.length<=60:=by rw[hp.length_eq,zb];exact hkl
 refine{_,aa,?_};refine comp_map (λd=>match d with|.str z=>.tup [.str z,tw kn z]|_=>.av) aa (by show(ss.map D.str).length<=1000;rw[zb];lia) (λd hd Q hQ=>?_) λp2 jf=>?_;obtain⟨z,hz,rfl⟩:=zj.mp hd;obtain⟨ws,CZ⟩:=l_<|hp.mem_iff.mp hz;have hQ:Q (.tup [.str z,tw kn z]) (S.set p<|.lst<|ss.map D.str):=hQ;have e1:bZ (g8 kn) (.inr z)=some (tw kn z):=by rw[sG];unfold tw;rw[CZ];rfl
 exact !!!{g8 kn,_,(Sub.new kD) _ _ hk,e1,cQ,hQ};have em:(ss.map D.str).map (λd=>match d with|.str z=>D.tup [.str z,tw kn z]|_=>.av)=(iz kn ss).map aj:=by rw[u6 hp,zG];rfl
 rw[show({ss.map D.str,λS=>uF S (.ref p)<|ss.map D.str}:s_).xs=ss.map D.str from rfl,em];exact{_,cF<|.new kD,q ss p2 hp hs<|bq (.new kD) jf}
structure Wf(t:eQ)(ds:List D)(S:au)(R:KD)(Z:KX):Prop where
 of:Oh t ds S R Z
noncomputable def Fs(lk lm:Addr)(kn:Kn)(ce:Wa):List (Addr×Ce):=(lk,.cB<|g8 kn)::(lm,.lst<|ce.map λx=>D.ref x.1)::ce.map aaK
structure Bt(t:eQ)(S0:au)(a lk lm:Addr)(cs:List (Str×Str))(kn:Kn)(ce:Wa)(F:List Addr)(dl:List D)(rs:mi)(S:au):Prop where
 st:St t S0 a (Fs lk lm kn ce) F cs dl rs S
 ki:KI cs kn
 ri:RI rs dl.length kn
 hi:HI rs cs dl.length (ce.map Prod.snd)
 le:dl.length<=64
inductive vf (t:eQ) (ds:List D) (S:au) (R:KD) (Z:KX):Prop where
 |mk (cs:List<|Str×Str) (l:Addr) (ms:List Int) (h0:ds=[.tup<|cs.map aA,.ref l]) (h1:Gd cs) (h2:S l=some (.lst<|ms.map D.int)) (h3:ms.length<=5) (h4:∀S' a lk lm kn ce F dl rs,Bt t S a lk lm cs kn ce F dl rs S'->R (.tup [.ref a,.ref lm,.ref lk]) S')
theorem JH(T:Txt w K mg t):Ok P w base T.wk 8 (vf t):=by
 have sU:Ok P w base T.oo 7 (Wf t):=(El T).LM λds S R Z h=>h.of;refine T.wk.F.bL cP ?_;obtain⟨cs,l,ms,e,hg,hl,h30,q⟩;refine{_,(sc (b_ (i:=2) cP.nd<|mk T.IS (Mp T) (hr.mono<|by decide) T.IQ T.fS.b d0<|al 0 an)<|sc (b_ (i:=3) cP.nd Uy)<|sc (b_ (i:=4) cP.nd<|cy<|ac (cy an) an)<|sc (b_ (i:=5) cP.nd<|cy an)<|sc (xy<|GQ (il<|QO (dv 1) o0<|o1 di) (gn (i:=6) cP.nd)<|s1<|si (bu bz hr.u (bo bw hr.u (dv 6) di) di) (s1<|Qt (i:=5) (N:=["_law_k","_law_cell"]) (src:=[none,some 6]) cP.nd (lO (ae FR) ["_law_columns_here","_law_cells","_law_shelf","_law_standing","_law_moments","_law_more","_law_cell"] rfl rfl<|by trivial) (LL T.ft<|ac (bo aY hr.u di<|bo bw hr.u (bo bR hr.u (dv 6) di) di) an) (qx<|show(["_law_k","_law_cell"]:List Str).Nodup by trivial) (a_ rfl) ba (λ_ _ _ _ _=>rB) λ_ _ _ _ _=>(bo aY hr.u (bo bR hr.u (dv 1) di)<|bo mz hr.u di<|dv 0)) s0)<|sc (xy<|GQ (il<|bo aY hr.u (dv 5)<|dv 1) (gn (i:=6) cP.nd)<|sc (se<|aV T.oo sU hr<|al 2<|ac (aV T.wg (AY T) hr<|al 0<|al 3<|al 6 an) an)<|s1<|se<|bm zK zQ zR bF (dv 4)<|ac (aV T.wj (A1 T) hr<|al 3 an) an)<|s1<|sr<|ck<|al 2<|al 4<|al 3 an),?_};refine{_,rfl,λa ha=>{a,cs,rfl,hg,aa,λS1 F1 Eh VT=>{rfl,?_}}};have aaM:XE S F1 S1:=λb c hb=>by have h2:b≠a:=gZ hb ha;exact VT b c (λm=>h2<|zA.mp m)<|(ag h2).trans hb
 have st0:St t S a [] F1 cs [] [] S1:={Eh,λ_ h=>(nomatch h),.nil,aaM};refine λlk Qy=>?_;have st1:=st0.new Qy<|.cB [];generalize S1.set lk (.cB [])=SA at st1⊢;refine{r_,λq0 hq0=>{t9,λlm hlm=>?_}};have Nr:=(st1.new hq0<|.lst []).new hlm<|.lst [.ref q0];generalize (SA.set q0<|.lst []).set lm (.lst [.ref q0])=SB at Nr⊢;have Nt:St t S a (Fs lk lm [] [(q0,[])]) F1 cs [] [] SB:=Nr.perm<|.cons _<|.swap _ _ _;refine{r_,λle hle=>?_};have sb0:=Sub.new (c:=.lst []) hle;have Wh:(SB.set le<|.lst []) le=some (.lst []):=aa;have Sv:=sb0 _ _<|Nt.Bh.sub _ _ hl;generalize SB.set le (.lst [])=SC at sb0 Wh Sv⊢;refine{λaG S'=>∃(lx:Addr)(ys:List Int)(o6:Option D),aG=[some<|.tup<|cs.map aA,some<|.ref l,some<|.ref a,some<|.ref lk,some<|.ref lm,some<|.ref lx,o6]/\Sub SC S'/\S' lx=some (.lst<|ys.map D.int)/\ys.length<=59,?_,?_};refine !!{_,Sv,λp1 AI=>{_,aa,?_}};have Rm:=Sub.new (c:=.lst<|dP (ms.map D.int) none<|some 1) AI;have MT:(SC.set p1<|.lst<|dP (ms.map D.int) none<|some 1) p1=some (.lst<|dP (ms.map D.int) none<|some 1):=aa;generalize SC.set p1 (.lst<|dP (ms.map D.int) none<|some 1)=SD at Rm MT⊢;rw[nq]at MT⊢;generalize dP ms none (some 1)=m1 at MT⊢;refine{λi aG S'=>∃(lx:Addr)(ys:List Int)(o6:Option D),aG=[some<|.tup<|cs.map aA,some<|.ref l,some<|.ref a,some<|.ref lk,some<|.ref lm,some<|.ref lx,o6]/\Sub SD S'/\S' lx=some (.lst<|ys.map D.int)/\ys.length<=59,{le,[],none,rfl,.refl _,Rm _ _ Wh,zT _},?_,?_,?_};rintro i aG S' ⟨_,_,_,_,sb,_⟩;exact sb _ _ MT;rintro i d aG S' hd ⟨lx,ys,o6,rfl,sb,hx,hy⟩;have hd:(m1.map D.int)[i]?=some d:=hd;obtain⟨c,_,rfl⟩:=zj.mp<|zo hd;refine !{by decide,_,rfl,cA (λ_=>?_) λ_=>{lx,ys,_,rfl,sb,hx,hy}};have b0:0<=c/8%40:=zP _ (by decide);have b1:c/8%40<40:=zN _ (by decide);refine{_,rfl,{by decide,by trivial},by decide,_,rfl,by lia,by lia,?_};refine jT (λ_ v=>∃x:Int,v=.int x) trivial (by show(fm 0 _).length<=_;rw[cJ];lia) (λd hd Q hQ=>?_) λout Cc p kD=>?_;obtain⟨j,hj⟩:=zZ hd;obtain⟨_,rfl⟩:=cK hj;exact{_,rfl,{by decide,by trivial},_,rfl,.inl<|by decide,hQ _ {_,rfl}};have hlen:=yG Cc;have:∀{L out:List D},Paired (λ_ v=>∃x:Int,v=D.int x) L out->∃xs:List Int,out=xs.map D.int:=λ{L out} h=>by induction h with|nil=>exact{[],rfl}|cons r _ ih=>obtain⟨x,rfl⟩:=r;obtain⟨xs,rfl⟩:=ih;exact{x::xs,rfl}
 obtain⟨zs,rfl⟩:=this Cc;rw[zb]at hlen;have hlen:(fm 0 (20+c/8%40).toNat).length=zs.length:=hlen;rw[cJ]at hlen;exact{p,zs,_,rfl,sb.trans<|.new kD,aa,by lia};rintro aG S' ⟨lx,ys,o6,rfl,sb,r⟩;exact fo {lx,ys,o6,rfl,Rm.trans sb,r};rintro aG S2 ⟨lx,ys,o6,rfl,J4,hx,hy⟩;have st4:=(Nt.sub sb0).sub J4;refine{λaG S'=>∃(kn:Kn)(ce:Wa)(F:List Addr)(dl:List D)(rs:mi)(o6:Option D),aG=[some<|.tup<|cs.map aA,some<|.ref l,some<|.ref a,some<|.ref lk,some<|.ref lm,some<|.ref lx,o6]/\Bt t S a lk lm cs kn ce F dl rs S',?_,?_};refine !!{_,_,hx,J4 _ _ Sv,sm<|by rw[zb,zb];lia,λlz hlz=>{_,aa,?_}};rw[<-zy];have ZZ:(ys++ms).length<=64:=by rw[zx];lia
 generalize ys++ms=zs at ZZ⊢;have J1:St t S a ((lz,.lst<|zs.map D.int)::Fs lk lm [] [(q0,[])]) F1 cs [] [] (S2.set lz<|.lst<|zs.map D.int):=(st4.new hlz _).perm (List.perm_append_singleton _ _).symm;generalize S2.set lz (.lst<|zs.map D.int)=S3 at J1⊢;refine{λi aG S'=>∃(kn:Kn)(ce:Wa)(F:List Addr)(dl:List D)(rs:mi)(o6:Option D),aG=[some<|.tup<|cs.map aA,some<|.ref l,some<|.ref a,some<|.ref lk,some<|.ref lm,some<|.ref lx,o6]/\dl.length=i/\St t S a ((lz,.lst<|zs.map D.int)::Fs lk lm kn ce) F cs dl rs S'/\KI cs kn/\RI rs dl.length kn/\HI rs cs dl.length (ce.map Prod.snd),?_,?_,?_,?_};refine{[],[(q0,[])],F1,[],[],_,rfl,rfl,J1,KI.nil cs,RI.nil,rfl,λm rows e=>?_};cases m with|zero=>(cases e;exact{[],[],rfl,KI.nil cs,.refl _,rfl,λz=>rfl})|succ m=>simp at e
 rintro i aG S' ⟨_,_,_,_,_,_,_,_,st,_⟩;exact st.at 0 rfl;rintro i d aG S' hd ⟨kn,ce,F,dl,rs,o6,rfl,Lk,st,hI,hR,hH⟩;have hd:(zs.map D.int)[i]?=some d:=hd;have hi:=(ze.mp hd).1;rw[zb]at hi;obtain⟨c,_,rfl⟩:=zj.mp<|zo hd;refine !!!!{cs,lk,kn,c,rfl,hg,st.at 1 rfl,hI,λde j5 hde V0 Wi=>?_};have st6:St t S a ((lz,.lst<|zs.map D.int)::Fs lk lm j5 ce) F cs dl rs _:=st.put 1 rfl<|.cB<|g8 j5;generalize S'.set lk (.cB<|g8 j5)=S6 at st6⊢;refine⟨(u9 st6.sh hg hI hR (by lia) hde V0 λS7 F7 rs7 hS7 hK7 hR7 hold=>?_).of⟩;have st7:=st6.RA hS7 hK7;have hM:=st7.at 2 rfl;have BG:(ce.map λx=>D.ref x.1).length<sizeLine:=bg (by have:=hH.1;rw[zb]at this⊢;lia);refine{_,rfl,{rfl,_,hM},_,rfl,cs,lk,j5,rfl,st7.at 1 rfl,Wi,λss p hp ho kD=>?_};refine{lm,_,_,rfl,rfl,(Sub.new kD) _ _ hM,BG,?_};have st8:=(st7.new kD<|.lst<|(iz j5 ss).map aj).put 2 rfl<|.lst<|(ce.map λx=>D.ref x.1)++[.ref p];refine{j5,ce++[(p,iz j5 ss)],F7,dl++[de],rs7,_,rfl,by rw[zx,Lk];rfl,?_,Wi,by rw[zx];exact hR7,?_};unfold Fs;rw[zy,zy];exact st8;rw[zx,zy];exact hH.step hold Wi hR7 hp ho;rintro aG S' ⟨kn,ce,F,dl,rs,o6,rfl,Lk,st,hI,hR,hH⟩;have Lk:dl.length=(zs.map D.int).length:=Lk;rw[zb]at Lk;exact fo {kn,ce,F,dl,rs,o6,rfl,st.less (yp.mp st.nd).2 λx hx=>zh _ hx,hI,hR,hH,by lia};rintro aG S' ⟨kn,ce,F,dl,rs,o6,rfl,hb⟩;exact !!!{oy,fo<|q _ _ _ _ _ _ _ _ _ hb}
theorem Df{cs:List<|Str×Str}{ps:List Part}{g:u_}(h:Gp cs ps g){S:au} : Ly S 3 (oM g):=by
 have hs:PyData.strOk g.2.2=true:=by have:=h.side;unfold AU at this;rw[yJ]at this;rcases this with q|q<;>rw[zt q]<;>decide +kernel
 refine Ly.tup λx hx=>?_;simp only[zi,zH,or_false]at hx;rcases hx with rfl|rfl;refine Ly.tup λx hx=>?_;simp only[zi,zH,or_false]at hx;rcases hx with rfl|rfl;refine Ly.tup λx hx=>?_;obtain⟨i,ei⟩:=zZ hx;obtain⟨k,_,hv⟩:=cS h.pv ei;exact Ly.plain hv.2;exact(Ly.str (fX _ h.key).2.2).le (by decide);exact(Ly.str hs).le<|by decide
theorem Wj{S:au}{ds:List D}{z:Str}{R:KD}(h:Ly S 3<|.tup ds)(hz:PyData.strOk z=true)(q:R (.bl false) S):Fx false (.tup ds) (.str z) S R:=by obtain⟨p,a,b,c⟩:=h;simp only[Dp]at a;obtain⟨ps,rfl,k⟩:=a;refine{.tuple ps,.str z,by simp only[Dl,Dp];exact⟨ps,rfl,k⟩,by simp only[Dl,Dp],b,by simp only[PyData.canLay0];exact hz,.inl<|by lia,?_};rw[if_neg zd,show PyData.eqv (.tuple ps) (.str z)=false by simp only[PyData.eqv]];exact q
theorem EG{S:au}{σ:SD}{ds:List D}{z:Str}{R:KD}{Z:KX}(h:Ly S 3<|.tup ds)(hz:PyData.strOk z=true)(q:R (.bl false) S):dC (.str z) σ S (λy S2=>Fx false (.tup ds) y S2 R) Z:=Wj h hz q
set_option genInjectivity true in
set_option genSizeOfSpec true in
inductive Sd where
 |s
 |e
 |g (g:u_)
noncomputable def uf:Sd->D|.s=>.str "start"|.e=>.str "end"|.g g=>oM g
noncomputable def Kg(cs:List<|Str×Str)(ps:List Part)(wy:Str)(A:List Row):Sd->Nat|.s=>0|.e=>A.length|.g g=>A.countP<|gP cs ps wy g
def tD(cs:List<|Str×Str)(ps:List Part):Sd->Prop|.g g=>Gp cs ps g|_=>True
theorem sV:∀s,Kg cs ps wy A s<=A.length|.s=>zT _|.e=>zp _|.g _=>List.countP_le_length
structure Wk where
 (w a:Addr)
 ps:List Part
 wy:Str
 d:D
 n:Nat
 (f h:Sd)
noncomputable def tE(C:Addr)(q:Wk):Ce:=.ins C [("shelf",.ref q.a),("order",eB q.ps q.wy),("sieve",q.d),("size",.int (q.n:Nat)),("fore",uf q.f),("hinder",uf q.h)]
noncomputable def Bj(cs:List<|Str×Str)(ps:List Part)(rows:List Row)(s:Sd):Sd×Sd:=match rows[0]?,rows[rows.length-1]? with|some r0,some r1=>(.g<|We cs ps "ahead" r0,.g<|We cs ps "behind" r1)|_,_=>(s,s)
noncomputable def Kh(cs:List<|Str×Str)(ps:List Part)(wy:Str)(A:List Row)(s:Sd)(n:Nat):Nat×Nat:=(Kg cs ps wy A s,GA A (Kg cs ps wy A s) n)
noncomputable def MU(cs:List<|Str×Str)(ps:List Part)(wy:Str)(A:List Row)(s:Sd)(n:Nat):Nat×Nat:=(Kg cs ps wy A s-n,Kg cs ps wy A s)
inductive lG (ds:List D) (S:au) (R:KD) (Z:KX):Prop where
 |mk (cs:List<|Str×Str) (ps:List Part) (wy:Str) (p:Addr) (rows:List Row) (b c:Nat) (s:Sd) (h0:ds=[.tup<|cs.map aA,eB ps wy,C_ p b c,uf s]) (h1:Gd cs) (h2:Pin cs ps) (h3:ps.length<=8) (h4:S p=some (.lst<|rows.map aj)) (h5:∀r∈rows,Wg cs r.2) (h6:R (.tup [uf (Bj cs ps rows s).1,uf (Bj cs ps rows s).2]) S)
theorem sW(T:Txt w K mg t):Ok P w base T.jN 5 lG:=by refine T.jN.F.bL jQ ?_;obtain⟨cs,ps,wy,p,rows,b,c,s,e,hg,hp,h8,hS,hw,q⟩;refine{_,(sc (b_ (i:=4) jQ.nd<|aV T.qC (sS T) hr<|al 0<|al 1<|al 2 an)<|s1<|sr<|LF (bu iE hr.u (dv 4) dn) (ck<|al 3<|al 3 an)<|dv 4),?_};refine !!!{cs,ps,wy,p,rows,b,c,rfl,hg,hp,h8,hS,hw,λz=>?_,λr0 r1 q0 q1=>?_};subst z;exact !!⟨dh !!{cQ,fo q}⟩;unfold Bj at q;rw[q0,q1]at q;exact !!⟨bh !⟨fo q⟩⟩
inductive pP (t:eQ) (ds:List D) (S:au) (R:KD) (Z:KX):Prop where
 |mk (k a:Addr) (cs:List<|Str×Str) (ps:List Part) (wy:Str) (d:D) (n:Nat) (F:List Addr) (dl:List D) (rs:mi) (h0:ds=[.ref k,.ref a,eB ps wy,d,.int (n:Nat)]) (h1:Gd cs) (h2:Og cs ps wy) (h3:Sq cs d) (h4:1<=n) (h5:n<=1000) (h6:bI t.ak S a F cs dl rs) (h7:S k=some (.ins t.aI [])) (h8:R .av<|S.set k<|tE t.aI {k,a,ps,wy,d,n,.s,.s})
theorem JI(T:Txt w K mg t):oZ P w mg base T.gT 7 (pP t):=by refine T.gT.F.bL ox ?_;obtain⟨k,a,cs,ps,wy,d,n,F,dl,rs,e,hg,ho,hd,h1,h2,hS,hk,q⟩;obtain⟨ld,lr,ra,h,_⟩:=id hS;refine{_,(sc (se<|aV T.eT (f_ T) hr<|ac (gu (dv 1) T.ai T.az (aN T) hr)<|al 2 an)<|sc (se<|aV T.eU (gb T) hr<|ac (gu (dv 1) T.ai T.az (aN T) hr)<|al 3 an)<|sc (se<|aV T.iN (lB T) hr<|al 4 an)<|sc (sf T.aC T.eP (dv 0)<|dv 1)<|sc (sf T.aC T.dq (dv 0)<|dv 2)<|sc (sf T.aC T.gO (dv 0)<|dv 3)<|sc (sf T.aC T.fu (dv 0)<|dv 4)<|sc (sf T.aC T.fw (dv 0)<|dg (v:=.str "start") T.mQ {_,rfl} λ_=>dQ _)<|s1<|sf T.aC T.dS (dv 0)<|dg (v:=.str "start") T.mQ {_,rfl} λ_=>dQ _),?_};refine !{a,_,rfl,h.ins,rfl,a,F,cs,dl,rs,rfl,hS,_,rfl,cs,ps,wy,rfl,hg,ho.tx,λ_=>?_,λz=>tf ho.ok z};refine !{a,_,rfl,h.ins,rfl,a,F,cs,dl,rs,rfl,hS,_,rfl,cs,d,rfl,hg,hd,?_};refine !!{by lia,by lia,?_};refine !!{k,_,rfl,hk,(show 0<1000 by decide),?_};refine !!{k,_,rfl,aa,(show 1<1000 by decide),?_};refine !!{k,_,rfl,aa,(show 2<1000 by decide),?_};refine !!{k,_,rfl,aa,(show 3<1000 by decide),?_};refine !{k,_,rfl,aa,(show 4<1000 by decide),?_};refine !{k,_,rfl,aa,(show 5<1000 by decide),?_};rw[bf,bf,bf,bf,bf];exact fo q
inductive pQ (t:eQ) (ds:List D) (S:au) (R:KD) (Z:KX):Prop where
 |mk (q:Wk) (l:Addr) (s:Sd) (A:List Row) (cs:List<|Str×Str) (F:List Addr) (dl:List D) (rs:mi) (h0:ds=[.ref q.w,.ref l,uf s]) (h1:S q.w=some (tE t.aI q)) (h2:Gd cs) (h3:Og cs q.ps q.wy) (h4:bI t.ak S q.a F cs dl rs) (h5:S l=some (.lst<|A.map aj)) (h6:An cs q.ps q.wy A) (h7:tD cs q.ps s) (h8:R (.int (Kg cs q.ps q.wy A s:Nat)) S)
theorem A2(T:Txt w K mg t):oZ P w mg base T.dD 6 (pQ t):=by refine T.dD.F.bL l8 ?_;obtain⟨k,l,s,A,cs,F,dl,rs,e,hk,hg,ho,hS,hl,hA,hs,q⟩;obtain⟨ld,lr,ra,h,_⟩:=id hS;refine{_,(sc (si (bu bz hr.u (dv 2)<|dg (v:=.str "start") T.mQ {_,rfl} λ_=>dQ _) (s1<|sr di) s0)<|sc (si (bu bz hr.u (dv 2)<|dg (v:=.str "end") T.IJ {_,rfl} λ_=>dQ _) (s1<|sr<|cb bj T.bb aK<|al 1 an) s0)<|s1<|sr<|aV T.cM (cU T) hr<|ac (gu (fl T.aC T.eP<|dv 0) T.ai T.az (aN T) hr)<|ac (fl T.aC T.dq<|dv 0)<|al 1<|al 2 an),?_};cases s with|s=>exact (!!⟨lh (by trivial)<|fo q⟩)|e=>refine !!⟨bB (by trivial) !!⟨lh (by trivial) !!⟨.inl {_,hl,?_}⟩⟩⟩;rw[zb];exact fo q|g g=>have Oz:=Df hs (S:=S);exact{_,rfl,EG Oz (by trivial) !⟨bh !⟨EG Oz (by trivial) !⟨bh !{k.w,_,_,rfl,hk,rfl,k.a,_,rfl,h.ins,rfl,k.a,F,cs,dl,rs,rfl,hS,_,rfl,k.w,_,_,rfl,hk,rfl,_,rfl,_,rfl,cs,k.ps,k.wy,A,l,g,rfl,hg,ho.pin,ho.len,hl,hA,hs,fo q}⟩⟩⟩}
inductive nC (t:eQ) (ds:List D) (S:au) (R:KD) (Z:KX):Prop where
 |mk (q:Wk) (p:Addr) (b c:Nat) (s:Sd) (rows:List Row) (cs:List<|Str×Str) (F:List Addr) (dl:List D) (rs:mi) (h0:ds=[.ref q.w,C_ p b c,uf s]) (h1:S q.w=some (tE t.aI q)) (h2:Gd cs) (h3:Og cs q.ps q.wy) (h4:bI t.ak S q.a F cs dl rs) (h5:S p=some (.lst<|rows.map aj)) (h6:∀r∈rows,Wg cs r.2) (h7:R .av<|S.set q.w<|tE t.aI {q.w,q.a,q.ps,q.wy,q.d,q.n,(Bj cs q.ps rows s).1,(Bj cs q.ps rows s).2})
theorem vg(T:Txt w K mg t):oZ P w mg base T.cD 6 (nC t):=by refine T.cD.F.bL eW ?_;obtain⟨k,p,b,c,s,rows,cs,F,dl,rs,e,hk,hg,ho,hS,hp,hw,q⟩;obtain⟨ld,lr,ra,h,_⟩:=id hS;refine{_,(sc (b_ (i:=3) eW.nd<|aV T.jN (sW T) hr<|ac (gu (fl T.aC T.eP<|dv 0) T.ai T.az (aN T) hr)<|ac (fl T.aC T.dq<|dv 0)<|al 1<|al 2 an)<|sc (sf T.aC T.fw (dv 0)<|ix hr.u (dv 3) di)<|s1<|sf T.aC T.dS (dv 0)<|ix hr.u (dv 3) di),?_};refine !{k.w,_,_,rfl,hk,rfl,k.a,_,rfl,h.ins,rfl,k.a,F,cs,dl,rs,rfl,hS,_,rfl,k.w,_,_,rfl,hk,rfl,_,rfl,_,rfl,cs,k.ps,k.wy,p,rows,b,c,s,rfl,hg,ho.pin,ho.len,hp,hw,?_};refine !!!{k.w,_,rfl,hk,(show 6<1000 by decide),?_};refine !!!{k.w,_,rfl,aa,(show 6<1000 by decide),?_};rw[bf];exact fo q
inductive lH (t:eQ) (ds:List D) (S:au) (R:KD) (Z:KX):Prop where
 |mk (q:Wk) (cs:List<|Str×Str) (rows:List Row) (h0:ds=[.ref q.w]) (h1:S q.w=some (tE t.aI q)) (h2:Qs t S q.a cs q.ps q.wy q.d .av rows) (h3:∀(A:List Row)(p:Addr),Gz cs q.ps q.wy 7 q.d rows A->S p=none->R (.ref p) (S.set p<|.lst<|A.map aj))
theorem sX(T:Txt w K mg t)(B:Bm mg base):oZ P w mg base T.dA 13 (lH t):=by refine T.dA.F.bL l7 ?_;obtain⟨k,cs,rows,e,hk,hq,q⟩;refine{_,(s1<|sr<|aV T.cg (cG T B) hr<|ac (fl T.aC T.eP<|dv 0)<|ac (fl T.aC T.dq<|dv 0)<|ac (fl T.aC T.gO<|dv 0)<|ac dn an),?_};exact !{k.w,_,_,rfl,hk,rfl,_,rfl,k.w,_,_,rfl,hk,rfl,_,rfl,k.w,_,_,rfl,hk,rfl,k.a,cs,k.ps,k.wy,k.d,.av,rows,rfl,hq.g,hq.o,hq.s,hq.v,hq.t,λA l pm pw hl=>fo<|q A l (xh hq.v.rg hq.k pm pw) hl}
inductive j_ (t:eQ) (f:List (Str×Str)->List Part->Str->List Row->Sd->Nat->Nat×Nat) (ds:List D) (S:au) (R:KD) (Z:KX):Prop where
 |mk (q:Wk) (s:Sd) (cs:List<|Str×Str) (rows:List Row) (h0:ds=[.ref q.w,uf s]) (h1:S q.w=some (tE t.aI q)) (h2:Qs t S q.a cs q.ps q.wy q.d .av rows) (h3:tD cs q.ps s) (h4:∀(A:List Row)(p:Addr)(b e:Nat),Gz cs q.ps q.wy 7 q.d rows A->S p=none->f cs q.ps q.wy A s q.n=(b,e)->R (C_ p b<|A.length-e) ((S.set p<|.lst<|(seg A b e).map aj).set q.w<|tE t.aI {q.w,q.a,q.ps,q.wy,q.d,q.n,(Bj cs q.ps (seg A b e) s).1,(Bj cs q.ps (seg A b e) s).2}))
theorem pR(T:Txt w K mg t)(B:Bm mg base):oZ P w mg base T.fA 14 (j_ t Kh):=by refine T.fA.F.bL fb ?_;obtain⟨k,s,cs,rows,e,hk,hq,hs,q⟩;obtain⟨F,dl,rs,hS,_⟩:=hq.v.sh;refine{_,(sc (b_ (i:=2) fb.nd<|gu (dv 0) T.aC T.dA (sX T B) hr)<|sc (b_ (i:=3) fb.nd<|aV T.kz (nA T) hr<|al 2<|ac (o9 (dv 0) T.aC T.dD (A2 T) hr<|al 2<|al 1 an)<|ac (fl T.aC T.fu<|dv 0) an)<|sc (se<|o9 (dv 0) T.aC T.cD (vg T) hr<|al 3<|al 1 an)<|s1<|sr<|dv 3),?_};refine !{k.w,_,rfl,hk,rfl,k,cs,rows,rfl,hk,hq,λA l hA hl=>?_};have s1:=Sub.new (c:=.lst<|A.map aj) hl;have GS:(S.set l<|.lst<|A.map aj) l=some (.lst<|A.map aj):=aa;generalize S.set l (.lst<|A.map aj)=S1 at s1 GS⊢;have Kb:=s1 _ _ hk;refine !!{k.w,_,rfl,Kb,rfl,_,rfl,_,rfl,k,l,s,A,cs,F,dl,rs,rfl,Kb,hq.g,hq.o,hS.sub s1,GS,hA.an,hs,_,rfl,k.w,_,_,rfl,Kb,rfl,l,A,_,k.n,rfl,GS,sV s,λp hp=>?_};have NS:=(Sub.new (c:=.lst<|(seg A (Kh cs k.ps k.wy A s k.n).1 (Kh cs k.ps k.wy A s k.n).2).map aj) hp) _ _ Kb;exact !{k.w,_,rfl,NS,rfl,_,rfl,_,rfl,k,p,_,_,s,seg A (Kh cs k.ps k.wy A s k.n).1 (Kh cs k.ps k.wy A s k.n).2,cs,F,dl,rs,rfl,NS,hq.g,hq.o,(hS.sub s1).sub<|.new hp,aa,λr hr=>hA.an.rg.1 r<|gF hr,_,rfl,_,cF<|cF s1,q A p _ _ hA (bq s1 hp) rfl}
theorem lI(T:Txt w K mg t)(B:Bm mg base):oZ P w mg base T.dX 14 (j_ t MU):=by refine T.dX.F.bL dY ?_;obtain⟨k,s,cs,rows,e,hk,hq,hs,q⟩;obtain⟨F,dl,rs,hS,_⟩:=hq.v.sh;refine{_,(sc (b_ (i:=2) dY.nd<|gu (dv 0) T.aC T.dA (sX T B) hr)<|sc (b_ (i:=3) dY.nd<|aV T.iL (lF T) hr<|al 2<|ac (o9 (dv 0) T.aC T.dD (A2 T) hr<|al 2<|al 1 an)<|ac (fl T.aC T.fu<|dv 0) an)<|sc (se<|o9 (dv 0) T.aC T.cD (vg T) hr<|al 3<|al 1 an)<|s1<|sr<|dv 3),?_};refine !{k.w,_,rfl,hk,rfl,k,cs,rows,rfl,hk,hq,λA l hA hl=>?_};have s1:=Sub.new (c:=.lst<|A.map aj) hl;have GS:(S.set l<|.lst<|A.map aj) l=some (.lst<|A.map aj):=aa;generalize S.set l (.lst<|A.map aj)=S1 at s1 GS⊢;have Kb:=s1 _ _ hk;refine !!{k.w,_,rfl,Kb,rfl,_,rfl,_,rfl,k,l,s,A,cs,F,dl,rs,rfl,Kb,hq.g,hq.o,hS.sub s1,GS,hA.an,hs,_,rfl,k.w,_,_,rfl,Kb,rfl,l,A,_,k.n,rfl,GS,sV s,λp hp=>?_};have NS:=(Sub.new (c:=.lst<|(seg A (MU cs k.ps k.wy A s k.n).1 (MU cs k.ps k.wy A s k.n).2).map aj) hp) _ _ Kb;exact !{k.w,_,rfl,NS,rfl,_,rfl,_,rfl,k,p,_,_,s,seg A (MU cs k.ps k.wy A s k.n).1 (MU cs k.ps k.wy A s k.n).2,cs,F,dl,rs,rfl,NS,hq.g,hq.o,(hS.sub s1).sub<|.new hp,aa,λr hr=>hA.an.rg.1 r<|gF hr,_,rfl,_,cF<|cF s1,q A p _ _ hA (bq s1 hp) rfl}
inductive iA (t:eQ) (f:List (Str×Str)->List Part->Str->List Row->Sd->Nat->Nat×Nat) (g:Wk->Sd) (ds:List D) (S:au) (R:KD) (Z:KX):Prop where
 |mk (q:Wk) (cs:List<|Str×Str) (rows:List Row) (h0:ds=[.ref q.w]) (h1:S q.w=some (tE t.aI q)) (h2:Qs t S q.a cs q.ps q.wy q.d .av rows) (h3:tD cs q.ps<|g q) (h4:∀(A:List Row)(p:Addr)(b e:Nat),Gz cs q.ps q.wy 7 q.d rows A->S p=none->f cs q.ps q.wy A (g q) q.n=(b,e)->R (C_ p b<|A.length-e) ((S.set p<|.lst<|(seg A b e).map aj).set q.w<|tE t.aI {q.w,q.a,q.ps,q.wy,q.d,q.n,(Bj cs q.ps (seg A b e)<|g q).1,(Bj cs q.ps (seg A b e)<|g q).2}))
theorem RG(T:Txt w K mg t)(B:Bm mg base):oZ P w mg base T.wq 15 (iA t Kh Wk.h):=by refine T.wq.F.bL CF ?_;obtain⟨k,cs,rows,e,hk,hq,hs,q⟩;refine{_,(s1<|sr<|o9 (dv 0) T.aC T.fA (pR T B) hr<|ac (fl T.aC T.dS<|dv 0) an),?_};exact !{k.w,_,rfl,hk,rfl,_,rfl,k.w,_,_,rfl,hk,rfl,k,k.h,cs,rows,rfl,hk,hq,hs,λA p b e hA hp he=>fo<|q A p b e hA hp he}
theorem JJ(T:Txt w K mg t)(B:Bm mg base):oZ P w mg base T.oq 15 (iA t MU Wk.f):=by refine T.oq.F.bL wH ?_;obtain⟨k,cs,rows,e,hk,hq,hs,q⟩;refine{_,(s1<|sr<|o9 (dv 0) T.aC T.dX (lI T B) hr<|ac (fl T.aC T.fw<|dv 0) an),?_};exact !{k.w,_,rfl,hk,rfl,_,rfl,k.w,_,_,rfl,hk,rfl,k,k.f,cs,rows,rfl,hk,hq,hs,λA p b e hA hp he=>fo<|q A p b e hA hp he}
noncomputable def Bk(q:Wk):D:=.tup [eB q.ps q.wy,q.d,.int (q.n:Nat),uf q.f,uf q.h]
inductive lJ (t:eQ) (ds:List D) (S:au) (R:KD) (Z:KX):Prop where
 |mk (q:Wk) (h0:ds=[.ref q.w]) (h1:S q.w=some (tE t.aI q)) (h2:R (Bk q) S)
theorem Dg(T:Txt w K mg t):oZ P w mg base T.jO 1 (lJ t):=by refine T.jO.F.bL r9 ?_;obtain⟨k,e,hk,q⟩;refine{_,(s1<|sr<|ck<|ac (fl T.aC T.dq<|dv 0)<|ac (fl T.aC T.gO<|dv 0)<|ac (fl T.aC T.fu<|dv 0)<|ac (fl T.aC T.fw<|dv 0)<|ac (fl T.aC T.dS<|dv 0) an),?_};exact !{k.w,_,_,rfl,hk,rfl,_,rfl,k.w,_,_,rfl,hk,rfl,_,rfl,k.w,_,_,rfl,hk,rfl,_,rfl,k.w,_,_,rfl,hk,rfl,_,rfl,k.w,_,_,rfl,hk,rfl,Me,fo q}
theorem GB(T:Txt w K mg t)(B:Bm mg base):oZ P w mg base T.l6 15 (iA t Kh λ_=>.s):=by refine T.l6.F.bL t5 ?_;obtain⟨k,cs,rows,e,hk,hq,hs,q⟩;refine{_,(s1<|sr<|o9 (dv 0) T.aC T.fA (pR T B) hr<|ac (dg (v:=.str "start") T.mQ {_,rfl} λ_=>dQ _) an),?_};exact !{k.w,_,rfl,hk,rfl,k,.s,cs,rows,rfl,hk,hq,hs,λA p b e hA hp he=>fo<|q A p b e hA hp he}
theorem JK(T:Txt w K mg t)(B:Bm mg base):oZ P w mg base T.ot 15 (iA t MU λ_=>.e):=by refine T.ot.F.bL wI ?_;obtain⟨k,cs,rows,e,hk,hq,hs,q⟩;refine{_,(s1<|sr<|o9 (dv 0) T.aC T.dX (lI T B) hr<|ac (dg (v:=.str "end") T.IJ {_,rfl} λ_=>dQ _) an),?_};exact !{k.w,_,rfl,hk,rfl,k,.e,cs,rows,rfl,hk,hq,hs,λA p b e hA hp he=>fo<|q A p b e hA hp he}
section
variable{cs:List (Str×Str)}
theorem Wl(hg:Gd cs)(hp:Pin cs ps)(hw:∀r∈rows,Wg cs r.2)(hk:Ow rows)(hs:tD cs ps s):tD cs ps (Bj cs ps rows s).1/\tD cs ps (Bj cs ps rows s).2:=by unfold Bj;split;rename_i r0 r1 e0 e1;have m0:=zo e0;have m1:=zo e1;exact{JE hg hp (hw r0 m0) (hk r0 m0)<|by trivial,JE hg hp (hw r1 m1) (hk r1 m1)<|by trivial};exact⟨hs,hs⟩
end
def Da(n:Nat)(d:D):Prop:=∃p:PyData,(∀S,Dr S d p)/\p.canLay0=true/\p.depth<=n
theorem Da.str(h:PyData.strOk z=true):Da 0 (.str z):={.str z,λ_=>.str z,by simp only[PyData.canLay0];exact h,by simp only[PyData.depth];lia}
theorem Da.int(i:Int):Da 0 (.int i):={.int i,λ_=>.int i,by simp only[PyData.canLay0],by simp only[PyData.depth];lia}
theorem Da.le(h:Da n d)(l:n<=m):Da m d:=by obtain⟨p,a,b,c⟩:=h;exact{p,a,b,zO c l}
theorem Da.plain(h:cR d=true):Da 0 d:=by cases d with|av=>exact{.none,λ_=>.av,by simp only[PyData.canLay0],by simp only[PyData.depth];lia}|int i=>exact .int i|str z=>have h:(decide (z.cps.size<=40)&&PyData.strOk z)=true:=h;rw[zM]at h;exact .str h.2|_=>cases h
theorem Da.all:∀{ds:List D},(∀d∈ds,Da n d)->∃ps:List PyData,(∀S,FL S ds ps)/\PyData.canLayAll0 ps=true/\PyData.depthAll ps<=n|[],_=>{[],λ_=>.nil,rfl,zT _}|d::ds,h=>by obtain⟨p,h1,h2,h3⟩:=h d zm;obtain⟨ps,k1,k2,k3⟩:=Da.all λx hx=>h x<|zh _ hx;exact{p::ps,λS=>.cons (h1 S)<|k1 S,by simp only[PyData.canLayAll0,h2,k2,yW],by simp only[PyData.depthAll];lia}
theorem Da.tup{n:Nat}{ds:List D}(h:∀d∈ds,Da n d):Da (n+1) (.tup ds):=by obtain⟨ps,k1,k2,k3⟩:=Da.all h;exact{.tuple ps,λS=>.tup<|k1 S,by simp only[PyData.canLay0];exact k2,by simp only[PyData.depth];lia}
theorem RH{cs:List<|Str×Str}(hN:∀c∈cs,c.1∈wU){ps:List Part}{wy:Str}(ho:Og cs ps wy):Da 3 (eB ps wy):=by
 have way:∀z:Str,kP z=true->PyData.strOk z=true:=λz h=>by unfold kP at h;rw[yJ]at h;rcases h with q|q<;>rw[zt q]<;>decide +kernel
 have hb:=ho.ok;unfold AF at hb;simp only[zM,yg]at hb;refine Da.tup λd hd=>?_;simp only[zi,zH,or_false]at hd;rcases hd with rfl|rfl;refine Da.tup λd hd=>?_;obtain⟨p,hp,rfl⟩:=zj.mp hd;obtain⟨c,hc,ec⟩:=ho.pin p hp;have hb:=hb.2.1 p hp;unfold fZ at hb;simp only[zM]at hb;have he:PyData.strOk p.2.2=true:=by have h:=hb.2.2;unfold CP at h;rw[yJ]at h;rcases h with q|q<;>rw[zt q]<;>decide +kernel
 refine Da.tup λd hd=>?_;simp only[zi,zH,or_false]at hd;rcases hd with rfl|rfl|rfl;exact .str (by rw[<-ec];exact(wV _<|hN c hc).2);exact .str<|way _ hb.2.1;exact .str he;exact(Da.str<|way _ ho.way).le<|by decide
theorem RJ{cs:List<|Str×Str}{ps:List Part}{g:u_}(h:Gp cs ps g):Da 3 (oM g):=by
 have hs:PyData.strOk g.2.2=true:=by have:=h.side;unfold AU at this;rw[yJ]at this;rcases this with q|q<;>rw[zt q]<;>decide +kernel
 refine Da.tup λx hx=>?_;simp only[zi,zH,or_false]at hx;rcases hx with rfl|rfl;refine Da.tup λx hx=>?_;simp only[zi,zH,or_false]at hx;rcases hx with rfl|rfl;refine Da.tup λx hx=>?_;obtain⟨i,ei⟩:=zZ hx;obtain⟨k,_,hv⟩:=cS h.pv ei;exact Da.plain hv.2;exact(Da.str (fX _ h.key).2.2).le (by decide);exact(Da.str hs).le<|by decide
theorem OA:∀{s:Sd},tD cs ps s->Da 3 (uf s)|.s,_=>(Da.str<|by trivial).le (by decide)|.e,_=>(Da.str<|by trivial).le (by decide)|.g _,h=>RJ h
theorem JL{cs:List<|Str×Str}(hN:∀c∈cs,c.1∈wU):∀{n:Nat}{d:D},Sg cs n d->Da (2*n+1) d|0,_,h=>h.elim|n+1,d,h=>by rcases h with (rfl|⟨ks,rfl,_,hk⟩|⟨o,c,v,hc,hv,ho,rfl⟩)|⟨e,rfl,he⟩|⟨o,ds,ho,rfl,_,he⟩;exact(Da.tup (n:=0) λd hd=>by rw[zA.mp hd];exact .str<|by trivial).le (by lia);refine(Da.tup (n:=1) λd hd=>?_).le (by lia);simp only[zi,zH,or_false]at hd;rcases hd with rfl|rfl;exact(Da.str<|by trivial).le (by decide);refine Da.tup λd hd=>?_;obtain⟨k,h1,rfl⟩:=zj.mp hd;exact .str (fX _<|hk k h1).2.2;refine(Da.tup (n:=0) λd hd=>?_).le (by lia);simp only[zi,zH,or_false]at hd;rcases hd with rfl|rfl|rfl;rcases ho with rfl|⟨_,rfl|rfl|⟨rfl,_⟩⟩<;>exact .str (by trivial);exact .str (wV _<|hN c hc).2;exact .plain hv.2;refine(Da.tup (n:=2*n+1) λd hd=>?_).le (by lia);simp only[zi,zH,or_false]at hd;rcases hd with rfl|rfl;exact(Da.str<|by trivial).le (by lia);exact JL hN he;refine(Da.tup (n:=2*n+2) λd hd=>?_).le (by lia);simp only[zi,zH,or_false]at hd;rcases hd with rfl|rfl;rcases ho with rfl|rfl<;>exact(Da.str<|by trivial).le (by lia);exact Da.tup λe h1=>JL hN<|he e h1
theorem Wm{cs:List<|Str×Str}(hN:∀c∈cs,c.1∈wU){q:Wk}(ho:Og cs q.ps q.wy)(hd:Sq cs q.d)(hf:tD cs q.ps q.f)(hh:tD cs q.ps q.h):Da 16 (Bk q):=Da.tup λd h=>by simp only[zi,zH,or_false]at h;rcases h with rfl|rfl|rfl|rfl|rfl;exact(RH hN ho).le (by decide);exact JL hN hd.1;exact(Da.int _).le (by decide);exact(OA hf).le (by decide);exact(OA hh).le<|by decide
noncomputable def vh(kn:Kn):List Str:=(kn.map (·.1)).mergeSort λa b=>decide<|a.cps.toList<=b.cps.toList
theorem kf(kn:Kn):(vh kn).Perm (kn.map (·.1)):=List.mergeSort_perm _ _
theorem EH:∀{l:List Str}{p:Str},(p::l).Pairwise (λa b=>a.cps.toList<=b.cps.toList)->PyProof.Rows.risingS p l=true|[],_,_=>rfl|x::r,p,h=>by obtain⟨h1,h2⟩:=List.pairwise_cons.mp h;show(!PySem.Spec.ltCps x.cps.toList p.cps.toList&&PyProof.Rows.risingS x r)=true;rw[zM,PyProof.Rows.ltCps_eq,Bool.not_eq_true',yn];exact{List.not_lt.mpr<|h1 x zm,EH h2}
theorem A3(kn:Kn):(vh kn).Pairwise λa b=>a.cps.toList<=b.cps.toList:=by refine(List.pairwise_mergeSort (λa b c h1 h2=>?_) (λa b=>?_) _).imp λh=>zt h;exact zC<|List.le_trans (zt h1)<|zt h2;rw[yJ];rcases List.le_total a.cps.toList b.cps.toList with h|h;exact .inl<|zC h;exact .inr<|zC h
theorem JM(kn:Kn):PyProof.Rows.sortedS (vh kn)=true:=by have h:=A3 kn;generalize vh kn=l at h;cases l with|nil=>rfl|cons x r=>exact EH h
theorem JN(h:KI cs kn)(p:ss.Perm (kn.map (·.1)))(o:PyProof.Rows.sortedS ss=true):ss=vh kn:=u4 (oJ o) (A3 kn) (p.nodup_iff.mpr h.nd) ((kf kn).nodup_iff.mpr h.nd) λz=>p.mem_iff.trans (kf kn).mem_iff.symm
noncomputable def je(kn:Kn):List Row:=iz kn<|vh kn
theorem A4(hI:KI cs kn)(hR:RI rs n kn):Snap rs cs n (je kn):={kn,_,rfl,hI,kf kn,JM kn,λz=>hR.wt z}
theorem JO(hI:KI cs kn):Rg cs (je kn)/\Ow (je kn):=by refine{AQ hI<|kf kn,λr hr=>?_};obtain⟨z,hz,rfl⟩:=zj.mp hr;obtain⟨ws,CZ⟩:=l_<|(kf kn).mem_iff.mp hz;exact(hI.ok _<|qF CZ).1
structure Hs where
 (a lk:Addr)
 F:List Addr
 dl:List D
 rs:mi
 kn:Kn
structure Mn(t:eQ)(S0:au)(cs:List (Str×Str))(fs:List (Addr×Ce))(hs:List Hs)(S:au):Prop where
 fa:∀x∈fs,S x.1=some x.2/\S0 x.1=none
 nd:(fs.map Prod.fst).Nodup
 fr:Sub S0 S
 sh:∀h∈hs,bI t.ak S h.a h.F cs h.dl h.rs/\KI cs h.kn/\RI h.rs h.dl.length h.kn
 ou:∀h∈hs,(∀x∈fs,x.1∉h.F)/\∀b c,S0 b=some c->b∉h.F
 ap:∀(i j:Nat)(g h:Hs),hs[i]?=some g->hs[j]?=some h->i≠j->∀b∈g.F,b∉h.F
section
variable{t:eQ}{S0 S S':au}{cs:List (Str×Str)}{fs:List (Addr×Ce)}{hs:List Hs}
theorem bI.keep(h:bI C S x F cs dl rs)(k:∀b∈F,∀c,S b=some c->S' b=some c):bI C S' x F cs dl rs:=by obtain⟨ld,lr,ra,h,e1,e2⟩:=h;subst e1;unfold fp at k;exact{ld,lr,ra,{k _ (by simp) _ h.ins,k _ (by simp) _ h.xB,k _ (by simp) _ h.run,λr hr=>k _ (zh _<|zh _<|zh _<|zj.mpr ⟨r,hr,rfl⟩) _<|h.cell r hr,h.kn,h.an,h.sz},rfl,e2}
theorem bI.inn(h:bI C S x F cs dl rs)(hb:b∈F):∃c,S b=some c:=by cases e:S b with|none=>exact absurd hb (h.out e)|some c=>exact⟨c,rfl⟩
theorem Mn.at(h:Mn t S0 cs fs hs S)(i:Nat)(e:fs[i]?=some (b,c)):S b=some c:=(h.fa _<|zo e).1
theorem Mn.sub(h:Mn t S0 cs fs hs S)(b:Sub S S'):Mn t S0 cs fs hs S':={λx hx=>{b _ _ (h.fa x hx).1,(h.fa x hx).2},h.nd,h.fr.trans b,λg hg=>{(h.sh g hg).1.sub b,(h.sh g hg).2},h.ou,h.ap}
theorem Mn.zero(h:Mn t S0 cs fs hs S)(hb:S b=none):S0 b=none:=by cases e:S0 b with|none=>rfl|some c=>have:=h.fr _ _ e;rw[hb]at this;cases this
theorem Mn.Wn(h:Mn t S0 cs fs hs S)(h0:S0 p=none)(hn:∀x∈fs,x.1≠p)(hf:∀g∈hs,p∉g.F)(e:S p=some c):Mn t S0 cs (fs++[(p,c)]) hs S:=by refine{λx hx=>?_,?_,h.fr,h.sh,λg hg=>{λx hx=>?_,(h.ou g hg).2},h.ap};rcases zL.mp hx with hx|hx;exact h.fa x hx;rw[zA.mp hx];exact⟨e,h0⟩;rw[zy,List.nodup_append];refine{h.nd,by simp,λx hx y hy e=>?_};obtain⟨z,hz,rfl⟩:=zj.mp hx;exact hn z hz<|e.trans (by simpa using hy);rcases zL.mp hx with hx|hx;exact(h.ou g hg).1 x hx;rw[zA.mp hx];exact hf g hg
theorem Mn.new(h:Mn t S0 cs fs hs S)(hp:S p=none)(c:Ce):Mn t S0 cs (fs++[(p,c)]) hs (S.set p c):=(h.sub<|.new (c:=c) hp).Wn (h.zero hp) (λx hx e=>by have:=(h.fa x hx).1;rw[e,hp]at this;cases this) (λg hg=>(h.sh g hg).1.out hp) aa
theorem Mn.put(h:Mn t S0 cs fs hs S)(i:Nat)(e:fs[i]?=some (b,c))(c':Ce):Mn t S0 cs (fs.set i (b,c')) hs (S.set b c'):=by
 have hm:=zo e;have hi:=(ze.mp e).1;have em:(fs.set i (b,c')).map Prod.fst=fs.map Prod.fst:=by refine List.ext_getElem? λj=>?_;rw[zf,zf];by_cases q:j=i;subst q;rw[yj hi,e];rfl;rw[yk<|Ne.symm q]
 have old:∀x∈fs.set i (b,c'),x=(b,c')\/(x∈fs/\x.1≠b):=λx hx=>by obtain⟨j,hj⟩:=zZ hx;by_cases q:j=i;subst q;rw[yj hi]at hj;cases hj;exact .inl rfl;rw[yk<|Ne.symm q]at hj;refine .inr {zo hj,λe2=>q ?_};have a1:(fs.map Prod.fst)[j]?=some x.1:=(by rw[zf,hj];rfl);have a2:(fs.map Prod.fst)[i]?=some b:=(by rw[zf,e];rfl);obtain⟨b1,c1⟩:=ze.mp a1;obtain⟨b2,c2⟩:=ze.mp a2;exact(List.getElem_inj h.nd (h₀:=b1) (h₁:=b2)).mp<|by rw[c1,c2];exact e2
 have hb:=h.fa _ hm;refine{λx hx=>?_,by rw[em];exact h.nd,λx c hx=>(ag<|gZ hx hb.2).trans<|h.fr x c hx,λg hg=>{(h.sh g hg).1.off<|(h.ou g hg).1 _ hm,(h.sh g hg).2},λg hg=>{λx hx=>?_,(h.ou g hg).2},h.ap};rcases old x hx with rfl|⟨h1,h2⟩;exact⟨aa,hb.2⟩;exact{(ag h2).trans (h.fa x h1).1,(h.fa x h1).2};rcases old x hx with rfl|⟨h1,h2⟩;exact(h.ou g hg).1 (b,c) hm;exact(h.ou g hg).1 _ h1
theorem Mn.perm(h:Mn t S0 cs fs hs S)(p:Nk.Perm fs):Mn t S0 cs Nk hs S:={λx hx=>h.fa x<|p.mem_iff.mp hx,(p.map _).nodup_iff.mpr h.nd,h.fr,h.sh,λg hg=>{λx hx=>(h.ou g hg).1 x<|p.mem_iff.mp hx,(h.ou g hg).2},h.ap}
theorem Mn.add(h:Mn t S0 cs fs hs S)(hb:Bt t S a lk lm cs kn ce F dl rs S'):Mn t S0 cs (fs++[(lk,.cB<|g8 kn)]) (hs++[⟨a,lk,F,dl,rs,kn⟩]) S':=by
 have Bh:=hb.st.Bh;have hl:=hb.st.fa (lk,.cB<|g8 kn) zm;have h1:=h.sub Bh.sub;have new:∀(i:Nat)(g:Hs),(hs++[⟨a,lk,F,dl,rs,kn⟩])[i]?=some g->hs[i]?=some g\/(i=hs.length/\g=⟨a,lk,F,dl,rs,kn⟩):=λi g e=>by by_cases q:i<hs.length;rw[List.getElem?_append_left q]at e;exact .inl e;rw[List.getElem?_append_right<|by lia]at e;obtain⟨e1,e2⟩:=ze.mp e;have e1:i-hs.length<1:=e1;refine .inr {by lia,?_};have e3:i-hs.length=0:=(by lia);rw[e3]at e;cases e;rfl
 have df:∀g∈hs,∀b∈g.F,b∉F:=λg hg b hb=>by obtain⟨c,hc⟩:=(h.sh g hg).1.inn hb;exact(Bh b c hc).1
 have h2:Mn t S0 cs fs (hs++[⟨a,lk,F,dl,rs,kn⟩]) S':=by refine{h1.fa,h1.nd,h1.fr,λg hg=>?_,λg hg=>?_,λi j g g' e1 e2 ne b hb=>?_};rcases zL.mp hg with hg|hg;exact h1.sh g hg;rw[zA.mp hg];exact⟨hb.st.sh,hb.ki,hb.ri⟩;rcases zL.mp hg with hg|hg;exact h1.ou g hg;rw[zA.mp hg];exact{λx hx=>(Bh _ _ (h.fa x hx).1).1,λb c e=>(Bh b c<|h.fr _ _ e).1};rcases new i g e1 with q1|⟨q1,rfl⟩<;>rcases new j g' e2 with q2|⟨q2,rfl⟩;exact h.ap i j g g' q1 q2 ne b hb;exact df g (zo q1) b hb;exact λq=>df g' (zo q2) b q hb;lia
 refine h2.Wn (h.zero hl.2.2) (λx hx e=>?_) (λg hg=>?_) hl.1;have:=(h.fa x hx).1;rw[e,show S lk=none from hl.2.2]at this;cases this;rcases zL.mp hg with hg|hg;exact(h.sh g hg).1.out hl.2.2;rw[zA.mp hg];exact hl.2.1
theorem Mn.RA(h:Mn t S0 cs fs hs S)(e:hs[k]?=some g)(hS:bI t.ak S' g.a F' cs SF cH)(hK:Be g.F F' S S')(hI:KI cs j5)(hR:RI cH SF.length j5):Mn t S0 cs fs (hs.set k ⟨g.a,g.lk,F',SF,cH,j5⟩) S':=by
 have hm:=zo e;have hi:=(ze.mp e).1;have old:∀(i:Nat)(x:Hs),(hs.set k ⟨g.a,g.lk,F',SF,cH,j5⟩)[i]?=some x->(i=k/\x=⟨g.a,g.lk,F',SF,cH,j5⟩)\/(i≠k/\hs[i]?=some x):=λi x hx=>by by_cases q:i=k;subst q;rw[yj hi]at hx;cases hx;exact .inl ⟨rfl,rfl⟩;rw[yk<|Ne.symm q]at hx;exact .inr ⟨q,hx⟩
 have df:∀(i:Nat)(x:Hs),i≠k->hs[i]?=some x->∀b∈x.F,b∉F'/\∀c,S b=some c->S' b=some c:=λi x q hx b hb=>by have n:=h.ap i k x g hx e q b hb;obtain⟨c,hc⟩:=(h.sh x<|zo hx).1.inn hb;exact{(hK b c n hc).1,λc' Ko=>(hK b c' n Ko).2}
 refine{λx hx=>{(hK _ _ ((h.ou g hm).1 x hx) (h.fa x hx).1).2,(h.fa x hx).2},h.nd,λb c hb=>(hK b c ((h.ou g hm).2 b c hb)<|h.fr b c hb).2,λx hx=>?_,λx hx=>?_,λi j x y e1 e2 ne b hb=>?_};obtain⟨i,hj⟩:=zZ hx;rcases old i x hj with⟨_,rfl⟩|⟨q,hj⟩;exact⟨hS,hI,hR⟩;have o:=h.sh x<|zo hj;exact{o.1.keep λb hb=>(df i x q hj b hb).2,o.2};obtain⟨i,hj⟩:=zZ hx;rcases old i x hj with⟨_,rfl⟩|⟨q,hj⟩;exact{λx hx=>(hK _ _ ((h.ou g hm).1 x hx) (h.fa x hx).1).1,λb c hb=>(hK b c ((h.ou g hm).2 b c hb)<|h.fr b c hb).1};exact h.ou x<|zo hj;rcases old i x e1 with⟨q1,rfl⟩|⟨q1,e1⟩<;>rcases old j y e2 with⟨q2,rfl⟩|⟨q2,e2⟩;lia;exact λq=>(df j y q2 e2 b q).1 hb;exact(df i x q1 e1 b hb).1;exact h.ap i j x y e1 e2 ne b hb
theorem Mn.qs(h:Mn t S0 cs fs hs S)(hm:g∈hs)(b:Sub S S')(hg:Gd cs)(ho:Og cs ps wy)(hd:Sq cs d)(ht:Tb t S0):Qs t S' g.a cs ps wy d .av (je g.kn):=
 have o:=h.sh g hm
 have n:=A4 o.2.1 o.2.2
 ⟨hg,ho,hd,(n.vw o.1 o.2.2 rfl sA).sub b,n.key,(ht.sub h.fr).sub b⟩
end
set_option genInjectivity true in
set_option genSizeOfSpec true in
inductive Wz where
 |on
 |back
 |first
 |last
noncomputable def RK:Wz->Str|.on=>"on"|.back=>"back"|.first=>("first")|.last=>"last"
noncomputable def EI:Wz->Wk->Sd|.on,q=>q.h|.back,q=>q.f|.first,_=>.s|.last,_=>.e
noncomputable def SG:Wz->List (Str×Str)->List Part->Str->List Row->Sd->Nat->Nat×Nat|.on=>Kh|.first=>Kh|_=>MU
noncomputable def Wk.to(cs:List<|Str×Str)(q:Wk)(rows:List Row)(s:Sd):Wk:={q.w,q.a,q.ps,q.wy,q.d,q.n,(Bj cs q.ps rows s).1,(Bj cs q.ps rows s).2}
theorem OB(z:Wz):(SG z=Kh/\BC (.str<|RK z) [.str "on",.str "first"]=true)\/(SG z=MU/\BC (.str<|RK z) [.str "on",.str "first"]=false):=by cases z;exact .inl {rfl,by trivial};exact .inr {rfl,by trivial};exact .inl {rfl,by trivial};exact .inr {rfl,by trivial}
theorem Wo{cs:List<|Str×Str}{q:Wk}(hf:tD cs q.ps q.f)(hh:tD cs q.ps q.h):∀z,tD cs q.ps (EI z q)|.on=>hh|.back=>hf|.first=>trivial|.last=>trivial
theorem Wr(z:Wz)(h:SG z cs ps wy A s n=(b,e)):b<=e/\e<=A.length:=by have l:=sV (cs:=cs) (ps:=ps) (wy:=wy) (A:=A) s;rcases OB z with⟨e1,_⟩|⟨e1,_⟩<;>rw[e1]at h;have h1:Kg cs ps wy A s=b:=congrArg Prod.fst h;have h2:GA A (Kg cs ps wy A s) n=e:=congrArg Prod.snd h;unfold GA at h2;lia;have h1:Kg cs ps wy A s-n=b:=congrArg Prod.fst h;have h2:Kg cs ps wy A s=e:=congrArg Prod.snd h;lia
theorem MV{α:Type}(A:List α):seg A 0 A.length=A:=by unfold seg;rw[List.drop_zero,Nat.sub_zero,yr]
theorem JP{α:Type}{A:List α}{b:Nat} : seg A b b=[]:=by unfold seg;rw[Nat.sub_self,List.take_zero]
theorem Ws{S:au}{ds:List D}{z:Str}{R:KD}(h:Ly S 3<|.tup ds)(hz:PyData.strOk z=true)(q:R (.bl true) S):Fx true (.tup ds) (.str z) S R:=by obtain⟨p,a,b,c⟩:=h;simp only[Dp]at a;obtain⟨ps,rfl,k⟩:=a;refine{.tuple ps,.str z,by simp only[Dl,Dp];exact⟨ps,rfl,k⟩,by simp only[Dl,Dp],b,by simp only[PyData.canLay0];exact hz,.inl<|by lia,?_};rw[if_pos rfl,show PyData.eqv (.tuple ps) (.str z)=false by simp only[PyData.eqv]];exact q
theorem OC{S:au}{σ:SD}{ds:List D}{z:Str}{R:KD}{Z:KX}(h:Ly S 3<|.tup ds)(hz:PyData.strOk z=true)(q:R (.bl true) S):dC (.str z) σ S (λy S2=>Fx true (.tup ds) y S2 R) Z:=Ws h hz q
inductive EJ (t:eQ) (ds:List D) (S:au) (R:KD) (Z:KX):Prop where
 |mk (q:Wk) (z:Wz) (cs:List<|Str×Str) (rows:List Row) (h0:ds=[.ref q.a,.tup<|cs.map aA,Bk q,.str<|RK z]) (h1:Qs t S q.a cs q.ps q.wy q.d .av rows) (h2:1<=q.n) (h3:q.n<=1000) (h4:tD cs q.ps q.f) (h5:tD cs q.ps q.h)
  (h6:∀(A:List Row)(p:Addr)(b e:Nat),Gz cs q.ps q.wy 7 q.d rows A->S p=none->SG z cs q.ps q.wy A (EI z q) q.n=(b,e)->R (.tup [C_ p b<|A.length-e,Bk<|q.to cs (seg A b e)<|EI z q]) (S.set p<|.lst<|(seg A b e).map aj)):EJ t ds S R Z
theorem RL(T:Txt w K mg t)(B:Bm mg base):Ok P w base T.IT 14 (EJ t):=by
 refine T.IT.F.bL bO ?_;obtain⟨q,z,cs,rows,e,hq,n1,n2,hf,hh,k⟩;have hg:=hq.g;have ho:=hq.o;refine{_,(sc (sa (dv 2)<|gt (n:=5)<|gc (gn (i:=4) bO.nd)<|gc (gn (i:=5) bO.nd)<|gc (gn (i:=6) bO.nd)<|gc (gn (i:=7) bO.nd)<|gc (gn (i:=8) bO.nd) g0)<|sc (b_ (i:=9) bO.nd<|ix hr.u (edd<|Xt ds (dv 8)<|Xt ds (dv 7)<|Xt ds ds<|Xt ds ds dp0)<|dv 3)<|sc (b_ (i:=10) bO.nd<|cf (((Dd T B).w).mono<|by decide) hr T.qA.m T.qA.k T.Ao d3<|al 0<|al 4<|al 5 an)<|sc (xy<|si (bu yY hr.u (dv 3)<|ck<|ac ds<|ac ds an) (sc (b_ (i:=11) bO.nd<|ck<|ac (cy an)<|ac (cb bj T.bb aK<|al 10 an)<|ac di an)<|s1<|si (bu lP hr.u (dv 9) ds) (s1<|b_ (i:=11) bO.nd<|cf (((Dc T B).w).mono<|by decide) hr T.qz.m T.qz.k T.Am d1<|al 0<|al 4<|al 5<|al 6<|ac (vP<|ix hr.u (cy<|al 9<|ac dn an)<|ct HV T.Ec vB<|ac (cm bz hr.u (dv 9) ds) an) an) s0)<|sc (b_ (i:=11) bO.nd<|ck<|ac (cy an)<|ac di<|ac (cb bj T.bb aK<|al 10 an) an)<|s1<|si (bu lP hr.u (dv 9) ds) (s1<|b_ (i:=11) bO.nd<|cf (((xk T B).w).mono<|by decide) hr T.kr.m T.kr.k T.tT d1<|al 0<|al 4<|al 5<|al 6<|ac (vP<|ix hr.u (cy<|al 9<|ac dn an)<|ct HV T.Ec vB<|ac (cm bz hr.u (dv 9) ds) an) an) s0)<|sc (b_ (i:=12) bO.nd<|aV T.qC (sS T) hr<|al 1<|al 4<|al 11 an)<|sc (si (bu iE hr.u (dv 12) dn) (s1<|b_ (i:=12) bO.nd<|ck<|al 9<|al 9 an) s0)<|s1<|sr<|ck<|al 11<|ac (bo UA hr.u (ck<|al 4<|al 5<|al 6 an)<|dv 12) an),?_};refine !!{rfl,_,_,rfl,_,_,rfl,_,_,rfl,_,_,rfl,_,_,rfl,rfl,?_};have e1:∀x:List (Key×D),x=[(.inr "on",uf q.h),(.inr "back",uf q.f),(.inr "first",.str "start"),(.inr "last",.str "end")]->bZ x (.inr<|RK z)=some (uf<|EI z q):=λx hx=>by subst hx;cases z<;>rfl
 refine λpd hpd=>!!{aa,_,rfl,_,_,aa,e1 _ rfl,?_};rw[bf];have Wt:=Wo hf hh z;have hz:=OB z;generalize EI z q=s at Wt k⊢;generalize SG z=wf at hz k;generalize RK z=zs at hz⊢;have s1:=Sub.new (c:=Ce.cB [(.inr "on",uf q.h),(.inr "back",uf q.f),(.inr "first",.str "start"),(.inr "last",.str "end")]) hpd;generalize S.set pd (Ce.cB [(.inr "on",uf q.h),(.inr "back",uf q.f),(.inr "first",.str "start"),(.inr "last",.str "end")])=S1 at s1⊢;refine !!!⟨(hq.sub s1).st none none nofun nofun λA pa hA hpa=>?_⟩;rw[show GU cs q.ps q.wy A 0 none=0 from rfl,show GU cs q.ps q.wy A A.length none=A.length from rfl,ED (zT _)<|zp _,MV];have s2:=s1.trans<|Sub.new (c:=.lst<|A.map aj) hpa;have hl:(S1.set pa<|.lst<|A.map aj) pa=some (.lst<|A.map aj):=aa;generalize S1.set pa (.lst<|A.map aj)=S2 at s2 hl⊢;have Qo:=hq.sub s2;refine{λaG S'=>∃(p:Addr) (b e:Nat),wf cs q.ps q.wy A s q.n=(b,e)/\b<=e/\e<=A.length/\S p=none/\S' p=some (.lst<|(seg A b e).map aj)/\Sub S S'/\aG=[some<|.ref q.a,some<|.tup<|cs.map aA,some<|Bk q,some<|.str zs,some<|eB q.ps q.wy,some q.d,some<|.int (q.n:Nat),some<|uf q.f,some<|uf q.h,some<|uf s,some<|.ref pa,some<|C_ p b<|A.length-e,none],?_,?_};have nn:=cQ;have z0:=r_;have z3:=oy;have ss:decide (("start": Str) ="start")=true:=by trivial
 have se:decide (("start": Str) ="end")=false:=by trivial
 have es:decide (("end": Str) ="start")=false:=by trivial
 have ee:decide (("end": Str) ="end")=true:=by trivial
 rcases hz with⟨rfl,J5⟩|⟨rfl,J5⟩;refine !{nn,rfl,rfl,_,rfl,lh J5 ?_};refine{z0,λp0 xD=>!!⟨.inl {_,(Sub.new xD) _ _ hl,z3,?_}⟩};rw[zb];have s3:=s2.trans<|Sub.new (c:=.lst []) xD;have h0:(S2.set p0<|.lst []) p0=some (.lst []):=aa;have RM:=bq s2 xD;generalize S2.set p0 (.lst [])=S3 at s3 h0⊢;have Wu:=hq.sub s3;cases s with|e=>have one:GA A A.length q.n=A.length:=(by unfold GA;lia);refine !!⟨bB (by rw[if_pos rfl,ee];rfl)<|fo {p0,A.length,A.length,congrArg (Prod.mk A.length) one,zp _,zp _,RM,by rw[JP];exact h0,s3,?_}⟩;rw[Nat.sub_self];rfl|s=>(refine !!⟨lh (by rw[if_pos rfl,se];rfl) !!!!!{nn,λp hp=>!⟨?_⟩}⟩;refine .inr !{_,_,aa,(show jm _ 1=some _ from rfl),S3,.new hp,Wu.pg (f:=XG) none n1 n2 nofun λA' pf MW JQ=>?_};obtain rfl:=hA.one hg ho.pin MW;exact fo {pf,_,_,rfl,zT _,by show min _ _<=_;lia,bq s3 JQ,aa,s3.trans<|.new JQ,rfl})|g g=>have Oz:∀S',Ly S' 3 (oM g):=λS'=>Df Wt;have hb:=sV (cs:=cs) (ps:=q.ps) (wy:=q.wy) (A:=A)<|.g g;refine{_,rfl,OC (Oz _) (by trivial) !⟨dh !!!!!{nn,λp hp=>!⟨EG (Oz _) (by trivial) ?_⟩}⟩};refine .inr !{_,_,aa,(show jm _ 0=some _ from rfl),S3,.new hp,Wu.pg (f:=XG) (some g) n1 n2 (λg' e=>by cases e;exact Wt) λA' pf MW JQ=>?_};obtain rfl:=hA.one hg ho.pin MW;exact fo {pf,_,_,rfl,by show _<=min _ _;lia,by show min _ _<=_;lia,bq s3 JQ,aa,s3.trans<|.new JQ,rfl}
 refine !{nn,rfl,rfl,_,rfl,bB J5 ?_};refine{z0,λp0 xD=>!!⟨.inl {_,(Sub.new xD) _ _ hl,z3,?_}⟩};rw[zb];have s3:=s2.trans<|Sub.new (c:=.lst []) xD;have h0:(S2.set p0<|.lst []) p0=some (.lst []):=aa;have RM:=bq s2 xD;generalize S2.set p0 (.lst [])=S3 at s3 h0⊢;have Wu:=hq.sub s3;cases s with|s=>exact (!!⟨bB (by rw[if_pos rfl,ss];rfl) (fo {p0,0,0,congrArg (Prod.mk · 0)<|Nat.zero_sub _,zp _,zT _,RM,by rw[JP];exact h0,s3,rfl})⟩)|e=>(refine !!⟨lh (by rw[if_pos rfl,es];rfl) !!!!!{nn,λp hp=>!⟨?_⟩}⟩;refine .inr !{_,_,aa,(show jm _ 1=some _ from rfl),S3,.new hp,Wu.pg (f:=XH) none n1 n2 nofun λA' pf MW JQ=>?_};obtain rfl:=hA.one hg ho.pin MW;exact fo {pf,_,_,rfl,Nat.sub_le _ _,zp _,bq s3 JQ,aa,s3.trans<|.new JQ,rfl})|g g=>have Oz:∀S',Ly S' 3 (oM g):=λS'=>Df Wt;have hb:=sV (cs:=cs) (ps:=q.ps) (wy:=q.wy) (A:=A)<|.g g;refine{_,rfl,OC (Oz _) (by trivial) !⟨dh !!!!!{nn,λp hp=>!⟨EG (Oz _) (by trivial) ?_⟩}⟩};refine .inr !{_,_,aa,(show jm _ 0=some _ from rfl),S3,.new hp,Wu.pg (f:=XH) (some g) n1 n2 (λg' e=>by cases e;exact Wt) λA' pf MW JQ=>?_};obtain rfl:=hA.one hg ho.pin MW;exact fo {pf,_,_,rfl,Nat.sub_le _ _,hb,bq s3 JQ,aa,s3.trans<|.new JQ,rfl}
 rintro aG S' ⟨p,b,e,he,Kj,heA,hp,Ob,sb,rfl⟩;have k1:=k A p b e hA hp he;have Rn:∀r∈seg A b e,Wg cs r.2:=λr hr=>hA.an.rg.1 r<|gF hr;have sp:Sub (S.set p<|.lst<|(seg A b e).map aj) S':=λx c hx=>by by_cases n:x=p;subst n;rw[aa]at hx;cases hx;exact Ob;rw[ag n]at hx;exact sb _ _ hx
 refine !!!{cs,q.ps,q.wy,p,seg A b e,b,_,rfl,hg,ho.pin,ho.len,Ob,Rn,λz=>?_,λr0 r1 q0 q1=>?_};unfold Wk.to Bj at k1;rw[z]at k1 sp;exact !!⟨dh !!{cQ,_,rfl,_,rfl,_,rfl,_,rfl,oy,_,rfl,Me,cQ,_,sp,k1}⟩;unfold Wk.to Bj at k1;rw[q0,q1]at k1;exact !!⟨bh !!!!{oy,_,rfl,Me,cQ,_,sp,k1}⟩
inductive EK (t:eQ) (ds:List D) (S:au) (R:KD) (Z:KX):Prop where
 |mk (q:Wk) (z:Wz) (cs:List<|Str×Str) (rows:List Row) (h0:ds=[.ref q.w,.str<|RK z]) (h1:S q.w=some (tE t.aI q)) (h2:Qs t S q.a cs q.ps q.wy q.d .av rows) (h3:tD cs q.ps q.f) (h4:tD cs q.ps q.h)
  (h5:∀(A:List Row)(p:Addr)(b e:Nat),Gz cs q.ps q.wy 7 q.d rows A->S p=none->SG z cs q.ps q.wy A (EI z q) q.n=(b,e)->R (C_ p b<|A.length-e) ((S.set p<|.lst<|(seg A b e).map aj).set q.w<|tE t.aI<|q.to cs (seg A b e)<|EI z q)):EK t ds S R Z
theorem RN(T:Txt w K mg t)(B:Bm mg base):Ok P w base T.wm 16 (EK t):=by refine T.wm.F.bL CD ?_;obtain⟨q,z,cs,rows,e,hk,hq,hf,hh,k⟩;refine{_,(sc (si (bu bz hr.u (dv 1) ds) (s1<|sr<|gu (dv 0) T.aC T.wq (RG T B) hr) s0)<|sc (si (bu bz hr.u (dv 1) ds) (s1<|sr<|gu (dv 0) T.aC T.oq (JJ T B) hr) s0)<|sc (si (bu bz hr.u (dv 1) ds) (s1<|sr<|gu (dv 0) T.aC T.l6 (GB T B) hr) s0)<|s1<|sr<|gu (dv 0) T.aC T.ot (JK T B) hr),?_};cases z with|on=>exact (!!⟨lh (by trivial) !{q.w,_,rfl,hk,rfl,q,cs,rows,rfl,hk,hq,hh,λA p b e hA hp he=>fo<|k A p b e hA hp he}⟩)|back=>exact (!!⟨bB (by trivial) !!⟨lh (by trivial) !{q.w,_,rfl,hk,rfl,q,cs,rows,rfl,hk,hq,hf,λA p b e hA hp he=>fo<|k A p b e hA hp he}⟩⟩)|first=>exact (!!⟨bB (by trivial) !!⟨bB (by trivial) !!⟨lh (by trivial) !{q.w,_,rfl,hk,rfl,q,cs,rows,rfl,hk,hq,trivial,λA p b e hA hp he=>fo<|k A p b e hA hp he}⟩⟩⟩)|last=>exact !!⟨bB (by trivial) !!⟨bB (by trivial) !!⟨bB (by trivial) !{q.w,_,rfl,hk,rfl,q,cs,rows,rfl,hk,hq,trivial,λA p b e hA hp he=>fo<|k A p b e hA hp he}⟩⟩⟩
theorem Sg.up:∀{n:Nat}{d:D},Sg cs n d->Sg cs (n+1) d|0,_,h=>h.elim|n+1,d,h=>by rcases h with h|⟨e,h1,h2⟩|⟨o,ds,h1,h2,h3,h4⟩;exact .inl h;exact .inr<|.inl ⟨e,h1,h2.up⟩;exact .inr<|.inr {o,ds,h1,h2,h3,λe he=>(h4 e he).up}
theorem OD:∀{n:Nat}{d:D},Sg cs n d->pG (n+1) d=pG n d|0,_,h=>h.elim|n+1,d,h=>by show((m9 d).map<|pG<|n+1).sum+1=((m9 d).map<|pG n).sum+1;rw[zW λf hf=>OD<|Jf h f hf]
theorem OE{cs:List<|Str×Str}{n:Nat}{d:D}(h:Sg cs n d)(h2:pG n d<=40):∀k,Sg cs (n+k) d/\pG (n+k) d<=40|0=>⟨h,h2⟩|k+1=>by obtain⟨a,b⟩:=OE h h2 k;exact{a.up,by show pG (n+k+1) d<=40;rw[OD a];exact b}
theorem RO{P:Program}{w:World}{K:Frag}{mg:Str->Option Value}{base:Heap}{k N:Nat}{f:Addr}{fd:FuncData}{ps:List Str}{sp:Nat->kI}(F:∀n,n<=N->bK P w K mg base (fH P w mg) k f fd ps (qv K<|sp n)):bK P w K mg base (fH P w mg) k f fd ps (qv K λds S R Z=>∃n,n<=N/\sp n ds S R Z):=by refine{?_,?_};rintro vs H Q E ⟨ds,S,R,Z,a,b,⟨n,hn,c⟩,d⟩;exact(F n hn).len vs H Q E ⟨ds,S,R,Z,a,b,c,d⟩;rintro A outer s H args us vs Q E hr he hb hv ⟨ds,S,R,Z,a,b,⟨n,hn,c⟩,d⟩;exact(F n hn).run A outer s H args us vs Q E hr he hb hv ⟨ds,S,R,Z,a,b,c,d⟩
theorem Wv(ns:List Int)(i k:Nat):(dP ns (some ((i:Nat):Int))<|some ((i+k:Nat):Int)).length<=k:=by unfold dP;rw[HT.sIx_nat,HT.sIx_nat];exact zO (List.length_take_le _ _)<|by lia
theorem nD{α β:Type}{f:α->β}{l:List α}{k:Nat}{x y:α}(e:l[k]?=some x)(h:f y=f x):(l.set k y).map f=l.map f:=by refine List.ext_getElem? λj=>?_;rw[zf,zf];by_cases q:k=j;subst q;rw[yj (ze.mp e).1,e];exact congrArg some h;rw[yk q]
theorem two_of{α:Type} : ∀{l:List α},l.length=2->∃a b,l=[a,b]|[a,b],_=>⟨a,b,rfl⟩
noncomputable def Ww(h:Hs):Addr×Ce:=(h.lk,.cB<|g8 h.kn)
noncomputable def wkF(t:eQ)(q:Wk):Addr×Ce:=(q.w,tE t.aI q)
noncomputable def FA(ls lt:Addr)(hs:List Hs):List (Addr×Ce):=(ls,.lst<|hs.map λh=>D.ref h.a)::(lt,.lst<|hs.map λh=>D.ref h.lk)::hs.map Ww
noncomputable def FB(t:eQ)(ls lt lw ld:Addr)(hs:List Hs)(qs:List Wk):List (Addr×Ce):=FA ls lt hs++(lw,.lst<|qs.map λq=>D.ref q.w)::(ld,.lst<|qs.map Bk)::qs.map (wkF t)
theorem MX{t:eQ}{ls lt lw ld:Addr}{qs:List Wk}{k:Nat}{hs:List Hs}{g g':Hs}(e:hs[k]?=some g)(h1:g'.a=g.a)(h2:g'.lk=g.lk)(x:Addr×Ce):(x::FB t ls lt lw ld hs qs).set (k+3) (Ww g')=x::FB t ls lt lw ld (hs.set k g') qs:=by unfold FB FA;rw[nD (f:=λh:Hs=>D.ref h.a) (y:=g') e<|congrArg D.ref h1,nD (f:=λh:Hs=>D.ref h.lk) (y:=g') e<|congrArg D.ref h2,List.map_set];show _::_::_::(hs.map Ww++_).set k _=_;rw[List.set_append_left _ _<|by rw[zb];exact(ze.mp e).1];rfl
theorem MY{t:eQ}{ls lt lw ld:Addr}{qs:List Wk}{j:Nat}{g0 g1:Hs}{y y':Wk}(e:qs[j]?=some y)(h:y'.w=y.w)(x:Addr×Ce):((x::FB t ls lt lw ld [g0,g1] qs).set (j+7) (y'.w,tE t.aI y')).set 6 (ld,.lst<|(qs.map Bk).set j<|Bk y')=x::FB t ls lt lw ld [g0,g1] (qs.set j y'):=by unfold FB;rw[nD (f:=λq:Wk=>D.ref q.w) (y:=y') e<|congrArg D.ref h,List.map_set,List.map_set];rfl
structure Wq(cs:List (Str×Str))(as:List Addr)(qs:List Wk):Prop where
 of:∀(j:Nat)(q:Wk),qs[j]?=some q->as[j/2]?=some q.a/\Og cs q.ps q.wy/\Sq cs q.d/\(1<=q.n/\q.n<=1000)/\tD cs q.ps q.f/\tD cs q.ps q.h
theorem Wq.add{cs:List<|Str×Str}{as:List Addr}{qs:List Wk}(h:Wq cs as qs){q:Wk}(hq:as[qs.length/2]?=some q.a/\Og cs q.ps q.wy/\Sq cs q.d/\(1<=q.n/\q.n<=1000)/\tD cs q.ps q.f/\tD cs q.ps q.h):Wq cs as (qs++[q]):=⟨λj q' e=>by
 by_cases l:j<qs.length;rw[List.getElem?_append_left l]at e;exact h.of j q' e;rw[List.getElem?_append_right<|by lia]at e;have e1:j-qs.length<1:=(ze.mp e).1;obtain rfl:j=qs.length:=by lia
 rw[Nat.sub_self]at e;cases e;exact hq⟩
theorem Wq.put{cs:List<|Str×Str}{as:List Addr}{qs:List Wk}(h:Wq cs as qs){k:Nat}{q:Wk}(hq:as[k/2]?=some q.a/\Og cs q.ps q.wy/\Sq cs q.d/\(1<=q.n/\q.n<=1000)/\tD cs q.ps q.f/\tD cs q.ps q.h):Wq cs as (qs.set k q):=⟨λj q' e=>by by_cases l:k=j;subst l;rw[yj<|by have:=(ze.mp e).1;rwa [List.length_set]at this]at e;cases e;exact hq;rw[yk l]at e;exact h.of j q' e⟩
theorem Wx{d:D}(h:d∈[D.str "on",.str "back",.str "on",.str "first",.str "on",.str "last"]):∃z,d=.str (RK z):=by simp only[zi,zH,or_false]at h;rcases h with h|h|h|h|h|h;exact{.on,h};exact{.back,h};exact{.on,h};exact{.first,h};exact{.on,h};exact{.last,h}
theorem RP{n j:Nat}(h:j<n):GI n ((j:Nat):Int)=some j:=by unfold GI;rw[if_pos<|by lia,if_pos<|by lia];rfl
def GV(S:au)(ds:List D)(hs:List Hs):Prop:=Paired (λd h=>∃p,d=.ref p/\S p=some (.lst<|(je h.kn).map aj)) ds hs
theorem GV.sub{S S':au}{ds:List D}{hs:List Hs}(h:GV S ds hs)(b:Sub S S'):GV S' ds hs:=by unfold GV at h⊢;induction h with|nil=>exact .nil|cons r _ ih=>obtain⟨p,e,k⟩:=r;exact .cons {p,e,b _ _ k} ih
theorem GV.dr{S:au}{cs:List<|Str×Str}{ds:List D}{hs:List Hs}(h:GV S ds hs):(∀g∈hs,KI cs g.kn)->FL S ds (hs.map λg=>.list<|(je g.kn).map JF)/\PyData.canLayAll0 (hs.map λg=>.list<|(je g.kn).map JF)=true/\PyData.depthAll (hs.map λg=>.list<|(je g.kn).map JF)<=3:=by unfold GV at h;induction h with|nil=>exact λ_=>{.nil,rfl,zT _}|@cons d g ds hs r _ ih=>intro k;obtain⟨p,rfl,e⟩:=r;obtain⟨i1,i2,i3⟩:=ih λx hx=>k x<|zh _ hx;have hg:=JO<|k g zm;obtain⟨a,c⟩:=sT hg.1.1 hg.2;exact{.cons (.ref e<|xl hg.1.1) i1,by simp only[zu,PyData.canLayAll0,PyData.canLay0,a,i2,yW],by simp only[zu,PyData.depthAll,PyData.depth];lia}
theorem GV.snoc{S S':au}{ds:List D}{hs:List Hs}{i:Nat}{g:Hs}{p:Addr}(h:GV S ds<|hs.take i)(b:Sub S S')(e:hs[i]?=some g)(k:S' p=some (.lst<|(je g.kn).map aj)):GV S' (ds++[.ref p]) (hs.take<|i+1):=by rw[List.take_add_one,e];exact iW (h.sub b)<|.cons ⟨p,rfl,k⟩ .nil
inductive JR (t:eQ) (ds:List D) (S:au) (R:KD) (Z:KX):Prop where
 |mk (ns:List Int) (h0:ds=[.jn<|ns.map D.int]) (h1:ns.length<=63) (h2:Tb t S) (h3:R (.bl true) S)
theorem MZ(T:Txt w K mg t)(B:Bm mg base):Ok P w base T.law 20 (JR t):=by
 have GC:Ok P w base T.iP 5 _:=RO (sp:=Rw) (N:=3) λn hn=>(oI T n).mono (by lia);have sU:Ok P w base T.oo 7 (Wf t):=(El T).LM λds S R Z h=>h.of;refine T.law.F.bL bT ?_;obtain⟨ns,e,QB,htb,q⟩;refine{_,(sc (b_ (i:=1) bT.nd<|aV T.om (CM T) hr<|ac (aV T.fE (iT T) hr<|al 0<|ac di an) an)<|sc (b_ (i:=2) bT.nd<|cy an)<|sc (b_ (i:=3) bT.nd<|cy an)<|sc (xy<|GQ (LL T.ft<|ac di an) (gn (i:=4) bT.nd)<|sc (sa (aV T.wk (JH T) hr<|al 1<|ac (QO (dv 0) (o1<|bo aY hr.u di<|bo mz hr.u di<|dv 4)<|o1<|bo aY hr.u di<|bo mz hr.u di<|dv 4) an)<|gt (n:=3)<|gc (gn (i:=5) bT.nd)<|gc (gn (i:=6) bT.nd)<|gc (gn (i:=7) bT.nd) g0)<|sc (se<|bm zK zQ zR bF (dv 2)<|al 5 an)<|s1<|se<|bm zK zQ zR bF (dv 3)<|al 7 an)<|sc (b_ (i:=8) bT.nd<|cy an)<|sc (b_ (i:=9) bT.nd<|cy an)<|sc (xy<|GQ (LL T.ft<|ac di an) (gn (i:=4) bT.nd)<|sc (b_ (i:=10) bT.nd<|aV T.we (Jw T) hr<|al 1<|ac (aV T.fE (iT T) hr<|al 0<|ac (bo aY hr.u di<|dv 4) an) an)<|sc (b_ (i:=11) bT.nd<|aV T.iP GC hr<|al 1<|ac (aV T.iO (j0 T) hr<|ac (bo aY hr.u (aV T.fE (iT T) hr<|al 0<|ac (bo aY hr.u di<|dv 4) an) di)<|ac di an)<|al 4 an)<|sc (b_ (i:=12) bT.nd<|aV T.Cu (MS T) hr<|ac (bo aY hr.u (aV T.fE (iT T) hr<|al 0<|ac (bo aY hr.u di<|dv 4) an)<|dv 4) an)<|sc (se<|bm zK zQ zR bF (dv 8)<|ac (mk T.Md (JI T) (hr.mono<|by decide) T.Mc T.gT.b d0<|ac (ix hr.u (dv 2)<|bo bR hr.u (dv 4) di)<|al 10<|al 11<|al 12 an) an)<|s1<|se<|bm zK zQ zR bF (dv 9)<|ac (ck<|al 10<|al 11<|al 12<|ac ds<|ac ds an) an)<|sc (xy<|GQ (il<|QO (dv 0) (o1 di)<|o1 di) (gn (i:=13) bT.nd)<|sc (b_ (i:=14) bT.nd<|aV T.iO (j0 T) hr<|al 13<|ac di an)<|sc (xy<|si (bu bz hr.u (bo bw hr.u (ix hr.u (dv 14) di) di) di) (sc (b_ (i:=4) bT.nd<|bo bw hr.u (ix hr.u (dv 14) di) di)<|s1<|se<|aV T.oo sU hr<|ac (ix hr.u (dv 2)<|dv 4)<|ac (aV T.wg (AY T) hr<|al 1<|ac (ix hr.u (dv 3)<|dv 4)<|ac (bo bR hr.u (dv 13) di) an) an)<|sc (b_ (i:=4) bT.nd<|bo bw hr.u (ix hr.u (dv 14) di) di)<|sc (b_ (i:=15) bT.nd<|vP<|ix hr.u (cy<|ac ds<|ac ds<|ac ds<|ac ds<|ac ds<|ac ds an)<|bo bw hr.u (ix hr.u (dv 14) di) di)<|sc (sa (aV T.IT (RL T B) hr<|ac (ix hr.u (dv 2)<|bo bR hr.u (dv 4) di)<|al 1<|ac (ix hr.u (dv 9)<|dv 4)<|al 15 an)<|gt (n:=2)<|gc (gn (i:=16) bT.nd)<|gc (gn (i:=17) bT.nd) g0)<|sc (si (bu N7 hr.u (aV T.wm (RN T B) hr<|ac (ix hr.u (dv 8)<|dv 4)<|al 15 an)<|dv 16) (s1<|sr db) s0)<|s1<|sls (dv 9) (dv 4)<|dv 17)<|s1<|si (bu N7 hr.u (uH (N:=["_law_walk"]) (src:=[none]) (lO (ae IG) ["_law_script","_law_columns_here","_law_shelves","_law_standings","_law_k","_law_shelf","_law_moments","_law_standing","_law_walks","_law_stands","_law_order_here","_law_sieve_here","_law_size_here","_law_cell","_law_xs","_law_word","_law_due_here","_law_stand"] rfl rfl<|by trivial) (il<|dv 8) (qx<|show(["_law_walk"]:List Str).Nodup by trivial) (a_ rfl) ba (λ_ _ _ _ _=>rB) λ_ _ _ _ _=>(gu (dv 0) T.aC T.jO (Dg T) hr))<|dv 9) (s1<|sr db) s0)<|s1<|sr<|cm VC hr.u (uH (N:=["_law_shelf"]) (src:=[none]) (lO (ae IG) ["_law_script","_law_columns_here","_law_shelves","_law_standings","_law_k","_law_shelf","_law_moments","_law_standing","_law_walks","_law_stands","_law_order_here","_law_sieve_here","_law_size_here","_law_cell","_law_xs","_law_word","_law_due_here","_law_stand"] rfl rfl<|by trivial) (il<|dv 2) (qx<|show(["_law_shelf"]:List Str).Nodup by trivial) (a_ rfl) ba (λ_ _ _ _ _=>rB) λ_ _ _ _ _=>(US (dv 0) T.ai T.fq.e ((uU T).mono<|by decide) hr T.n8 d1))<|uH (N:=["_law_standing"]) (src:=[none]) (lO (ae IG) ["_law_script","_law_columns_here","_law_shelves","_law_standings","_law_k","_law_shelf","_law_moments","_law_standing","_law_walks","_law_stands","_law_order_here","_law_sieve_here","_law_size_here","_law_cell","_law_xs","_law_word","_law_due_here","_law_stand"] rfl rfl<|by trivial) (il<|dv 3) (qx<|show(["_law_standing"]:List Str).Nodup by trivial) (a_ rfl) ba (λ_ _ _ _ _=>rB) λ_ _ _ _ _=>(aV T.wj (A1 T) hr<|al 0 an)),?_};refine !{ns,0,rfl,λc0=>{c0,rfl,λcs hcg=>?_}};have hg:=hcg.1;have hN:=hcg.2;have z0:=r_;refine{z0,λls XM=>{z0,λlt eC=>?_}};have M0:Mn t S cs [] [] S:={λ_ h=>(nomatch h),.nil,.refl _,λ_ h=>(nomatch h),λ_ h=>(nomatch h),λi j g h e=>by simp at e};have M1:Mn t S cs (FA ls lt []) [] ((S.set ls<|.lst []).set lt<|.lst []):=(M0.new XM<|.lst []).new eC<|.lst [];generalize (S.set ls<|.lst []).set lt (.lst [])=S1 at M1⊢;refine{λaG S'=>∃(hs:List Hs) (o4 o5 o6 o7:Option D),aG=[some<|.jn<|ns.map D.int,some<|.tup<|cs.map aA,some<|.ref ls,some<|.ref lt,o4,o5,o6,o7,none,none,none,none,none,none,none,none,none,none]/\hs.length=2/\(∀h∈hs,h.dl.length<=64)/\Mn t S cs (FA ls lt hs) hs S',?_,?_};refine !{by decide,by decide,?_};refine{λi aG S'=>∃(hs:List Hs) (o4 o5 o6 o7:Option D),aG=[some<|.jn<|ns.map D.int,some<|.tup<|cs.map aA,some<|.ref ls,some<|.ref lt,o4,o5,o6,o7,none,none,none,none,none,none,none,none,none,none]/\hs.length=i/\(∀h∈hs,h.dl.length<=64)/\Mn t S cs (FA ls lt hs) hs S',{[],_,_,_,_,rfl,rfl,λ_ h=>(nomatch h),M1},λ_ _ _ _=>trivial,?_,?_};rintro i d aG S' hd ⟨hs,o4,o5,o6,o7,rfl,hl,p5,M⟩;obtain⟨hi,ed⟩:=cK hd;have hi:i<2:=hi;rw[Int.zero_add]at ed;subst ed;refine !!!{.inl<|by decide,_,rfl,_,rfl,.inl<|by decide,_,rfl,λp1 AI=>?_};rw[show(4:Int)+5*((i:Nat):Int)=((4+5*i:Nat):Int) by lia,show(9:Int)+5*((i:Nat):Int)=((4+5*i+5:Nat):Int) by lia];refine{cs,p1,dP ns (some ((4+5*i:Nat):Int))<|some ((4+5*i+5:Nat):Int),rfl,hg,by rw[nq];exact aa,Wv ns _ 5,λS3 a lk lm kn ce F dl rs hb=>?_};have M2:=(M.sub<|.new AI).add hb;refine !{rfl,_,_,rfl,_,_,rfl,_,_,rfl,rfl,?_};have c0:=M2.at 0 rfl;refine{_,rfl,{rfl,_,c0},_,rfl,ls,_,_,rfl,rfl,c0,bg<|by rw[zb];lia,?_};have M3:=M2.put 0 rfl<|.lst<|(hs.map λh=>D.ref h.a)++[.ref a];have c1:=M3.at 1 rfl;refine{_,rfl,{rfl,_,c1},_,rfl,lt,_,_,rfl,rfl,c1,bg<|by rw[zb];lia,?_};have M4:=M3.put 1 rfl<|.lst<|(hs.map λh=>D.ref h.lk)++[.ref lk];refine{hs++[⟨a,lk,F,dl,rs,kn⟩],_,_,_,_,rfl,by rw[zx,hl];rfl,λh hh=>?_,?_};rcases zL.mp hh with hh|hh;exact p5 h hh;rw[zA.mp hh];exact hb.le;unfold FA;rw[zy,zy,zy];exact M4;rintro aG S' ⟨hs,o4,o5,o6,o7,rfl,hl,p5,M⟩;exact fo {hs,_,_,_,_,rfl,hl,p5,M};rintro aG S2 ⟨hs,o4,o5,o6,o7,rfl,hl,p5,M2⟩;obtain⟨h0,h1,rfl⟩:=two_of hl;clear hl;refine{z0,λlw XN=>{z0,λld Oe=>?_}};have M3:Mn t S cs (FB t ls lt lw ld [h0,h1] []) [h0,h1] ((S2.set lw<|.lst []).set ld<|.lst []):=(M2.new XN<|.lst []).new Oe<|.lst [];generalize (S2.set lw<|.lst []).set ld (.lst [])=S3 at M3⊢;refine{λaG S'=>∃(qs:List Wk) (o4 o5 o6 o7 EL EM EN:Option D),aG=[some<|.jn<|ns.map D.int,some<|.tup<|cs.map aA,some<|.ref ls,some<|.ref lt,o4,o5,o6,o7,some<|.ref lw,some<|.ref ld,EL,EM,EN,none,none,none,none,none]/\qs.length=3/\Wq cs [h0.a,h1.a] qs/\Mn t S cs (FB t ls lt lw ld [h0,h1] qs) [h0,h1] S',?_,?_};refine !{by decide,by decide,?_};refine{λi aG S'=>∃(qs:List Wk) (o4 o5 o6 o7 EL EM EN:Option D),aG=[some<|.jn<|ns.map D.int,some<|.tup<|cs.map aA,some<|.ref ls,some<|.ref lt,o4,o5,o6,o7,some<|.ref lw,some<|.ref ld,EL,EM,EN,none,none,none,none,none]/\qs.length=i/\Wq cs [h0.a,h1.a] qs/\Mn t S cs (FB t ls lt lw ld [h0,h1] qs) [h0,h1] S',{[],_,_,_,_,_,_,_,rfl,rfl,⟨λj q e=>by simp at e⟩,M3},λ_ _ _ _=>trivial,?_,?_};rintro i d aG S' hd ⟨qs,o4,o5,o6,o7,EL,EM,EN,rfl,hl,hW,M⟩;obtain⟨hi,ed⟩:=cK hd;have hi:i<3:=hi;rw[Int.zero_add]at ed;subst ed;have e1:(1:Int)+((i:Nat):Int)=((1+i:Nat):Int):=by lia
 refine !!!{ns,1+i,by rw[e1];rfl,λc1=>{cs,c1,rfl,hg,λps wy ho=>?_}};refine !!!{ns,1+i,by rw[e1];rfl,λc2=>{_,14,rfl,by decide,λxs lx Mu hx BI=>!⟨?_⟩}};refine{i+1,by lia,cs,lx,i,xs,rfl,rfl,hcg,aa,by lia,hx,λd ys hd hsz _ _=>?_};rw[bf];have hsq:Sq cs d:=by have h13:pG (i+1) d<=40:=zO hsz (by rcases i with _|_|_|i<;>first|decide|lia);obtain⟨a,b⟩:=OE hd h13<|6-i;rw[show i+1+(6-i)=7 by lia]at a b;exact{a,by lia}
 have M1:=M.sub<|Sub.new (c:=.lst<|ys.map D.int) BI;generalize S'.set lx (.lst<|ys.map D.int)=S4 at M1⊢;refine !!{ns,1+i,by rw[e1];rfl,λc3=>!!⟨λn n1 n2=>?_⟩};have c4:=M1.at 4 rfl;have Qq:i/2<2:=by lia
 obtain⟨g,eg⟩:∃g,[h0,h1][i/2]?=some g:={_,zg Qq};have ea:[h0.a,h1.a][i/2]?=some g.a:=by rw[show[h0.a,h1.a]=[h0,h1].map Hs.a from rfl,zf,eg];rfl
 have aS:jm ([h0,h1].map λh=>D.ref h.a) (((i:Nat):Int)/2)=some (.ref g.a):=by rw[show((i:Nat):Int)/2=((i/2:Nat):Int) by lia];exact bW<|by rw[zf,eg];rfl
 have og:=M1.sh g<|zo eg;refine{_,rfl,{rfl,_,c4},_,rfl,_,rfl,{by decide,by trivial},_,_,M1.at 0 rfl,aS,_,rfl,_,rfl,_,rfl,λk hk=>{k,g.a,cs,ps,wy,d,n,g.F,g.dl,g.rs,rfl,hg,ho,hsq,n1,n2,og.1.sub<|.new hk,aa,rfl,?_}};rw[bf];have M5:=M1.new hk<|tE t.aI {k,g.a,ps,wy,d,n,.s,.s};generalize S4.set k (tE t.aI {k,g.a,ps,wy,d,n,.s,.s})=S5 at M5⊢;refine{lw,_,_,rfl,rfl,M5.at 4 rfl,bg<|by rw[zb];lia,?_};have M6:=M5.put 4 rfl<|.lst<|(qs.map λq=>D.ref q.w)++[.ref k];generalize S5.set lw (.lst<|(qs.map λq=>D.ref q.w)++[.ref k])=S6 at M6⊢;have c5:=M6.at 5 rfl;refine{_,rfl,{rfl,_,c5},_,rfl,_,rfl,_,rfl,Me,ld,_,_,rfl,rfl,c5,bg<|by rw[zb];lia,?_};have M7:=M6.put 5 rfl<|.lst<|qs.map Bk++[Bk {k,g.a,ps,wy,d,n,.s,.s}];refine{qs++[{k,g.a,ps,wy,d,n,.s,.s}],_,_,_,_,_,_,_,rfl,by rw[zx,hl];rfl,hW.add (q:={k,g.a,ps,wy,d,n,.s,.s}) {by rw[hl];exact ea,ho,hsq,⟨n1,n2⟩,trivial,trivial},?_};unfold FB;rw[zy,zy,zy];exact M7;rintro aG S' ⟨qs,o4,o5,o6,o7,EL,EM,EN,rfl,hl,r⟩;exact fo {qs,_,_,_,_,_,_,_,rfl,hl,r};rintro aG S4 ⟨qs,o4,o5,o6,o7,EL,EM,EN,rfl,RQ,hW,M4⟩;refine{λaG S'=>∃(hs:List Hs)(o4 o5 o6 o7 EL EM EN SH SI M8 M_ Na:Option D),aG=[some<|.jn<|ns.map D.int,some<|.tup<|cs.map aA,some<|.ref ls,some<|.ref lt,o4,o5,o6,o7,some<|.ref lw,some<|.ref ld,EL,EM,EN,SH,SI,M8,M_,Na]/\hs.length=2/\Mn t S cs (FA ls lt hs) hs S',?_,?_};refine !!!⟨λlp XB=>{_,aa,?_}⟩;rw[nq];have l30:(dP ns (some 14)<|some 44).length<=30:=Wv ns 14 30;generalize dP ns (some 14) (some 44)=ms at l30⊢;have M5:Mn t S cs ((lp,.lst<|ms.map D.int)::FB t ls lt lw ld [h0,h1] qs) [h0,h1] (S4.set lp<|.lst<|ms.map D.int):=(M4.new XB _).perm (List.perm_append_singleton _ _).symm;generalize S4.set lp (.lst<|ms.map D.int)=S5 at M5⊢;refine{λi aG S'=>∃(hs:List Hs)(qs:List Wk)(o4 o5 o6 o7 EL EM EN SH SI M8 M_ Na:Option D),aG=[some<|.jn<|ns.map D.int,some<|.tup<|cs.map aA,some<|.ref ls,some<|.ref lt,o4,o5,o6,o7,some<|.ref lw,some<|.ref ld,EL,EM,EN,SH,SI,M8,M_,Na]/\hs.map Hs.a=[h0.a,h1.a]/\(∀h∈hs,h.dl.length<=64+i)/\qs.length=3/\Wq cs [h0.a,h1.a] qs/\Mn t S cs ((lp,.lst<|ms.map D.int)::FB t ls lt lw ld hs qs) hs S',{[h0,h1],qs,_,_,_,_,_,_,_,_,_,_,_,_,rfl,rfl,p5,RQ,hW,M5},?_,?_,?_};rintro i aG S' ⟨_,_,_,_,_,_,_,_,_,_,_,_,_,_,_,_,_,_,_,M⟩;exact M.at 0 rfl;rintro i dd aG S' hd ⟨hs,qs,o4,o5,o6,o7,EL,EM,EN,SH,SI,M8,M_,Na,rfl,has,p5,RQ,hW,M⟩;have hd:(ms.map D.int)[i]?=some dd:=hd;have hi:=(ze.mp hd).1;rw[zb]at hi;obtain⟨c,_,rfl⟩:=zj.mp<|zo hd;obtain⟨g0,g1,rfl⟩:=two_of<|(zb _).symm.trans<|congrArg List.length has;refine !{c,3,rfl,by decide,λxs lx Mu hx BI=>?_};have M1:=M.sub<|Sub.new (c:=.lst<|xs.map D.int) BI;have hX:(S'.set lx<|.lst<|xs.map D.int) lx=some (.lst<|xs.map D.int):=aa;generalize S'.set lx (.lst<|xs.map D.int)=S6 at M1 hX⊢;have at_:∀k:Nat,k<3->∃x:Int,jm (xs.map D.int) ((k:Nat):Int)=some (.int x)/\0<=x:=λk hk=>sD (by lia) (by rw[zb];lia) hx;obtain⟨x0,e0,_⟩:=at_ 0 (by decide);obtain⟨x1,e1,_⟩:=at_ 1 (by decide);obtain⟨x2,e2,_⟩:=at_ 2 (by decide);refine{λaG Ki=>∃(hs:List Hs)(qs:List Wk)(o4 M8 M_ Na:Option D),aG=[some<|.jn<|ns.map D.int,some<|.tup<|cs.map aA,some<|.ref ls,some<|.ref lt,o4,o5,o6,o7,some<|.ref lw,some<|.ref ld,EL,EM,EN,some<|.int c,some<|.ref lx,M8,M_,Na]/\hs.map Hs.a=[h0.a,h1.a]/\(∀h∈hs,h.dl.length<=64+(i+1))/\qs.length=3/\Wq cs [h0.a,h1.a] qs/\Mn t S cs ((lp,.lst<|ms.map D.int)::FB t ls lt lw ld hs qs) hs Ki,?_,?_};refine !{_,_,hX,e0,by decide,_,rfl,cA (λ_=>?_) λ_=>?_};refine !{_,_,hX,e1,by decide,?_};obtain⟨k,ek⟩:=Int.eq_ofNat_of_zero_le<|show 0<=x1%2 from zP _ (by decide);have hk:k<2:=by have:=zN x1 (show(0:Int)<2 by decide);lia
 rw[ek];obtain⟨g,eg⟩:∃g,[g0,g1][k]?=some g:={_,zg hk};have aS:jm ([g0,g1].map λh=>D.ref h.a) ((k:Nat):Int)=some (.ref g.a):=bW (by rw[zf,eg];rfl);have aT:jm ([g0,g1].map λh=>D.ref h.lk) ((k:Nat):Int)=some (.ref g.lk):=bW (by rw[zf,eg];rfl);have hm:=zo eg;have og:=M1.sh g hm;have el:((lp,Ce.lst<|ms.map D.int)::FB t ls lt lw ld [g0,g1] qs)[k+3]?=some (g.lk,.cB<|g8 g.kn):=by show([g0,g1].map Ww++_)[k]?=_;rw[List.getElem?_append_left<|by rw[zb];exact hk,zf,eg];rfl
 refine !!{_,_,M1.at 1 rfl,aS,_,rfl,_,rfl,_,rfl,_,_,M1.at 2 rfl,aT,_,rfl,{by decide,by trivial},cs,g.lk,g.kn,_,rfl,hg,M1.at (k+3) el,og.2.1,λde j5 hde V0 Wi=>?_};have M2:=M1.put (k+3) el<|.cB<|g8 j5;generalize S6.set g.lk (.cB<|g8 j5)=S7 at M2⊢;have aew:=p5 g hm;refine⟨(u9 (M2.sh g hm).1 hg og.2.1 og.2.2 (by lia) hde V0 λS8 F8 rs8 hS8 hK8 hR8 hold=>?_).of⟩;have M3:=M2.RA eg hS8 hK8 Wi (by rw[zx];exact hR8);refine fo {[g0,g1].set k {g.a,g.lk,F8,g.dl++[de],rs8,j5},qs,_,_,_,_,rfl,(nD (f:=Hs.a) (y:={g.a,g.lk,F8,g.dl++[de],rs8,j5}) eg rfl).trans has,λh hh=>?_,RQ,hW,by rw[<-MX (g':={g.a,g.lk,F8,g.dl++[de],rs8,j5}) eg rfl rfl];exact M3};rcases List.mem_or_eq_of_mem_set hh with hh|rfl;have:=p5 h hh;lia;rw[zx];show g.dl.length+1<=_;lia;refine !{_,_,hX,e1,by decide,?_};obtain⟨j,ej⟩:=Int.eq_ofNat_of_zero_le<|show 0<=x1%3 from zP _ (by decide);have hj:j<3:=by have:=zN x1 (show(0:Int)<3 by decide);lia
 rw[ej];refine{VO,λp hp=>!{_,_,(Sub.new hp) _ _ hX,e2,by decide,bX (zP _<|by decide) (zN _<|by decide) hp λd' xu=>?_}};obtain⟨z,rfl⟩:=Wx xu;clear xu hp p;obtain⟨y,ey⟩:∃y,qs[j]?=some y:={_,zg<|by lia};obtain⟨wa,wo,wd,wn,wf,wh⟩:=hW.of j y ey;rw[<-has,zf]at wa;obtain⟨g,eg,ega⟩:=Option.map_eq_some_iff.mp wa;have hm:=zo eg;have aS:jm ([g0,g1].map λh=>D.ref h.a) (((j:Nat):Int)/2)=some (.ref y.a):=by rw[show((j:Nat):Int)/2=((j/2:Nat):Int) by lia];exact bW<|by rw[zf,eg,<-ega];rfl
 have aD:jm (qs.map Bk) ((j:Nat):Int)=some (Bk y):=bW (by rw[zf,ey];rfl);have aW:jm (qs.map λq=>D.ref q.w) ((j:Nat):Int)=some (.ref y.w):=bW (by rw[zf,ey];rfl);have ZX:∀{Ki},Sub S6 Ki->Qs t Ki y.a cs y.ps y.wy y.d .av (je g.kn):=λb=>by rw[<-ega];exact M1.qs hm b hg wo wd htb
 refine !!⟨{by decide,by trivial},_,_,M1.at 1 rfl,aS,_,rfl,_,rfl,_,rfl,_,_,M1.at 6 rfl,aD,_,rfl,y,z,cs,je g.kn,rfl,ZX<|.refl _,wn.1,wn.2,wf,wh,λA p b e hA hp he=>?_⟩;refine !{rfl,_,_,rfl,_,_,rfl,rfl,?_};have s7:=Sub.new (c:=.lst<|(seg A b e).map aj) hp;have hP:(S6.set p<|.lst<|(seg A b e).map aj) p=some (.lst<|(seg A b e).map aj):=aa;have M2:=M1.sub s7;generalize S6.set p (.lst<|(seg A b e).map aj)=S7 at s7 hP M2⊢;have ew:((lp,Ce.lst<|ms.map D.int)::FB t ls lt lw ld [g0,g1] qs)[j+7]?=some (y.w,tE t.aI y):=by show(qs.map<|wkF t)[j]?=_;rw[zf,ey];rfl
 have hw7:=M2.at (j+7) ew;refine !!{_,_,M2.at 5 rfl,aW,_,rfl,y,z,cs,je g.kn,rfl,hw7,ZX s7,wf,wh,λA' p' b' e' MW Ob Ql=>?_};obtain rfl:=hA.one hg wo.pin MW;rw[he]at Ql;cases Ql;have Kj:=Wr z he;have s8:=Sub.new (c:=.lst<|(seg A b e).map aj) Ob;have M3:=(M2.sub s8).put (j+7) ew<|tE t.aI<|y.to cs (seg A b e)<|EI z y;have hP8:((S7.set p'<|.lst<|(seg A b e).map aj).set y.w<|tE t.aI<|y.to cs (seg A b e)<|EI z y) p=some (.lst<|(seg A b e).map aj):=(ag λn=>by rw[n,hw7]at hP;cases hP).trans<|s8 _ _ hP;have hP9:((S7.set p'<|.lst<|(seg A b e).map aj).set y.w<|tE t.aI<|y.to cs (seg A b e)<|EI z y) p'=some (.lst<|(seg A b e).map aj):=(ag λn=>by rw[n,hw7]at Ob;cases Ob).trans aa;generalize (S7.set p'<|.lst<|(seg A b e).map aj).set y.w (tE t.aI<|y.to cs (seg A b e)<|EI z y)=S8 at M3 hP8 hP9⊢;have lay:=RF hA.an.rg.1 hA.an.ky (b:=b) (e:=e);refine{_,rfl,rJ (Oy hA.an.rg.1 hP9) (Oy hA.an.rg.1 hP8) lay.1 (by have:=lay.2;lia) !⟨bh ?_⟩};have M9:=M3.put 6 rfl<|.lst<|(qs.map Bk).set j<|Bk<|y.to cs (seg A b e)<|EI z y;refine !!!{ld,_,_,j,rfl,rfl,M3.at 6 rfl,RP<|by rw[zb];lia,?_};have sg:=Wl hg wo.pin (rows:=seg A b e) (λr hr=>hA.an.rg.1 r<|gF hr) (λr hr=>hA.an.ky r<|gF hr)<|Wo wf wh z;refine fo {[g0,g1],qs.set j<|y.to cs (seg A b e)<|EI z y,_,_,_,_,rfl,has,λh hh=>by have:=p5 h hh;lia,by rw[List.length_set];exact RQ,hW.put {?_,wo,wd,wn,sg.1,sg.2},?_};rw[<-has,zf,eg];exact congrArg some ega;rw[<-MY (y':=y.to cs (seg A b e)<|EI z y) ey rfl];exact M9;rintro aG S7 ⟨hs,qs,o4,M8,M_,Na,rfl,has,p5,RQ,hW,M⟩;obtain⟨g0,g1,rfl⟩:=two_of<|(zb _).symm.trans<|congrArg List.length has;have XN:=M.at 5 rfl;refine !{_,XN,?_};refine kF (λi out Ki=>Ki=S7/\out=(qs.take i).map Bk) ⟨rfl,rfl⟩ (λi out Ki h=>by rw[h.1];exact XN) ?_ ?_;rintro k d out Ki hd ⟨rfl,rfl⟩;have hd:(qs.map λq=>D.ref q.w)[k]?=some d:=hd;rw[zf]at hd;obtain⟨y,ey,rfl⟩:=Option.map_eq_some_iff.mp hd;have hw:Ki y.w=some (tE t.aI y):=M.at (k+7) (by show(qs.map<|wkF t)[k]?=_;rw[zf,ey];rfl);refine{bg<|by rw[zb];have:=List.length_take_le' k qs;lia,_,rfl,y.w,_,rfl,hw,rfl,y,rfl,hw,rfl,?_};rw[List.take_add_one,ey,zy];rfl;rintro out Ki ⟨rfl,rfl⟩ pl dO;rw[show({qs.map λq=>D.ref q.w,λS=>uF S (.ref lw)<|qs.map λq=>D.ref q.w}:s_).xs.length=qs.length from zb _,yr];obtain⟨ps,k1,k2,k3⟩:=Da.all (n:=16) (ds:=qs.map Bk) λd hd=>by obtain⟨y,hy,rfl⟩:=zj.mp hd;obtain⟨j,ej⟩:=zZ hy;obtain⟨_,wo,wd,_,wf,wh⟩:=hW.of j y ej;exact Wm hN wo wd wf wh
 refine{_,rfl,rJ (.ref aa<|k1 _) (.ref ((Sub.new dO) _ _<|M.at 6 rfl)<|k1 _) (by simp only[PyData.canLay0];exact k2) (by simp only[PyData.depth];lia) !⟨bh ?_⟩};exact{[g0,g1],qs,_,_,_,_,_,_,_,_,_,_,_,_,rfl,has,p5,RQ,hW,M.sub<|.new dO};rintro aG S' ⟨hs,qs,o4,o5,o6,o7,EL,EM,EN,SH,SI,M8,M_,Na,rfl,has,p5,RQ,hW,M⟩;refine fo {hs,_,_,_,_,_,_,_,_,_,_,_,_,rfl,by have:=congrArg List.length has;rwa [zb]at this,{λx hx=>M.fa x ?_,M.nd.sublist ?_,M.fr,M.sh,λg hg=>{λx hx=>(M.ou g hg).1 x ?_,(M.ou g hg).2},M.ap}};exact zh _<|ye _ hx;exact(List.Sublist.map _<|(List.sublist_append_left _ _).cons _);exact zh _<|ye _ hx;rintro aG S5 ⟨hs,o4,o5,o6,o7,EL,EM,EN,SH,SI,M8,M_,Na,rfl,h2,M⟩;have XM:=M.at 0 rfl;have eC:=M.at 1 rfl;have XO:∀g∈hs,KI cs g.kn:=λg hg=>(M.sh g hg).2.1;have h60:∀g∈hs,g.rs.length<64:=λg hg=>by have:=(M.sh g hg).2.2.len (M.sh g hg).1;lia
 refine !{_,XM,?_};refine kF (λi out S'=>Sub S5 S'/\GV S' out (hs.take i)) {.refl _,.nil} (λi out S' h=>h.1 _ _ XM) ?_ ?_;rintro k d out S' hd ⟨sb,J3⟩;have hd:(hs.map λh=>D.ref h.a)[k]?=some d:=hd;rw[zf]at hd;obtain⟨g,eg,rfl⟩:=Option.map_eq_some_iff.mp hd;have hm:=zo eg;have og:=M.sh g hm;have oS:=og.1.sub sb;have hlen:out.length<=k:=by have:=yG J3;rw[this];exact List.length_take_le _ _
 obtain⟨l1,lr,ra,hh,_⟩:=id oS;refine{bg<|by have:=(ze.mp eg).1;lia,_,rfl,g.a,_,rfl,hh.ins,rfl,g.a,g.F,cs,g.dl,g.rs,.av,rfl,oS,h60 g hm,sA,λi ss hi hp R6 p kD=>?_,λz=>by cases z};cases hi;rw[u7 (A4 og.2.1 og.2.2) oS hp R6];exact{sb.trans<|.new kD,J3.snoc (.new kD) eg aa};rintro out S6 ⟨sb,J3⟩ p1 AI;rw[show({hs.map λh=>D.ref h.a,λS=>uF S (.ref ls)<|hs.map λh=>D.ref h.a}:s_).xs.length=hs.length from zb _,yr]at J3;have s6:=sb.trans<|Sub.new (c:=.lst out) AI;have J3:=J3.sub<|Sub.new (c:=.lst out) AI;have h1:(S6.set p1<|.lst out) p1=some (.lst out):=aa;generalize S6.set p1 (.lst out)=S7 at s6 J3 h1⊢;refine !{_,s6 _ _ eC,?_};refine kF (λi out S'=>Sub S7 S'/\GV S' out (hs.take i)) {.refl _,.nil} (λi out S' h=>h.1 _ _<|s6 _ _ eC) ?_ ?_;rintro k d Nb S' hd ⟨sb,JS⟩;have hd:(hs.map λh=>D.ref h.lk)[k]?=some d:=hd;rw[zf]at hd;obtain⟨g,eg,rfl⟩:=Option.map_eq_some_iff.mp hd;have hm:=zo eg;have hlen:Nb.length<=k:=by have:=yG JS;rw[this];exact List.length_take_le _ _
 have Qy:S5 g.lk=some (.cB<|g8 g.kn):=M.at (k+2) (by show(hs.map Ww)[k]?=_;rw[zf,eg];rfl);refine{bg<|by have:=(ze.mp eg).1;lia,_,rfl,cs,g.lk,g.kn,rfl,sb _ _<|s6 _ _ Qy,XO g hm,λss p hp ho kD=>?_};have e:=JN (XO g hm) hp ho;subst e;exact{sb.trans<|.new kD,JS.snoc (.new kD) eg aa};rintro Nb S8 ⟨sb,JS⟩ p2 jf;rw[show({hs.map λh=>D.ref h.lk,λS=>uF S (.ref lt)<|hs.map λh=>D.ref h.lk}:s_).xs.length=hs.length from zb _,yr]at JS;have d1:=(J3.sub<|sb.trans<|Sub.new (c:=.lst Nb) jf).dr XO;have d2:=(JS.sub<|Sub.new (c:=.lst Nb) jf).dr XO;exact rJ (.ref ((Sub.new jf) _ _<|sb _ _ h1) d1.1) (.ref aa d2.1) (by simp only[PyData.canLay0];exact d1.2.1) (by simp only[PyData.depth];have:=d1.2.2;lia) {S,((M.fr.trans s6).trans sb).trans<|.new jf,q}
def JT(t:eQ)(K:Frag):Sp:=λvs H Q _=>qv K (JR t) vs H Q E0
theorem RS(T:Txt w K mg t)(B:Bm mg base):bK P w K mg base WZ 20 t.N8 t.IH ["_law_script"] (JT t K):=bK.calm<|MZ T B
theorem JU{w:World}{K:Frag}{mg:Str->Option Value}{t:eQ}(T:Txt w K mg t){H:Hp}{a:Addr}{ns:List Int}(hl:ns.length<=63)(hO:Ad t.ts H)(hS:kh K H a<|ns.map V.int):JT t K [.ref a] H (λv _=>v=.bl true) λ_ _ _=>False:=by
 have hR:NH K H a (ns.map V.int):=by rcases hS with (h|h)|h;rcases hO.all a with q|⟨o,xs,q⟩|⟨_,q⟩;rw[q]at h;cases h;rw[q]at h;cases h;rw[q]at h;cases h;exact .inl h;exact .inr h
 have Ml:t.aL≠t.aR:=λe=>by have:=T.np;rw[e]at this;simp at this
 have tok:∀q,DM H q #[]:=λq=>{trivial,λ_ _ e=>by cases e};refine{[.jn<|ns.map D.int],λb=>if b=t.aR then some (.tab qK) else if b=t.aL then some (.tab qV) else none,λd _=>d=.bl true,λ_ _=>False,aQ (HN hR<|DL ns) bC,λb c e=>?_,{ns,rfl,hl,{if_pos rfl,(if_neg Ml).trans<|if_pos rfl},rfl},λd S v H' e r _ _=>by subst e;exact r.bl,λ_ _ _ z=>z.elim};by_cases h1:b=t.aR;have e:=(if_pos h1).symm.trans e;cases e;rw[h1];exact{#[],hO.tab _ T.mR,tok _};by_cases h2:b=t.aL;have e:=(if_neg h1).symm.trans e;have e:=(if_pos h2).symm.trans e;cases e;rw[h2];exact{#[],hO.tab _ T.kL,tok _};have e:=(if_neg h1).symm.trans e;have e:=(if_neg h2).symm.trans e;cases e
theorem RT{P:Program}{w:World}{K:Frag}{mg:Str->Option Value}{fa:Addr}{ts:List Addr}(PN:mg "law"= some (.ref fa))(T:∃t:eQ,t.ts=ts/\Txt w K mg t):∃(fd:FuncData) (sp:Sp),(∀b∈ts,∃c,codeHdIn K c b=true)/\(∀(s:Shared) (u:Value),BindsTo s fd {[u],[]} [("_law_script",u)])/\(∀base:Heap,Bm mg base->K.In base->base.Ns mainGlobals mg->bK P w K mg base WZ 20 fa fd ["_law_script"] sp)/\∀(H:Hp) (a:Addr) (ns:List Int),ns.length<=63->Ad ts H->kh K H a (ns.map V.int)->sp [.ref a] H (λv _=>v=.bl true) λ_ _ _=>False:=by obtain⟨t,et,T⟩:=T;have e0:=PN.symm.trans T.law.m;cases e0;subst et;exact{_,_,λb hb=>(T.ta b<|hb).elim (λe=>{_,e ▸ T.dU}) λe=>{_,e ▸ T.dk},T.bl,λbase B kb nb=>RS T B,λH a ns hl hO hS=>JU T hl hO hS}
end My
end Tactic
open Tactic
local macro_rules|`(command|universe $xs*)=>do return Lean.mkNullNode (← (xs[0]!.getId.toString.foldl (fun (h,n,k,l) c=>let n:=n*62+(if c.isDigit then c.toNat-48 else if c.isUpper then c.toNat-55 else c.toNat-61);if k=9 then (h+n-10*62^9,0,0,l.push (h+n-10*62^9)) else (h,n,k+1,l)) (0,0,0,(#[]:Array Nat))).2.2.2.mapM fun v=>`(command|theorem $(Lean.mkIdent (.mkSimple s!"tw{v}")):ident : True:=trivial))
namespace PySem.W.Fast
universe GJzbjY7V7tAZYddacE4PAHzsE7eW1TAdmiXtlFyeBDQA7b4FePB8uNNnfbTFArPBAyuBWcBahwa73im9A8ICKp3zA2A6gqjQWMpQBPScEi3haFC0bLzK7U7lDTD3f0n2d1Abd0eLROzrA83xoTzPCvARKrWodzMhBPd81aH3HKAogKJwCotbC3f09cpSKyABFeyL0WejAYvPalk0DqAZQq4h18C5As1uIR1jkWBEg4HD4mLjAWwbcgeDeiAYYIEFzY8sBXweluK58jDeU7tNIFOhAugirzqU4ADZTl3oArukCxMqUvazgDDxOetNgmPuDyRYnO3ElQAGAeIHaUo6BWZnx3ZLCkAIdoC6IzhvEbhMD4XIYJBuCuisDsRGAe0mgrPQ8WASumB0oNEZADoexa0J1OAFpreIRASoCh4eA0yxsnB6aiTMbqBNGA5mepGRN7BbHk962sL6BMra0uAWkBAEd1KcLfGsA15VWe8pKQEkFdKJf0rhCHBLhYl1HHAGhjGHPyChFd61ipQY29DnQz0IRH4RADGpIRQexyA18x4s649QD6fY2gtPD7DHrukzAJjYANyQzGPYLtAudr0F7k1hBn4A6cSUHiAK4m6VOXRtBpGpjtMFz8ADz1N1oyBQAZL4HMrF31BZdoZyAmnvDC62cfkfJnBq2d10b1EDBxRQsXuZDXBSjKhXGkBXBoogLfSCuSBOx8SsGLANBZeUlBBQMOAQTySOnQ3UAYzofO2kVvAFjxIBbtzXA9A9FYUXalJLivBqNEObBRvsjRYHjAAsjpzyASx6AZQ5IJB41LCDt8f0hZ4zASFUFEKbWNCAjvQt6lSgA7odVvUi2JA90DEZqdWeC3pUVFAucPBEnJwcCifsBzrLIIEUkZAV4zjkdlJJAA0pLuuApgAoK0AtNYi0Cja1Z7aM1vAZqj77T40eA288sfNv6MAOaoL5dn63BQ84LXTo0RA1xDIrHPbqAkLZKHY8b3A191E0N6h0AnIFyTQAA8AOd3wdE20xDF1jSuV9O0A6mDakmS0TAF5t5uCAa8A6qOPf9ZKwBjsrQiBBDsDmQbO35MNEAJZwCEBrHQA1JB2jcgzhAOZeq012kvDWffoTAzjZDdjEMRulPKAGhp70Ja90DbAO6SFUtuAPJieJrQsdAOatLXrZXUATgVjvi8zjAfzKiT4lIqBHmeOG6M6gAr5cIetCY5A4tp9tHDROAN6qe2bLhrD2T5BblxjyAGBfMoxHWmA7C0yTYFhaAN3Zd606UjAD60PgLumFAFxgk2mmTCB1AAVRcVuHAn4Gc9YB46BKkH6hIntGC9kRVnycDVAXyZAUiZagBJuaCSVGz8ATuQYqMPSQBI26nlNNzOBharaErIKgBIMyGawRU9BOrj3kjSwKALsySz7t7uCXqRHzqO5uAD89WVNKeSBtlrOm7WTQC8FXmywSzcKqQVWTlJcNCPmtjjSKGFBjidd2fxGcBFDLFYN5grDAQ9bhZ6ifAWTU90bdZBAjUAh96cdQEHaaE26N3wAVG5U6IccfBMsweBAtB0AG1QBR5KVHBvPZSVDpzpB9sd5M8UnKBnMeJtY6enADM5C7zyXHA6QsQVeB6HAFwCClU1FyBueAUddoDlAuLm0RJ2jhDKzjwan9UuALcH32yixSAP3gsYBN9LB7Qw2afbVQBaWUKvQBEJBSHlzje8YQCxTyGWASAtB4iezM7AblAhjQ1Ru0NOAtvRVDx8Z8A7alVivYDcAVK9V6nzolAiLIiM0L64APvjJrq2ICAyFvHVdwIoABDP6ED3qYAfmicInVR5A7qut39IwIE9mrKkwxdtA2M3pUCxCPDWzZrBhjjBBQHu5GV3JAACWrwUBHyqAl3qJKspAeAAqdaUZhkpAbs8klga3LArkPRSQTMCAcEo8ILa3LBs3VjkHLkSBbfWcwlMiiBPmIlF3KAhBjNMQlugn1BvRf5yGBQXAKljrUagkZB6e7hde1wdCN9nAhN5NwCdgWvAeiCSAsgaUOZyddArLvswMygKApSdvFBtTQB5wR3gGIQNAKv5QUy6rNA0JoTpMwq5CL1mXd8Ld9CLl8LDxS0mBrsOnGePyzAQEbYonBl0Cwj2evgupvAun6s8LlrSAIptCi6mn4AR1CrqoMoeBD4eVGuPunAZy0pPlea1D9mrqg2zSzAfjbuyGDONG3cCu0mU87Ar7SKUFcisALW98ilUVKAEEXCtC0N5B4b1HoWOMWBQDRXdb6tKAGAJ23FOXYCEwxi83iR1An1uPENtNwBXDzgEEEsxAcKCpJ41sRAJ71BFujzQAzKYU46YI8A3bMiuSJWmAXmRgnjxhsB1NqJiagQnB0eF5ml6VUCTl2g8Q5qlAHGnwNVnPZDi7q3Md8pLC6KrVm0sp4B1uTRecd6vANovNuyzWrC9yzgb9sHfAPty3fiAYWA3Gyr7EiH3AGBype3xYoI9RIZnOE7AAR9FeWUK0rAvEDHiHrxaBndR1eRgtpAThxutzmlnBpNYaUSk9jAW3OotAv1bAAdcxZ6TQEDOHAVS1kZFBkFqspBlK3AJ71TkUpKyBqkPPKOv4mA0YkzMVsxdAKCNNr43vxAk9M2ig7fgAR329qEsjZCBjCrzFy68APx6SEfK5BAvI0VimA9lDQShEDw5P4AOiEGcmUsrB5xBnojImvB0AzZzNURKA71t2Kns64AYl6xufRUUCpq8Cmb3J5AE9nRG8NQ9AbCtrRu14nAAu4Nv8DA4AC2UxF94D6AYHlnZn8Y5BR6NCZ3ItUA7TZ4tMHjNBXmqmnFfIOASuituEcWbCKFxSJbJ87A60xnVl0zoBTutLeVO4DBadRC9gkRiAyGxKv8kbDC3wcpMQD0DAtRKwFdCxWBoyvkg79nyA1cmZI1fjeAiOJm2O6LJBcWaUyX0x2B8o4qhhmUhCEB0rljaq8DcCEYGn0zDC2g9Zib2nOCFjaFuZJDJCybbijFsrPAELpruUXF5AcNHp4AizRAFrjqjNAfIALzhDDXvVIAgPsdr5F3GCc5ibK7l7FE5T2wdzEpEACMQcpRpV5AQmmrIfsuyA7n7GwEmurBcjVvTyG8RC9Hd2pW8WvAQOQN83BOFD0Z2bO4fiaAbwyA9CF9zA63apovGesAegSiI7PdgAHEIIl9DBhA6thqxgzFpA5esaZxqQBB0BLgNhTL9AI18lqQjHWA2DfVBC86BB24gng14qDCffJJLnRaJAX26v4PhvFCDYgCNHsO1BUaWObeBuDBtQmansInvA1JU3ZQWxqA64Fu6okYPAhT2ffhxoxDHRYJMu08tAeUpX5vUaDAsXQFoRSrTCEJuSksIwVArSqKsitIHA2ljBDx0dXC8UZ8UW2GDAdBXyS8vasA4EjjkP4vrAR0nkcPUYLACDzE5MVIsAE1iYqwHp5At3bH8a2jGAvHljIjIFoAorSB8zHUgFe9s2u1wRXEKe18sguh7IhnGHx7Ir8CG4kOniyTJAkbywGEIoYCFCRipPpwDBPoeRZ26SjAdOT3OWr6aArpDByYJekBv6Q0s5Ax1AtGk6UxHaaBwN1Xt3mJSB4shoSyW8fDASioKrBZ4AeaXtThXMbAkEQ051y9BBQHBjrhHD2AzABebwgU3ASmzwufkaCDKhf63U0KfAuOLQhI2GaA0Oo8GpfrRAGOWvlbpnFA8KzYcQzTjDFlbHt3oXEABVmWEjRCnAP0F8HmgYrBh8W0zJII7B7tWK5mo5WAcJIylRhNUA11jeXjp8eB6ZW9xW3UYAFc8lD6OetA9H1t303k5BenrDdROhBAjtZ6w5EvmBmgayBxJHiA9WlDHcSfQAa135Ff1qVBSyewV5cSTAmTDOQSnISBvpCipR0vjAXodh7cF6EDw6MRS3HRZDDR82wrZzfGZ95Ke394GCaSY78v2zyBFrRjwcfGHBp4R4s0A4wB8CzAISNpkC4ULMBFKHtB0I4ERJRjHAifDpna8zdDOEL21BJaNC3X8otQoXJC3FJUoFi12CNVh8thY0eDlnFZyZ3EFB5lKVXYyc1AcQ2po00sZCbNPotQ15NALzzLYMhbiEc31sQpbbJDI3jV3uHOkA3lmVtWMyjADpl0cDJoyAfgRp92DBqArAiytlCVJAUjif7Q0kMB12XqWLjUXGld7PdGWPhASD6sckjO4AAOYP4Mj0iC0UIBA8T01D1GzQM7SFnC80jnqaACbADeTsGSCtkANN7Lo8gZqCcRMC2yETIA5KcctZ0L1CeiQtHAjEbASDY9W6Nx1B3T7I7tBsiA9ED8pXtFPAEpbvfdxIaAitCvnmZj9B4S7J5iKcADF2yfdEcnjBusrookNfyBJVY1n1PooA5Dj7JdbyHA9TCfWAIu0A1cwxMUeU8A0N8tUNYL6AeD7Nxij39AEGN9WvdeHApbW35lqHeE1RZhDEeF9B7caN65TJvDRkmGqQuSBCGp1rEQ3zsAJoMJb3l85CXkKLVRzPgEgzkHrUBwJDlPFHIBcYpBp8OPyXwI0C5X5dFnzzgAxLw4UYRDVAM4VCSFcESBMkC4vYnP0AkbR5JgiOLAbHrFe3EXMAEIAWXxXkeBAEqN9xRluBn9AL8s07vBchgmPFZXlCLcmyNvPpoCRgihe5AP6BdB0FCo2kMASqBHsHoBXA6Vb0GSgxNAALIjQSVJwB3odqpAGx6A8I4unjVgYD6xJkdUqaECUko4eBdBdAOgP4CGAQXA14oas1KjPBhwTl1SG0rC8DHpHG06MAzLvKNLu8zBUV6y0eFczApFXmoxUFpA5PTcpym9MEkdGM0t9jbCt5wKCUdpMC3KjahxZeDAPBEiZYq6dBDQwpslOlqB5inGLDqqyBKtyjczIbaBG8RMSJgDrCVnGtNvuCLBV3l2vUe5XAQUNrKuIwXBRu4xc3hTYBqD0VNCr98B8biTcEZa4BtP32htmUkAa8XfxOGstA3jOhsiOUbBn4vH3xy5RB9iQpbMFq1Bxo5uF7FclBGLbAzN0ULA4FaKiouWvCl50a2vxDNAfCu9KZpKUBFv0e9Cu5WBX59zOdXkRA1xI1sAxw1DW8UmNd9lmBcARCMOFsUAtBNvmRDA6Fte9RvEso9D8jrr7NhtOCYhodDVbbrBhHAxQJ27nAG39B1tPIiAJpqMAzV2jATyBvSqFSzCgv8FO5n0bA8QbDKIkvTB6AJdVWqLeBMnbhqnwfuANn6SGEZ8ABWM0aVQo77DeacwUhPllBayAw07RZDDuj7Eknl9gAHP9wdNdRlCC2argzIgeAIMDXrctskAprsfO36XfBUtWqOqEmxAHCe3UuwNxEv5Un0poDuBTXEJEYecJAIdro1Gc2dAHwVQe9KjoBbQMIQpUMZAE62a5mHiIB6ycfgPqPFB6oQSNRf3qCqmgsLdQ0GARyhHKnNhIAyD4wEkIE9BAeF1PCfQCBUVsYmrEbGAnh6xhJSFUBVLuCfwI5cAqFfUS5uY4CmHki9Z2OgAQmGzQZyGwAnBV2awe8MB9FAyDeY68B8jHhmJQrwBOxtdciv3xBxt7kqMFlkBbpFKbaeNKCN76DKkjtRAx1A8raVs9A3PZqs1hyIDl0nYbtyBPCeTG4leGaPFR5AbxBbt0B2ZG6trheBBP8ozSUfkRAH8KJnmO8UBL2HARnE6PCrJlHuutdrAVSHtlPyGvDozFci0WuoAhriZ8RFIcALZuaXolLOBsA7OAo9xpFQxmLk2e71C91Kjo9xmTB4MMYrIfYcBAUn70JTelB0NvfNY57HBvuIfCXYjqAMOwqjCDbiAJoMsnQT83AJRB311au3Al2wojuvGmBi0AWvZyprAz14i2oPfjA1x2OANL1DBALBb55OwnAvgFufVwjeAMwFWXpN09B0bjNbA0AvANvTIOE9PyAqjkkeS2ZdEhZoIyTrWRCDe7qypbUJAJoB8mS3yHCQff3CvwIcD1JtqtiStxDlijBbmDaDAcaEW65B45CMRM1gepshAN9ULyG14IAHINH6c7F0BJ0Ip0iTZLACj2hHOGh6B8lvogkEKCA99mzDOzSHCxzhsOcw3JBfL4mq6FiAArRy2XugjqAJUtRZbJ3HCRZozrmmRfAPAloMXxSOCgb1sbpuxiAqZ1SE0jUMDp0NLK3Y4fAqMyaOB2kKApoAFulyjOBCBlqbHmy7CECXNIzYaKE1iJCKH5gjBiLqX5i2sOAjPHbUpRd8AgP8kq2WtoBQn3tuJToWA7Puuz1AVFAWkgkzejctADUHfAn5HtAriQb2cnL7BZwRvPROPPB4ix28F6FAAsK4vYvw0iASPgegkN39Dpmo7FtIllB4VJlE7Jc3AIgmPM2of4BJ0xGYg1VkA4RZWsW9irBB3MftDO1qBVTgiwztTdClri6ckihgAkbPaQatotApiyyMcvilGLzIr8r87TAHygpG8ZvvCDRRf1cZNICS4DMyIlowA6BLI7pcWVABqO3KAuzWAPXtVNpIjdABFnxczGL1JibBxp3mQcA5QHyLoiKuAHSM93nl67CkTMf9KoZtAwEAOueY9aARu01GDLPJB62TUtEEjZAZnFjxahc0Acuubm3pvWBNIwAuPp2MBmq6lmPvMxCiizJAwvZVBovCsodyfxFSG9O9uUXHA45P6Xo0C1AUANlQW3R7A7kwooGpF1CwA3Wf7Ej0AmunC2fHVFAFd1n2XM7OAB5gXkEbivDmcVuIqJsuC02WecqLJ6BtogGFF90FBy4ktjgCVGAtKB2td2T2AKdpvZazkiAcgGM9oUX3A68XH0hpAbATTMdjSYRDCdJVrFUcoIA2KAyYKOSmAmJXJQJ0K2AguV1CPsdnB8bOv6HzdwBGcG138GGUBEjwSE0UfnC5xHdRoYZ7E59GjOxdyiA9eOK7bSNNBJWGDMxhZxC5YkbHjRCHEpzgnCa4OIBpIdlj0ueVARw7lXSNQFAGvJSIam8IDLX7VGzK5sBjBUxWyeUVD8Pia4nGJGAphlhhwKpIB8apSyKErHA232W5R7QPCVw3lT3MBICUNdFLyz7rAVIztdH0pAAA2wxbS9GnAoBmy6nl00BCZQbBaQKrAYYzcUihHMLtybWjwpqbAreMkkRTCxDWx8moqyw9AfDrtUS9lcA0CIo88TCoEpJxxkKydoEIiD9w3chDB8HwKBLA9BAyL3WHZvHxBMcTEMwPwhBve1NUJSLeCyEKonLtL7ArSylwvrK8BfJ9O7WQeMAunc9lPU2XBgq8PDHgbWALamMvxmgHAtcgC1A3ayBJFvKmQFL3BwnpkbQumYA5XgZwUTC9AkGQNpgOiyBDf935C4sQBVhWdbmlVvBXLgaQdn5VBsaREjpFnlCDvcLVWT2LC5sXRLMiftBmzNyVfsf1ArNmYH1p1XAaX2PrQx6FB2wmqp2599BQHfONLOcJAkQgmx9UMjCCocFDDo13B3cLbaTBauCZ1mbmGEGLCILMGutbVlB63z9BDJNNB4H84SwFKVHNl6nd7sKVBa5QRPf0VCEcOU7SfxuYE95h9AUlhVCMYVdBhebgBLUlmOXB1rFu16FpUuTTEq4PK7wANABFdLaUPnRuBhE7q0dv0gAi55ZqDnMvB9p8CqzGevAa2I24kUz8Ad65Awn5khJBTm60Z9QmAmcctEfQKGAoj5U0gBL4A3qmZvF66jArLsxGAHwqA6VX5yy8SkAdPMHqSRCBCBwN3rb5bHBHE4bBLzPeBosD0i4eH9BMTSiOXGRxA7lwwxABl5C3CbT1vO4XAIQMlO9pwkA6fXCOxAtCAtQjvmW0SjACbuANrimXA6wXsdOWAjArur8MgZdXAATxcGhnr5AN0qK6Dp2zA9HzgZYxgYAOOOsleBgcAxUvZXj2sVBzdPKfUmm6AWRKUNBwnnB0wzoKmc4uAq3t9q3YPyDb46CPLLPdDB4GxWhGWPATBEgvIxYaAIofLHbBqJBWH1y4vc6TAZ0Ce8r9rLAJiCcitlcCC6kFm6IuCdA1J8d80wtKAH0QlAc8TLBx7oDyZQBjDRelVWQvlRBEteDkrXHRApHnWFXgDiAlgTUKuWJuBOGeYrI0ttEDBpjcs9Y2Cwjo11cirpD6HFgFfaroANIp64lFqPAe9QnnpNDXAoZvcTtYtRJplplX0ez4B9XqRDHn4JBtDteEoH91Bb1lfscgWCAJCGOWS12QBZqEBFFt0iCvud6srx4oDQKkeHV11pAdtpkN7hD5Bq2YNJtiQLBFGijuurn4AO0zCDFBHWAihd8mTSOMAdyEhWa4h6AU4uzOoS5eBWTuYBtEhdA0vBbZIFMEBNLbulovb3AKMXXgxYXlAE5ldp4xcCD7PRwXZiLVB4cHGlqoQyBL0MuariwJDdWm4XwmwACWPCznRNpeAh2uWiUTe3AMHxxfKjs6AwPi6n1cLJC0UzM4VfxdCAINJOfTXXB0w28Zpfy1AXLrPuV4mHDjQkAm4UKkA3hJOMNVuCBcucpsox0GAXZKDRA08mBkU33qxUVHA40aMImBygAOoqZt3XD9DVbC7Xn1NtA1j1BARRsNCyMzTIjdIpDBbyTP0gWVEaD1ZyTbY7DXc1LqIsWABAwlSqzNUBCmywXDil0YBd4OoMG5HwAa8UVnVorRADrw9Q81yXAU8PlYg862AQmUROPlvzBPUv1GhsEEAO8DQZjr8aBlLbc5LdK7AnXltraywkBMNKmL0y2PAGOEcnzD2vASFiZBytbqA8ZYrTVz7JCsCZP1VaECB4sFtMigNQE9lwGRNeLwBIBDkDoZC5AA6kMcCpzeB0THYah7BKAnzR5GgYBxA5fTPCPO5TAov86einA5Ad3LEEnVpnAUvPQeqI9LAdkOsh93oCATsrwaQ7kxCi7EolhQicANOupigknbBWoZb3DXfWAQMVYGag73C4FdqE5pFmAALIBdswXAEuruzGFtwcAy81yJN4mqAj5c0PdJ6VB20gI6xU6iALVGqaYxfeA3XvdWJt4pAiXKfzdfGvClqgPkOeBKALpYK5zkubBCbH7CMzx2A11uDFoquYCSJx9khMbxAFlFJRman3BkEl4JLu8lARLsQqXACvCjLQ9uIUxIC75D4afjtvB8xB7kHqGlAxha3xh6g3B5LSwjBXzeBZLEr9WMVzAEKT1xZhpKBdGsV9FMcNArEi2pOWJgAtwuxDfiQYA8WEcDFB77D7jo4gFzYMAi58ioafjLAcJD3w6iq7ADPqLqRawwAuqaxPzPLdAHwXUJhnrRBF59ZGx8ipBetBwGEKXxC3FMtpVGGAALdxc4dOc2Af6JpsW5s3A9QVsdOqpGAiGVHJ7lcNAyLRRIRE0UBQfJdUuePSAbg49NMx86AubIeWMcbXAZB4Vfvl9UAkaNk2gGmeAEuD2lyu86DDis6ISgXJAAtf1GJrjFF3fWNoh6ALB7SX4fJdTiA3HonR7bkEBs3dhJJJkjAMQpTJK5F6BXORkmduFMAoNepOzkE3BhuEjEuxkmDVb6NCsSpeAcgWYe86vOAMjXU2vZHkHGeMESxTU1BS63C65grJ
end PySem.W.Fast
open PySem PySem.W PyProof.Rows
set_option maxRecDepth 100000 in
set_option maxHeartbeats 0 in
theorem PySem.Challenge.cw_pageturns_k43_several_walks_holds : PySem.Challenge.rw_pageturns_k43_several_walks.Holds := by
 w_on;o_law;k_head;(case hw=>w_witness2)
 k_fill
 refine L2.Iz (l:=PySem.Challenge.rw_pageturns_k43_several_walks) (n:=63) (k:=20) (x := "_law_script") (CX:=L2.WZ) rfl (by decide) rfl ⟨rfl,by decide,by decide⟩ (fun w h Y=>PySem.W.km_in_of Y) (fun w h Y=>PySem.W.km_tabs_of Y) (fun w h Y=>L2.LW Y (by trivial)) ?tF fun _ _ _ _ z=>z
 intro w mg fa h KX G PN
 refine My.RT PN ?_
 refine' L2.gvc KX G "Walk" ?a1 ?b1 ?c1 ?d1 ?e1 ?f1 ?g1 fun RU aI RV k_Walk=>?z1
 (case a1|b1|c1|d1|e1|f1|g1=>k_is)
 refine' L2.gvc KX G "Shelf" ?a2 ?b2 ?c2 ?d2 ?e2 ?f2 ?g2 fun Nc ak Nd k_Shelf=>?z2
 (case a2|b2|c2|d2|e2|f2|g2=>k_is)
 refine' L2.afx KX G (l:=[17,18,19,20,21,22,23,24,25,26,29,30,31,32,33,34,35,41,42,43,44,45,46,47,48,49,50,51,57,58,59,60,61,62,63,65,66,67,69,75,76,77,78,79,80,81,82,83,84,85,93,95,96,97,98,99,100,101,102,103,104,105,106,107,108,109,110]) (top:=My.top) ?xF fun f0 g0 A0=>?zF
 case xF =>
  repeat' (refine' L2.af KX G _ (by decide) ?a ?b ?c ?d ?e ?_;(case a|b|c|d=>k_is);(case e=>first|exact L2.So fun _=>rfl|exact L2.ln2 fun _ _=>rfl|exact L2.QL fun _ _ _=>rfl|exact L2.Vz fun _ _ _ _=>rfl|exact L2.VA fun _ _ _ _ _=>rfl|exact L2.Sr fun _ _ _ _ _ _=>rfl|exact L2.Xr rfl))
  exact L2.af0
 refine' L2.amx aI (l:=[0,1,2,3,4,9,10,11,12,13,14]) (q := "Walk.") (cl:=My.eG) ?xMWalk fun II ach JV=>?zMWalk
 case xMWalk =>
  repeat' (refine' L2.am aI _ (by decide) ?a ?b ?c ?d ?f ?e ?_;(case a|b|c|d|f=>k_is);(case e=>first|exact L2.So fun _=>rfl|exact L2.ln2 fun _ _=>rfl|exact L2.QL fun _ _ _=>rfl|exact L2.Vz fun _ _ _ _=>rfl|exact L2.VA fun _ _ _ _ _=>rfl|exact L2.Sr fun _ _ _ _ _ _=>rfl|exact L2.Xr rfl))
  exact L2.am0
 refine' L2.amx ak (l:=[0,1,2,3,4,5,6,7,8,13]) (q := "Shelf.") (cl:=My.bx) ?xMShelf fun Cq aaW Dh=>?zMShelf
 case xMShelf =>
  repeat' (refine' L2.am ak _ (by decide) ?a ?b ?c ?d ?f ?e ?_;(case a|b|c|d|f=>k_is);(case e=>first|exact L2.So fun _=>rfl|exact L2.ln2 fun _ _=>rfl|exact L2.QL fun _ _ _=>rfl|exact L2.Vz fun _ _ _ _=>rfl|exact L2.VA fun _ _ _ _ _=>rfl|exact L2.Sr fun _ _ _ _ _ _=>rfl|exact L2.Xr rfl))
  exact L2.am0
 refine' L2.Z9 KX G "sorted_by_keys" (My.top 68) ["rows","way"] ?a3 ?b3 ?c3 ?d3 ?e3 fun d0 e0 B0 F0=>?z3
 (case a3|b3|c3|d3=>k_is)
 (case e3=>exact L2.ln2 fun _ _=>rfl)
 refine' L2.Z9 KX G "sorted_by_values" (My.top 70) ["columns","part","rows"] ?a4 ?b4 ?c4 ?d4 ?e4 fun d1 e1 B1 F1=>?z4
 (case a4|b4|c4|d4=>k_is)
 (case e4=>exact L2.QL fun _ _ _=>rfl)
 refine' L2.VF KX G "page_on" (My.top 73) ["shelf","order","sieve","size","gap","moment"] #[.none,.none] ?a5 ?b5 ?c5 ?d5 ?e5 ?f5 ?g5 fun d2 F2 D2=>?z5
 (case a5|b5|c5|d5|e5=>k_is)
 (case f5=>intro s us t;revert us;exact L2.Sr fun _ _ _ _ _ _=>.of_defaults rfl t rfl rfl rfl)
 (case g5=>intro s us t;revert us;exact L2.VB fun _ _ _ _ _=>.of_defaults rfl t rfl rfl rfl)
 refine' L2.VF KX G "page_back" (My.top 74) ["shelf","order","sieve","size","gap","moment"] #[.none,.none] ?a6 ?b6 ?c6 ?d6 ?e6 ?f6 ?g6 fun d3 F3 D3=>?z6
 (case a6|b6|c6|d6|e6=>k_is)
 (case f6=>intro s us t;revert us;exact L2.Sr fun _ _ _ _ _ _=>.of_defaults rfl t rfl rfl rfl)
 (case g6=>intro s us t;revert us;exact L2.VB fun _ _ _ _ _=>.of_defaults rfl t rfl rfl rfl)
 refine' L2.aaf KX G "stretch" (My.top 86) ["shelf","order","sieve","fore","hinder","moment"] #[.none,.none,.none] ?a7 ?b7 ?c7 ?d7 ?e7 ?f7 ?g7 ?h7 fun d4 F4 C4 D4=>?z7
 (case a7|b7|c7|d7|e7=>k_is)
 (case f7=>intro s us t;revert us;exact L2.Sr fun _ _ _ _ _ _=>.of_defaults rfl t rfl rfl rfl)
 (case g7=>intro s us t;revert us;exact L2.aag fun _ _ _ _=>.of_defaults rfl t rfl rfl rfl)
 (case h7=>intro s us t;revert us;exact L2.aah fun _ _ _=>.of_defaults rfl t rfl rfl rfl)
 refine' L2.Z9 KX G "law" (My.top 111) ["_law_script"] ?a8 ?b8 ?c8 ?d8 ?e8 fun d5 e5 B5 F5=>?z8
 (case a8|b8|c8|d8=>k_is)
 (case e8=>exact L2.So fun _=>rfl)
 refine' L2.fmd ak "worths_at" "Shelf.worths_at" ((L2.inClass My.bx 9)) ["self","key","moment"] ?a9 ?b9 ?c9 ?d9 ?e9 ?f9 ?g9 ?h9 fun d6 F6 D6=>?z9
 (case a9|b9|c9|d9|e9|f9=>k_is)
 (case g9=>intro s us t;revert us;exact L2.QL fun _ _ _=>.of_defaults rfl t rfl rfl rfl)
 (case h9=>intro s us t;revert us;exact L2.aaa fun _ _=>.of_defaults rfl t rfl rfl rfl)
 refine' L2.fmd ak "all_at" "Shelf.all_at" ((L2.inClass My.bx 10)) ["self","moment"] ?a10 ?b10 ?c10 ?d10 ?e10 ?f10 ?g10 ?h10 fun d7 F7 D7=>?z10
 (case a10|b10|c10|d10|e10|f10=>k_is)
 (case g10=>intro s us t;revert us;exact L2.ln2 fun _ _=>.of_defaults rfl t rfl rfl rfl)
 (case h10=>intro s us t;revert us;exact L2.Z_ fun _=>.of_defaults rfl t rfl rfl rfl)
 refine' L2.L7 KX G "MOST_NAME_SIGNS" 8 ?a11 fun nE=>?z11
 (case a11=>k_is)
 refine' L2.L7 KX G "MOST_KEY_SIGNS" 12 ?a12 fun oN=>?z12
 (case a12=>k_is)
 refine' L2.L7 KX G "MOST_WORD_SIGNS" 40 ?a13 fun nF=>?z13
 (case a13=>k_is)
 refine' L2.L7 KX G "MOST_COLUMNS" 8 ?a14 fun sY=>?z14
 (case a14=>k_is)
 refine' L2.L7 KX G "MOST_PARTS_orders" 8 ?a15 fun kT=>?z15
 (case a15=>k_is)
 refine' L2.L7 KX G "MOST_DEEP" 8 ?a16 fun A5=>?z16
 (case a16=>k_is)
 refine' L2.L7 KX G "MOST_PARTS_sieves" 200 ?a17 fun kU=>?z17
 (case a17=>k_is)
 refine' L2.L7 KX G "MOST_IN_A_TUPLE" 8 ?a18 fun nG=>?z18
 (case a18=>k_is)
 refine' L2.L7 KX G "MOST_ROWS" 1000 ?a19 fun A6=>?z19
 (case a19=>k_is)
 refine' L2.gvs KX G "START" "start" ?a20 fun Nf=>?z20
 (case a20=>k_is)
 refine' L2.gvs KX G "END" "end" ?a21 fun Wy=>?z21
 (case a21=>k_is)
 refine' L2.Vy KX G "KINDS" ?a22 ?b22 fun Ng w_KINDS=>?z22
 (case a22|b22=>k_is)
 refine' L2.Vy KX G "OTHER_WAY" ?a23 ?b23 fun A7 w_OTHER_WAY=>?z23
 (case a23|b23=>k_is)
 refine' L2.Vy KX G "OTHER_END" ?a24 ?b24 fun A8 w_OTHER_END=>?z24
 (case a24|b24=>k_is)
 refine' L2.Vy KX G "OTHER_SIDE" ?a25 ?b25 fun xm w_OTHER_SIDE=>?z25
 (case a25|b25=>k_is)
 refine' L2.Vy KX G "LENGTHS" ?a26 ?b26 fun GF w_LENGTHS=>?z26
 (case a26|b26=>k_is)
 refine' L2.Bd KX G "len" ?a27 fun WA=>?z27
 (case a27=>k_is)
 refine' L2.Bd KX G "all" ?a28 fun WB=>?z28
 (case a28=>k_is)
 refine' L2.Bd KX G "any" ?a29 fun WC=>?z29
 (case a29=>k_is)
 refine' L2.Bd KX G "isinstance" ?a30 fun xn=>?z30
 (case a30=>k_is)
 refine' L2.Bd KX G "range" ?a31 fun Nh=>?z31
 (case a31=>k_is)
 refine' L2.Bd KX G "int" ?a32 fun WD=>?z32
 (case a32=>k_is)
 refine' L2.Bd KX G "str" ?a33 fun WE=>?z33
 (case a33=>k_is)
 refine' L2.Bd KX G "bool" ?a34 fun RW=>?z34
 (case a34=>k_is)
 refine' L2.Bd KX G "tuple" ?a35 fun Ni=>?z35
 (case a35=>k_is)
 refine' L2.Bd KX G "dict" ?a36 fun RX=>?z36
 (case a36=>k_is)
 refine' L2.Bd KX G "set" ?a37 fun WG=>?z37
 (case a37=>k_is)
 refine' L2.Bd KX G "zip" ?a38 fun WH=>?z38
 (case a38=>k_is)
 refine' L2.Bd KX G "sorted" ?a39 fun JW=>?z39
 (case a39=>k_is)
 refine' L2.Bd KX G "min" ?a40 fun WI=>?z40
 (case a40=>k_is)
 refine' L2.Bd KX G "max" ?a41 fun WJ=>?z41
 (case a41=>k_is)
 refine' L2.Bd KX G "reversed" ?a42 fun Di=>?z42
 (case a42=>k_is)
 refine' L2.L8 KX G "BadColumns" ?a43 ?b43 fun xo dR=>?z43
 (case a43=>k_is)
 (case b43=>k_exc)
 refine' L2.L8 KX G "BadRow" ?a44 ?b44 fun JX ig=>?z44
 (case a44=>k_is)
 (case b44=>k_exc)
 refine' L2.L8 KX G "BadOrder" ?a45 ?b45 fun Dj dH=>?z45
 (case a45=>k_is)
 (case b45=>k_exc)
 refine' L2.L8 KX G "BadSieve" ?a46 ?b46 fun Dk iH=>?z46
 (case a46=>k_is)
 (case b46=>k_exc)
 refine' L2.L8 KX G "BadPlace" ?a47 ?b47 fun Dm dI=>?z47
 (case a47=>k_is)
 (case b47=>k_exc)
 refine' L2.L8 KX G "BadSize" ?a48 ?b48 fun GG n_=>?z48
 (case a48=>k_is)
 (case b48=>k_exc)
 refine' L2.L8 KX G "HasKey" ?a49 ?b49 fun JY rR=>?z49
 (case a49=>k_is)
 (case b49=>k_exc)
 refine' L2.L8 KX G "NoKey" ?a50 ?b50 fun Nj v7=>?z50
 (case a50=>k_is)
 (case b50=>k_exc)
 refine' L2.L8 KX G "NoMoment" ?a51 ?b51 fun Dn lY=>?z51
 (case a51=>k_is)
 (case b51=>k_exc)
 refine' L2.L9 aI "shelf" ?a52 fun xp=>?z52
 (case a52=>k_is)
 refine' L2.L9 aI "order" ?a53 fun xq=>?z53
 (case a53=>k_is)
 refine' L2.L9 aI "sieve" ?a54 fun xr=>?z54
 (case a54=>k_is)
 refine' L2.L9 aI "size" ?a55 fun A9=>?z55
 (case a55=>k_is)
 refine' L2.L9 aI "fore" ?a56 fun A_=>?z56
 (case a56=>k_is)
 refine' L2.L9 aI "hinder" ?a57 fun ug=>?z57
 (case a57=>k_is)
 refine' L2.L9 ak "columns" ?a58 fun qj=>?z58
 (case a58=>k_is)
 refine' L2.L9 ak "deeds" ?a59 fun uh=>?z59
 (case a59=>k_is)
 refine' L2.L9 ak "runs" ?a60 fun xt=>?z60
 (case a60=>k_is)
 refine' L2.gvm KX e0 ?a61 ?b61 ?c61 fun oO=>?z61
 (case a61=>k_is)
 (case b61=>rfl)
 (case c61=>first|rfl|decide|simp [codeHdIn])
 refine' L2.gvm KX e1 ?a62 ?b62 ?c62 fun mf=>?z62
 (case a62=>k_is)
 (case b62=>rfl)
 (case c62=>first|rfl|decide|simp [codeHdIn])
 exact⟨⟨_,_,_,_,_,_,_,_,_,_,_,_,_,_,_,_,_,_,_,_,_,_,_,_,_,_,_,_,_,_,_,_,_,_,_,_,_,_,_,_,_,_,_,_,_,_,_,_,_,_,_,_,_,_⟩,rfl,⟨A0,JV,Dh,F0,F1,F2,D2,F3,D3,F4,C4,D4,F5,F6,D6,F7,D7,nE,oN,nF,sY,kT,A5,kU,nG,A6,Nf,Wy,Ng,fun H=>L2.NI (xs:=[.str "number",.str "word"]) ⟨_,_,_,w_KINDS,rfl,rfl,(by rw[yd];show 2≤16777216;decide),.cons ⟨_,rfl⟩ (.cons ⟨_,rfl⟩ (.nil))⟩ (L2.vI ["number","word"]),A7,⟨by first|rfl|decide,_,_,_,w_OTHER_WAY,⟨rfl,rfl,rfl⟩,rfl,.cons ⟨rfl,⟨_,rfl⟩,⟨_,rfl⟩⟩ (.cons ⟨rfl,⟨_,rfl⟩,⟨_,rfl⟩⟩ (.nil)),by trivial⟩,A8,⟨by first|rfl|decide,_,_,_,w_OTHER_END,⟨rfl,rfl,rfl⟩,rfl,.cons ⟨rfl,⟨_,rfl⟩,⟨_,rfl⟩⟩ (.cons ⟨rfl,⟨_,rfl⟩,⟨_,rfl⟩⟩ (.nil)),by trivial⟩,xm,⟨by first|rfl|decide,_,_,_,w_OTHER_SIDE,⟨rfl,rfl,rfl⟩,rfl,.cons ⟨rfl,⟨_,rfl⟩,⟨_,rfl⟩⟩ (.cons ⟨rfl,⟨_,rfl⟩,⟨_,rfl⟩⟩ (.nil)),by trivial⟩,GF,⟨by first|rfl|decide,_,_,_,w_LENGTHS,⟨rfl,rfl,rfl⟩,rfl,.cons ⟨rfl,⟨_,rfl⟩,⟨_,rfl⟩⟩ (.cons ⟨rfl,⟨_,rfl⟩,⟨_,rfl⟩⟩ (.cons ⟨rfl,⟨_,rfl⟩,⟨_,rfl⟩⟩ (.cons ⟨rfl,⟨_,rfl⟩,⟨_,rfl⟩⟩ (.cons ⟨rfl,⟨_,rfl⟩,⟨_,rfl⟩⟩ (.cons ⟨rfl,⟨_,rfl⟩,⟨_,rfl⟩⟩ (.cons ⟨rfl,⟨_,rfl⟩,⟨_,rfl⟩⟩ (.cons ⟨rfl,⟨_,rfl⟩,⟨_,rfl⟩⟩ (.cons ⟨rfl,⟨_,rfl⟩,⟨_,rfl⟩⟩ (.nil))))))))),by trivial⟩,WA,WB,WC,xn,Nh,WD,WE,RW,Ni,RX,WG,WH,JW,WI,WJ,Di,xo,dR,JX,ig,Dj,dH,Dk,iH,Dm,dI,GG,n_,JY,rR,Nj,v7,Dn,lY,RU,aI,⟨RV,(JV 0 (by decide)).e.at_,(JV 0 (by decide)).e.fn,k_Walk⟩,xp,xq,xr,A9,A_,ug,Nc,ak,⟨Nd,(Dh 0 (by decide)).e.at_,(Dh 0 (by decide)).e.fn,k_Shelf⟩,qj,uh,xt,e0,oO,by simp,e1,mf,by simp,by simp,by simp,fun s v=>B5 s [v] rfl⟩⟩
