import PyProof.Rows.All
import Wide.All
import OpenK.AllK
import Wide.FinOn
import Lean
import PyProof.EqAt
import PyProof.EqKinds
import PyProof.TupleCall
import PyProof.NsDelKeeps
import KE.KIsBytes
import PyProof.Rows.SetFrom
import KE.KDictOf
import PyProof.AttrMissSeq
import PyProof.WalksMore
import PyProof.ZipIter
import PyProof.StrBlock2
import PyProof.StrBlockI
import PyProof.Rows.StrJoin2
import PyProof.Rows.CountFlat
import PyProof.Rows.Range3
import PyProof.SumWalkG
import PyProof.Rows.ListMulArg
import PyProof.FactsAll.tuple
import PyProof.EnumFor
import PyProof.EnumMake
import KE.KDictLaws
import KE.KDictSum
import KE.KRevIter
import PyProof.Rows.SortStr
import PyProof.Rows.SortWalk
import PyProof.AutoListH
import PyProof.StrLawsReplace
import PyProof.Rows.SortShellK
import KE.KLam
import KE.KSortKey
import KE.KNestM
import PyProof.EnumStmt
import PyProof.ListMulRoad
import PySem.Challenge.RW_pageturns_k87_whole_sieves_put_together
set_option compiler.extract_closed false
local macro_rules|`(tactic| trivial)=>`(tactic| decide +kernel)
set_option Elab.async false
set_option linter.all false
set_option maxRecDepth 100000
set_option genInjectivity false
set_option genSizeOfSpec false
namespace Tactic
theorem qQQ(h:True:=by rfl):True:=h
def qQJ:Lean.Syntax:=qQQ._auto_1
theorem qQX(h:True:=by decide):True:=h
def qQZ:Lean.Syntax:=qQX._auto_1
theorem qQK(h:True:=by intro _;rfl):True:=h
def qQ0:Lean.Syntax:=qQK._auto_1
theorem qQ1(h:True:=by with_unfolding_all rfl):True:=h
def qQ2:Lean.Syntax:=qQ1._auto_1
theorem qQ3(h:True:=by exact⟨rfl,rfl,rfl,rfl⟩):True:=h
def qQ4:Lean.Syntax:=qQ3._auto_1
theorem qQ5(h:True:=by first|exact .inl rfl|exact .inr rfl|assumption):True:=h
def qQ6:Lean.Syntax:=qQ5._auto_1
theorem qQ7(h:True:=by first|exact .inl rfl|exact .inr rfl):True:=h
def qQ8:Lean.Syntax:=qQ7._auto_1
theorem qQ9(h:True:=by intro _ _ _ _ _;exact{Or.inl rfl,rfl}):True:=h
def qJQ:Lean.Syntax:=qQ9._auto_1
theorem qJJ(h:True:=by first|decide|omega):True:=h
def qJX:Lean.Syntax:=qJJ._auto_1
theorem qJZ(h:True:=by first|exact Or.inl rfl|exact Or.inr rfl):True:=h
def qJK:Lean.Syntax:=qJZ._auto_1
theorem qJ0(h:True:=by intro _ _ _ _ _;rfl):True:=h
def qJ1:Lean.Syntax:=qJ0._auto_1
theorem qJ2(h:True:=by trivial):True:=h
def qJ3:Lean.Syntax:=qJ2._auto_1
local macro_rules|`({$a:term})=>`(⟨$a⟩)|`({$a:term,$b:term,*})=>`(⟨$a,$b,*⟩)
local macro_rules|`(!$t)=>do{let mut t:=t;let mut n:=1;for _ in [0:20] do{if let `(!$u):=t then{t:=u;n:=n+1}};let xs←(match t with|`(⟨$x,*⟩)=>pure x.getElems|`({$x:term,$y:term,*})=>pure (#[x]++y.getElems)|_=>Lean.Macro.throwUnsupported);let mut a:=xs;for _ in [0:n] do{a:=#[←`(_),←`(rfl)]++a};`(⟨$a,*⟩)}
open PySem.W (instObj methodObj hideAll hideAll_get of_hideAll Frag lookIn plainGet hasDictIn findIn handedIn plainGet_of isFn plainOver takerIn makesIn emptyDict specialIn keepIn mroIn kitOne kia_one kitx_list fnOf codeIn excIn callWith_K methodCall_KW envX kla_fn codeHdIn tabObj codeHd_of_K nsIn mg_of)
theorem za:type_of%@PySem.Heap.get?_push_of_some:=@PySem.Heap.get?_push_of_some
theorem zb:type_of%@List.length_map:=@List.length_map
theorem zc:type_of%@PySem.wpAny_bind:=@PySem.wpAny_bind
theorem zd:type_of%@Bool.false_ne_true:=@Bool.false_ne_true
theorem ze:type_of%@List.mem_cons_of_mem:=@List.mem_cons_of_mem
theorem zf:type_of%@List.mem_map:=@List.mem_map
theorem zg:type_of%@Nat.lt_of_lt_of_le:=@Nat.lt_of_lt_of_le
theorem zh:type_of%@List.mem_cons:=@List.mem_cons
theorem zi:type_of%@List.mem_cons_self:=@List.mem_cons_self
theorem zj:type_of%@List.getElem?_eq_getElem:=@List.getElem?_eq_getElem
theorem zk:type_of%@List.getElem?_eq_some_iff:=@List.getElem?_eq_some_iff
theorem zm:type_of%@PySem.Heap.get?_push_size:=@PySem.Heap.get?_push_size
theorem zo:type_of%@List.size_toArray:=@List.size_toArray
theorem zp:type_of%@Nat.le_refl:=@Nat.le_refl
theorem zq:type_of%@List.map_cons:=@List.map_cons
theorem zr:type_of%@PySem.Heap.lt_size:=@PySem.Heap.lt_size
theorem zt:type_of%@List.mem_append_right:=@List.mem_append_right
theorem zu:type_of%@Nat.ne_of_lt:=@Nat.ne_of_lt
theorem zw:type_of%@List.getElem?_map:=@List.getElem?_map
theorem zx:type_of%@decide_eq_true:=@decide_eq_true
theorem zy:type_of%@decide_eq_false:=@decide_eq_false
theorem zA:type_of%@PySem.wpAny_pure:=@PySem.wpAny_pure
theorem zB:type_of%@of_decide_eq_true:=@of_decide_eq_true
theorem zC:type_of%@List.length_append:=@List.length_append
theorem zD:type_of%@List.map_map:=@List.map_map
theorem zE:type_of%@List.mem_singleton:=@List.mem_singleton
theorem zG:type_of%@List.mem_of_getElem?:=@List.mem_of_getElem?
theorem zH:type_of%@Nat.le_trans:=@Nat.le_trans
theorem zI:type_of%@List.not_mem_nil:=@List.not_mem_nil
theorem zJ:type_of%@List.length_cons:=@List.length_cons
theorem zK:type_of%@Bool.and_eq_true:=@Bool.and_eq_true
theorem zL:type_of%@List.map_append:=@List.map_append
theorem zM:type_of%@List.getD_eq_getElem?_getD:=@List.getD_eq_getElem?_getD
theorem zN:type_of%@List.mem_append:=@List.mem_append
theorem zO:type_of%@Option.some.inj:=@Option.some.inj
theorem zP:type_of%@of_decide_eq_false:=@of_decide_eq_false
theorem zQ:type_of%@PySem.F.plainAttrs_list:=@PySem.F.plainAttrs_list
theorem zR:type_of%@PySem.Heap.size_push:=@PySem.Heap.size_push
theorem zS:type_of%@List.mem_append_left:=@List.mem_append_left
theorem zT:type_of%@List.mem_range:=@List.mem_range
theorem zU:type_of%@Bool.false_and:=@Bool.false_and
theorem zV:type_of%@PySem.mem_of_lookup:=@PySem.mem_of_lookup
theorem zW:type_of%@List.map_congr_left:=@List.map_congr_left
theorem zX:type_of%@decide_eq_true_eq:=@decide_eq_true_eq
theorem zY:type_of%@List.mem_filter:=@List.mem_filter
theorem zZ:type_of%@Nat.zero_le:=@Nat.zero_le
theorem ya:type_of%@List.all_eq_true:=@List.all_eq_true
theorem yb:type_of%@List.find?_cons:=@List.find?_cons
theorem yc:type_of%@Bool.true_and:=@Bool.true_and
theorem yd:type_of%@List.lookup_cons:=@List.lookup_cons
theorem ye:type_of%@PySem.sizeLine_eq:=@PySem.sizeLine_eq
theorem yf:type_of%@PySem.wpAny_field:=@PySem.wpAny_field
theorem yg:type_of%@Nat.ne_of_gt:=@Nat.ne_of_gt
theorem yh:type_of%@PySem.F.slot_list_append:=@PySem.F.slot_list_append
theorem yi:type_of%@PySem.F.type_list_append:=@PySem.F.type_list_append
theorem yj:type_of%@Nat.lt_irrefl:=@Nat.lt_irrefl
theorem yk:type_of%@Bool.eq_iff_iff:=@Bool.eq_iff_iff
theorem ym:type_of%@List.any_eq_true:=@List.any_eq_true
theorem yn:type_of%@Array.length_toList:=@Array.length_toList
theorem yo:type_of%@List.nodup_cons:=@List.nodup_cons
theorem yp:type_of%@PySem.Heap.get?_update_other:=@PySem.Heap.get?_update_other
theorem yq:type_of%@List.filter_sublist:=@List.filter_sublist
theorem yr:type_of%@PySem.wpAny_truthy_bool:=@PySem.wpAny_truthy_bool
theorem yt:type_of%@List.any_cons:=@List.any_cons
theorem yu:type_of%@PySem.Heap.get?_update_self:=@PySem.Heap.get?_update_self
theorem yw:type_of%@PySem.F.slot_dict_get:=@PySem.F.slot_dict_get
theorem yx:type_of%@PySem.Obj.data_mapFields:=@PySem.Obj.data_mapFields
theorem yy:type_of%@List.length_take:=@List.length_take
theorem yz:type_of%@List.filter_cons:=@List.filter_cons
theorem yA:type_of%@PySem.wpAny_newObj_type:=@PySem.wpAny_newObj_type
theorem yB:type_of%@PySem.Heap.SameBut.update:=@PySem.Heap.SameBut.update
theorem yC:type_of%@List.length_reverse:=@List.length_reverse
theorem yD:type_of%@Nat.le_of_lt:=@Nat.le_of_lt
theorem yE:type_of%@PySem.Calls.spliced_cons:=@PySem.Calls.spliced_cons
theorem yF:type_of%@PySem.wpAny_mono:=@PySem.wpAny_mono
theorem yG:type_of%@PySem.wpAny_holding:=@PySem.wpAny_holding
theorem yH:type_of%@List.all_cons:=@List.all_cons
theorem yI:type_of%@Nat.lt_succ_self:=@Nat.lt_succ_self
theorem yJ:type_of%@List.take_length:=@List.take_length
theorem yK:type_of%@PySem.wpAny_call_entry:=@PySem.wpAny_call_entry
theorem yL:type_of%@decide_eq_decide:=@decide_eq_decide
theorem yM:type_of%@Sum.inr.inj:=@Sum.inr.inj
theorem yN:type_of%@Nat.le_succ:=@Nat.le_succ
theorem yO:type_of%@List.map_nil:=@List.map_nil
theorem yP:type_of%@List.foldl_cons:=@List.foldl_cons
theorem yQ:type_of%@PySem.codeAny_builtin:=@PySem.codeAny_builtin
theorem yR:type_of%@PySem.wpAny_setField:=@PySem.wpAny_setField
theorem yS:type_of%@PySem.codeAny_mono:=@PySem.codeAny_mono
theorem yT:type_of%@PySem.Paired.length:=@PySem.Paired.length
theorem yU:type_of%@Bool.false_or:=@Bool.false_or
theorem yV:type_of%@PySem.wpAny_of_eq:=@PySem.wpAny_of_eq
namespace L2
open PySem PySem.Spec PyProof.Rows
abbrev Key:=Sum Int Str
def keyIs:Key->Value->Bool|.inl k,v=>Value.isInt k v|.inr x,v=>Value.isStrOf x v
def WB(w:World):Key->Int|.inl k=>hashInt k|.inr x=>hashStr w x
theorem bA:∀{k:Key}{v:Value},keyIs k v=true->(∃i t,k=Sum.inl i/\v=Value.int i t)\/(∃x t,k=Sum.inr x/\v=Value.str x t)|.inl i,v,h=>(by obtain⟨t,e⟩:=Value.isInt_shape (k:=i) (v:=v) h;exact .inl ⟨i,t,rfl,e⟩)|.inr x,v,h=>by obtain⟨t,e⟩:=Value.isStrOf_shape (x:=x) (v:=v) h;exact .inr ⟨x,t,rfl,e⟩
theorem DV(i:Int)(t:Tok):keyIs (.inl i) (.int i t)=true:=by simp[keyIs,Value.isInt]
theorem DX(x:Str)(t:Tok):keyIs (.inr x) (.str x t)=true:=by simp[keyIs,Value.isStrOf]
theorem Nt(a b:Int):decide ((Sum.inl a:Key)=Sum.inl b)=(a==b):=by by_cases e:a=b;subst e;simp;have h:¬(Sum.inl a:Key)=Sum.inl b:=λq=>e<|Sum.inl.inj q;rw[zy h];exact(beq_eq_false_iff_ne.mpr e).symm
theorem Nu(a b:Str):decide ((Sum.inr a:Key)=Sum.inr b)=decide (a=b):=by by_cases e:a=b;subst e;simp;have h:¬(Sum.inr a:Key)=Sum.inr b:=λq=>e<|yM q;rw[zy h,zy e]
theorem Nv(a:Int)(b:Str):decide ((Sum.inl a:Key)=Sum.inr b)=false:=zy λq=>nomatch q
theorem Nw(a:Str)(b:Int):decide ((Sum.inr a:Key)=Sum.inl b)=false:=zy λq=>nomatch q
def aG(prog:Program)(w:World):PySem.KeyKind prog w Key where
 is:=keyIs
 hash:=WB w
 inj:=λv a b ha hb=>by
  rcases bA ha with⟨i,t,rfl,rfl⟩|⟨x,t,rfl,rfl⟩
  ·rcases bA hb with⟨j,u,rfl,e⟩|⟨y,u,rfl,e⟩
   ·injection e with e1 _;rw[e1]
   ·exact nomatch e
  ·rcases bA hb with⟨j,u,rfl,e⟩|⟨y,u,rfl,e⟩
   ·exact nomatch e
   ·injection e with e1 _;rw[e1]
 byValue:=λk v h=>by
  rcases bA h with⟨i,t,rfl,rfl⟩|⟨x,t,rfl,rfl⟩<;>rfl
 pyHash:=λhv h=>by
  rcases bA hv with⟨i,t,rfl,rfl⟩|⟨x,t,rfl,rfl⟩
  ·exact wpAny_pyHash_int h
  ·exact wpAny_pyHash_str h
 eqBool:=λhu hv h=>by
  rcases bA hu with⟨i,t,rfl,rfl⟩|⟨x,t,rfl,rfl⟩
  ·rcases bA hv with⟨j,u,rfl,rfl⟩|⟨y,u,rfl,rfl⟩
   ·rw[Nt]at h;exact wpAny_eqBool_int h
   ·rw[Nv]at h;exact SeqAt.EqAt.int_str i t y u _ _ _ _ h
  ·rcases bA hv with⟨j,u,rfl,rfl⟩|⟨y,u,rfl,rfl⟩
   ·rw[Nw]at h;exact SeqAt.EqAt.str_int x t j u _ _ _ _ h
   ·rw[Nu]at h;exact wpAny_eqBool_str h
 «strs»:=λk x t v h=>by
  rcases bA h with⟨i,u,rfl,e⟩|⟨y,u,rfl,e⟩
  ·exact nomatch e
  ·injection e with e1 _
   subst e1
   cases v<;>rfl
theorem wk(prog:Program)(w:World)(i:Int)(t:Tok):(aG prog w).is (.inl i) (.int i t)=true:=DV i t
theorem iR(prog:Program)(w:World)(x:Str)(t:Tok):(aG prog w).is (.inr x) (.str x t)=true:=DX x t
set_option genInjectivity true in
set_option genSizeOfSpec true in
inductive V where
 |ax|bl (b:Bool)|int (i:Int)|str (x:Str)|B8 (b:Array UInt8)|Nx (b:UInt64)|ref (a:Addr)|ty (n:String)
 deriving DecidableEq
def RelV:V->Value->Prop|.ax,u=>u=Value.none|.bl b,u=>u=Value.bool b|.int i,u=>∃t,u=Value.int i t|.str x,u=>∃t,u=Value.str x t|.B8 b,u=>∃t,u=Value.bytes b t|.Nx b,u=>∃t,u=Value.float b t|.ref a,u=>u=Value.ref a|.ty n,u=>u=Value.type n
abbrev Vals:List V->List Value->Prop:=Paired RelV
theorem Vals.length{xs:List V}{us:List Value}(r:Vals xs us):xs.length=us.length:=yT r
theorem Vals.get:∀{xs:List V}{us:List Value}{i:Nat}{x:V},Vals xs us->xs[i]?=some x->∃u,us[i]?=some u/\RelV x u|_,_,_,_,.nil,e=>by simp at e|_,_,0,_,.cons r _,e=>by simp at e;subst e;exact{_,rfl,r}|_,_,i+1,x,.cons _ t,e=>by obtain⟨u,h1,h2⟩:=Vals.get (i:=i) (x:=x) t (by simpa using e);exact{u,by simpa using h1,h2}
theorem Vals.set(r:RelV x u):∀{xs:List V}{us:List Value}(i:Nat),Vals xs us->Vals (xs.set i x) (us.set i u)|_,_,_,.nil=>.nil|_,_,0,.cons _ t=>.cons r t|_,_,i+1,.cons q t=>.cons q<|Vals.set r i t
theorem Vals.append:∀{xs ys:List V}{us ws:List Value},Vals xs us->Vals ys ws->Vals (xs++ys) (us++ws)|_,_,_,_,.nil,s=>s|_,_,_,_,.cons r t,s=>.cons r<|Vals.append t s
theorem Vals.take:∀{xs:List V}{us:List Value}(n:Nat),Vals xs us->Vals (xs.take n) (us.take n)|_,_,0,_=>.nil|_,_,_+1,.nil=>.nil|_,_,n+1,.cons r t=>.cons r<|Vals.take n t
theorem Vals.drop:∀{xs:List V}{us:List Value}(n:Nat),Vals xs us->Vals (xs.drop n) (us.drop n)|_,_,0,r=>r|_,_,_+1,.nil=>.nil|_,_,n+1,.cons _ t=>Vals.drop n t
def fA:Option V->Option Value->Prop|some v,some u=>RelV v u|none,none=>True|_,_=>False
def KV{κ:Type} : List (κ×V)->List (κ×Value)->Prop:=Paired λ(p:κ×V)(q:κ×Value)=>p.1=q.1/\RelV p.2 q.2
def kV:Key->V|.inl i=>.int i|.inr x=>.str x
set_option genInjectivity true in
set_option genSizeOfSpec true in
inductive HO where
  |lst (xs:List V)
  |tup (xs:List V)
  |dK (kvs:List<|Key×V)|dT (kvs:List<|List Key×V)
  |set (S:Int->Bool) (n:Nat)
  |ins (C dx:Addr) (fs:List<|Str×V)
  |own (x:Addr)
  |xd (fs:List<|Str×V)
  |met (f x:Addr)
  |Vy (lo hi:Int)
  |kB (o:Obj) (u:HO)
  |pJ (ps:Array Value)
  |ext (φ:Heap->Prop)
abbrev Hp:=Addr->Option HO
noncomputable def upd(H:Hp)(a:Addr)(o:HO):Hp:=λb=>if b=a then some o else H b
theorem aD{H:Hp}{a:Addr}{o:HO} : upd H a o a=some o:=by unfold upd;rw[if_pos rfl]
theorem aq{H:Hp}{a b:Addr}{o:HO}(h:b≠a):upd H a o b=H b:=by unfold upd;rw[if_neg h]
theorem ay{H:Hp}{a b:Addr}{o:HO}(h:H a=some o)(h':H b=none):a≠b:=by intro e;subst e;rw[h]at h';cases h'
def iS(h:Heap)(a:Addr)(items:Array Value):Prop:=∃o,h.get? a=some o/\o.cls=.type "tuple"/\o.dict=none/\∃n,o.data=.seq items n
theorem iS.tup(x:iS h a items):IsTup h a items:=by obtain⟨o,e,c,_,n,d⟩:=x;exact⟨o,e,c,n,d⟩
theorem iS.lt(x:iS h a items):a<h.objs.size:=x.tup.lt
theorem iS.new(h:Heap)(items:Array Value):iS (h.push {cls:=.type "tuple",data:=.seq items}) h.objs.size items:={_,zm _ rfl,rfl,rfl,_,rfl}
section
variable(P:Program)(w:World)
def bj(H:Hp)(h:Heap)(a:Addr):HO->Prop|.lst xs=>xs.length<=sizeLine/\∃(au:List Value) (n:Nat),Vals xs au/\h.get? a=some {cls:=.type "list",data:=.seq au.toArray n}|.tup xs=>xs.length<=sizeLine/\∃au:List Value,Vals xs au/\iS h a au.toArray|.dK kvs=>kvs.length<=sizeLine/\(a==sysModules)=false/\∃vs,KV kvs vs/\h.DictOf (aG P w) a vs|.dT _=>False|.set S n=>h.SetOf (intKind P w) a S n|.ins C dx fs=>H dx=some (.own a)/\fs.length<=1000/\dx≠a/\h.get? a=some (instObj C dx)/\∃mA,h.Ns1 dx mA/\(∀f,fA (fs.lookup f)<|mA f)/\PySem.Within mA (fs.map (·.1))|.own _=>∃o,h.get? a=some o|.xd fs=>∃mA,h.Ns1 a mA/\∀f,fA (fs.lookup f) (mA f)|.Vy lo hi=>∃t u v,h.get? a=some {cls:=.type "range",data:=.fields #[.int lo t,.int hi u,.int 1 v]}|.kB o u=>h.get? a=some o/\bj H h a u|.pJ ps=>h.get? a=some {cls:=.none,data:=.fields ps}|.met f x=>h.get? a=some (methodObj (.ref f)<|.ref x)|.ext φ=>φ h/\(∃o,h.get? a=some o)/\∀h1 h2:Heap,φ h1->(∀o,h1.get? a=some o->h2.get? a=some o)->φ h2
def kC(H:Hp)(h:Heap):Prop:=∀a o,H a=some o->bj P w H h a o
end
section
variable{P:Program}{w:World}{H H':Hp}{h h':Heap}{a:Addr}{o:HO}
theorem bj.lt(x:bj P w H h a o):a<h.objs.size:=by cases o with|lst xs=>(obtain⟨_,_,_,_,e⟩:=x;exact zr e)|tup xs=>(obtain⟨_,_,_,p⟩:=x;exact p.lt)|dK kvs=>(obtain⟨_,_,_,_,o,_,_,e,_⟩:=x;exact zr e)|dT kvs=>exact False.elim x|set S n=>(obtain⟨o,_,_,_,e,_⟩:=x;exact zr e)|ins C dx fs=>(obtain⟨_,_,_,e,_⟩:=x;exact zr e)|own y=>(obtain⟨_,e⟩:=x;exact zr e)|xd fs=>(obtain⟨_,⟨_,_,_,e,_⟩,_⟩:=x;exact zr e)|Vy lo hi=>(obtain⟨_,_,_,e⟩:=x;exact zr e)|kB ob u=>(obtain⟨e,_⟩:=x;exact zr e)|pJ ps=>exact zr (show h.get? a=some _ from x)|met f y=>exact zr (show h.get? a=some _ from x)|ext φ=>obtain⟨_,⟨_,e⟩,_⟩:=x;exact zr e
theorem bj.mW(x:bj P w H h a o)(k:∀b u,(b=a\/H b=some (.own a))->h.get? b=some u->h'.get? b=some u) (ho:∀b,H b=some (.own a)->H' b=some (.own a)) (ht:∀b xs,H b=some (.tup xs)->H' b=some (.tup xs)):bj P w H' h' a o:=by induction o with|lst xs=>(obtain⟨z,au,n,r,e⟩:=x;exact{z,au,n,r,k _ _ (.inl rfl) e})|tup xs=>(obtain⟨z,au,r,ob,e,c⟩:=x;exact{z,au,r,ob,k _ _ (.inl rfl) e,c})|dK kvs=>(obtain⟨z,y,vs,r,ob,es,ep,e,c⟩:=x;exact{z,y,vs,r,ob,es,ep,k _ _ (.inl rfl) e,c})|dT kvs=>exact False.elim x|set S n=>(obtain⟨ob,es,ep,t,e,c⟩:=x;exact{ob,es,ep,t,k _ _ (.inl rfl) e,c})|ins C dx fs=>(obtain⟨d,z,ne,e,mA,⟨od,es,ep,e2,c⟩,r⟩:=x;exact{ho _ d,z,ne,k _ _ (.inl rfl) e,mA,{od,es,ep,k _ _ (.inr d) e2,c},r})|own y=>(obtain⟨ob,e⟩:=x;exact{ob,k _ _ (.inl rfl) e})|xd fs=>(obtain⟨mA,⟨od,es,ep,e,c⟩,r⟩:=x;exact{mA,{od,es,ep,k _ _ (.inl rfl) e,c},r})|Vy lo hi=>(obtain⟨t,u,v,e⟩:=x;exact{t,u,v,k _ _ (.inl rfl) e})|kB ob u ih=>(obtain⟨e,q⟩:=x;exact{k _ _ (.inl rfl) e,ih q})|pJ ps=>have e:h.get? a=some {cls:=.none,data:=.fields ps}:=x;show h'.get? a=some {cls:=.none,data:=.fields ps};exact k a _ (.inl rfl) e|met f y=>have e:h.get? a=some (methodObj (.ref f)<|.ref y):=x;show h'.get? a=some (methodObj (.ref f)<|.ref y);exact k a _ (.inl rfl) e|ext φ=>obtain⟨p,⟨o,e⟩,st⟩:=x;exact{st _ _ p λo q=>k _ _ (.inl rfl) q,{o,k _ _ (.inl rfl) e},st}
theorem kC.lt(x:kC P w H h)(e:H a=some o):a<h.objs.size:=(x a o e).lt
theorem kC.fresh(x:kC P w H h)(e:h.objs.size<=a):H a=none:=by cases q:H a with|none=>rfl|some u=>exact absurd (zg (x.lt q) e)<|yj _
theorem kC.kept(x:kC P w H h)(k:∀b u,h.get? b=some u->h'.get? b=some u):kC P w H h':=λa o e=>(x a o e).mW (λb u _ q=>k b u q) (λ_ q=>q) λ_ _ q=>q
theorem kC.laid(x:kC P w H h)(k:∀b u,h.get? b=some u->h'.get? b=some u)(hp:h.objs.size<=a)(new:bj P w (upd H a o) h' a o):kC P w (upd H a o) h':=λb u e=>by have hn:=x.fresh hp;by_cases hb:b=a;subst hb;rw[aD]at e;cases e;exact new;rw[aq hb]at e;exact(x b u e).mW (λc v _ q=>k c v q) (λc q=>by rw[aq<|ay q hn];exact q) λc xs q=>by rw[aq<|ay q hn];exact q
end
def Rd(H:Hp)(a:Addr)(u:HO):Prop:=H a=some u\/∃o,H a=some (.kB o u)
theorem Rd.of(h:H a=some u):Rd H a u:=.inl h
theorem Rd.ok{P:Program}{w:World}{H:Hp}{h:Heap}{a:Addr}{u:HO}(r:Rd H a u)(x:kC P w H h):bj P w H h a u:=by rcases r with r|⟨o,r⟩;exact x a u r;obtain⟨_,q⟩:=x a _ r;exact q
def Ro:Option HO->Prop|some (.lst _)=>True|some (.dK _)=>True|some (.dT _)=>True|some (.set _ _)=>True|some (.ins _ _ _)=>True|some (.ext _)=>True|_=>False
section
variable{P:Program}{w:World}{H:Hp}{h h':Heap}{x e:Addr}{o':HO}
theorem kC.write(ok:kC P w H h)(mu:Ro<|H x)(he:e=x\/H e=some (.own x))(k:∀b u,b≠e->h.get? b=some u->h'.get? b=some u)(QK:∃u,h'.get? e=some u) (new:bj P w (upd H x o') h' x o'):kC P w (upd H x o') h':=λb u q=>by
 have Rp:∀c y,H c=some (.own y)->c≠x:=λc y r z=>by subst z;rw[r]at mu;exact mu
 have WC:∀c xs,H c=some (.tup xs)->c≠x:=λc xs r z=>by subst z;rw[r]at mu;exact mu
 by_cases hb:b=x;subst hb;rw[aD]at q;cases q;exact new;rw[aq hb]at q;by_cases Ny:b=e;have q':H b=some (.own x):=by rcases he with z|z;exact absurd (Ny.trans z) hb;rw[Ny];exact z
 rw[q]at q';cases q';obtain⟨v,hv⟩:=QK;exact{v,by rw[Ny];exact hv};refine(ok b u q).mW (λc v hc r=>k c v ?_ r) (λc r=>by rw[aq<|Rp c b r];exact r) λc xs r=>by rw[aq<|WC c xs r];exact r
 rcases hc with rfl|hc;exact Ny;rintro rfl;rcases he with z|z;exact Rp c b hc z;rw[hc]at z;cases z;exact hb rfl
end
structure Un(fs ex:List Addr)(H H':Hp)(h h':Heap):Prop where
 keep:∀b o,h.get? b=some o->H b=none->b∉fs->b∉ex->h'.get? b=some o
 slot:∀b o,h.get? b=some o->H b=none->b∈fs->b∉ex->∃sl,h'.get? b=some {o with slots:=sl}
 free:∀b o,h.get? b=some o->H b=none->b∉ex->H' b=none
 there:∀b o,h.get? b=some o->b∉ex->∃o',h'.get? b=some o'
 kD:∀b xs,H b=some (.tup xs)->H' b=some (.tup xs)
 jM:∀b o u,H b=some (.kB o u)->H' b=some (.kB o u)
 jN:∀b ps,H b=some (.pJ ps)->∃more,H' b=some (.pJ<|ps++more)
section
variable{fs ex:List Addr}{H H1:Hp}{h h1 h':Heap}{a x e:Addr}{o:HO}
theorem Un.any(u:Un fs ex H H1 h h1){b:Addr}{ob:Obj}(q:h.get? b=some ob)(n:H b=none)(hx:b∉ex):∃sl,h1.get? b=some {ob with slots:=sl}:=by by_cases hb:b∈fs;exact u.slot b ob q n hb hx;exact{ob.slots,u.keep b ob q n hb hx}
theorem Un.kept(k:∀b u,h.get? b=some u->h'.get? b=some u):Un fs ex H H h h':={λb ob q _ _ _=>k b ob q,λb ob q _ _ _=>{ob.slots,k b ob q},λ_ _ _ n _=>n,λb ob q _=>{ob,k b ob q},λ_ _ q=>q,λ_ _ _ q=>q,λ_ ps q=>{#[],by rw[q];simp}}
theorem Un.refl:Un fs ex H H h h:=Un.kept λ_ _ q=>q
theorem Un.laid(k:∀b u,h.get? b=some u->h'.get? b=some u)(hp:h.objs.size<=a)(hn:H a=none):Un fs ex H (upd H a o) h h' where
 keep:=λb u q _ _ _=>k b u q
 slot:=λb u q _ _ _=>{u.slots,k b u q}
 free:=λb u q n _=>by rw[aq<|zu<|zg (zr q) hp];exact n
 there:=λb u q _=>{u,k b u q}
 kD:=λb xs q=>by rw[aq<|ay q hn];exact q
 jM:=λb u xs q=>by rw[aq<|ay q hn];exact q
 jN:=λb ps q=>{#[],by rw[aq<|ay q hn,q];simp}
theorem Un.write(mu:Ro<|H x)(he:e=x\/H e=some (.own x))(k:∀b u,b≠e->h.get? b=some u->h'.get? b=some u)(QK:∃u,h'.get? e=some u):Un fs ex H (upd H x o) h h':=by
 have hx:∀b,H b=none->b≠x:=λb n z=>by subst z;rw[n]at mu;exact mu
 have hb:∀b,H b=none->b≠e:=λb n z=>by subst z;rcases he with r|r;exact hx b n r;rw[n]at r;cases r
 have hm:∀b u,H b=some u->¬Ro (some u)->b≠x:=λb u q nm z=>by subst z;rw[q]at mu;exact nm mu
 refine⟨λb u q n _ _=>k b u (hb b n) q,λb u q n _ _=>{u.slots,k b u (hb b n) q},λb u q n _=>by rw[aq<|hx b n];exact n,λb u q _=>?_,
  λb xs q=>by rw[aq<|hm b _ q λz=>z];exact q,λb u xs q=>by rw[aq<|hm b _ q λz=>z];exact q,λb ps q=>{#[],by rw[aq<|hm b _ q λz=>z,q];simp}⟩
 by_cases Ny:b=e;subst Ny;exact QK;exact{u,k b u Ny q}
end
noncomputable def Vz(h:Heap)(H:Hp):List Addr:=(List.range h.objs.size).filter λa=>(H a).isSome
noncomputable def sj(h:Heap)(H:Hp):Heap:=hideAll h<|Vz h H
theorem DY(h:Heap)(H:Hp):(sj h H).objs.size=h.objs.size:=PySem.W.hideAll_size _ _
theorem Ga(e:h.get? b=some o)(n:H b=none):(sj h H).get? b=some o:=hideAll_get _ e λhm=>by have q:(H b).isSome=true:=(zY.mp hm).2;rw[n]at q;simp at q
theorem JE(e:(sj h H).get? b=some o):h.get? b=some o/\H b=none:=by have e':h.get? b=some o:=of_hideAll (Vz h H) e;refine{e',?_};cases q:H b with|none=>rfl|some x=>have hm:b∈Vz h H:=zY.mpr {zT.mpr<|zr e',by simp[q]};have z:(sj h H).get? b=none:=PySem.W.hideAll_none (Vz h H) hm;rw[z]at e;cases e
noncomputable def JF(g h:Heap)(L:Addr):List (Addr×Obj):=(List.range h.objs.size).filterMap λa=>if a=L\/(g.get? a).isSome=true then none else (h.get? a).map λo=>(a,o)
noncomputable def rest(g h:Heap)(L d:Addr):List (Addr×Obj):=(JF g h L).filter λp=>decide<|p.1≠d
structure Mod(K:Frag)(mg:Str->Option Value)(base:Heap):Prop where
 QM:K.In base
 glob:base.Ns mainGlobals mg
 blt:∃mb,base.Ns builtinsNs mb/\∀x:Str,x≠"__name__"->mb x=bootBuiltins x
 nolimit:base.NoLimit
structure Cx where
 prog:Program
 w:World
 K:Frag
 mg:Str->Option Value
 base:Heap
 A:Around
 N:List Str
 cI:Shared
 so:Hp
 env:Env
 outer:List Env
 stack:List Env
 ex:List Addr
 fn:Str->Bool
 calm:Bool
 pn:List (Addr×Obj)
 xe:Value->Shared->Prop
def kE(l:List Env):List Addr:=l.filterMap (·.frame)
noncomputable abbrev Cx.fs(X:Cx):List Addr:=kE X.outer
def Md(sc:Scope)(x:Str):Prop:=sc.names.lookup x=some .local\/sc.names.lookup x=some .cell\/sc.names.lookup x=some .free
def Loc(sc:Scope)(x:Str):Prop:=sc.names.lookup x=some .local\/sc.names.lookup x=some .cell
def Look(env:Env)(h:Heap)(m:Str->Option Value)(x:Str)(u:Value):Prop:=(env.kindOf x=some .local/\m x=some u)\/((env.kindOf x=some .cell\/env.kindOf x=some .free)/\∃c,env.cells.lookup x=some c/\h.IsCell c (some u))
structure Cx.Ok(X:Cx):Prop where
 mod:Mod X.K X.mg X.base
 kind:X.env.scope.kind=.function
 glob:X.env.globals=mainGlobals
 blt:X.env.builtins=builtinsNs
 above:X.cI.heap.objs.size<=X.env.locals
 inj:∀x y c,X.env.cells.lookup x=some c->X.env.cells.lookup y=some c->x=y
 has:∀x,(X.env.kindOf x=some .cell\/X.env.kindOf x=some .free)->∃c,X.env.cells.lookup x=some c
 WD:∀x c,X.fn x=true->X.env.cells.lookup x=some c->X.cI.heap.objs.size<=c
 hd:X.calm=true->X.A.handled=none
 frames:X.A.frames=some X.stack
 ZO:X.stack=X.outer\/(X.stack=X.env::X.outer/\X.env.frame=some X.env.locals)
 exf:∀b∈X.ex,b≠X.env.locals/\∀x c,X.env.cells.lookup x=some c->c≠b
 bs:∀b o,X.base.get? b=some o->X.cI.heap.get? b=some o/\X.so b=none
 Gb:X.base.objs.size<=X.cI.heap.objs.size
 JG:∀b o,X.base.get? b=some o->b∉X.ex
 Rq:∀b∈X.ex,b∉X.fs
 mX:X.cI.heap.FunFrames X.base X.outer
 Nz:∀b∈X.fs,X.so b=none
structure Inv(X:Cx)(pins:List (Addr×Obj))(σ:List (Option V))(H:Hp)(s:Shared):Prop where
 ok:X.Ok
 os:s.os=X.cI.os
 bare:AllBare s.gens
 base:Un X.fs X.ex X.so H X.cI.heap s.heap
 loc:∃m,s.heap.Ns X.env.locals m/\∀(i:Nat)(x:Str)(v:V),X.N[i]?=some x->σ[i]?=some (some v)->Md X.env.scope x->∃u,RelV v u/\Look X.env s.heap m x u
 cell:∀x c,X.env.cells.lookup x=some c->∃v,s.heap.IsCell c v
 free:H X.env.locals=none
 eR:∀x c,X.env.cells.lookup x=some c->H c=none
 pin:∀p∈X.pn++pins,s.heap.get? p.1=some p.2/\H p.1=none/\p.1≠X.env.locals/\p.1∉X.fs/\∀v,p.2.data≠.cell v
 aM:kC X.prog X.w H s.heap
 len:σ.length=X.N.length
section
variable{X:Cx}{pins:List (Addr×Obj)}{σ:List (Option V)}{H H':Hp}{s:Shared}{h':Heap}
theorem Cx.Ok.DZ(ok:X.Ok)(e:X.base.get? b=some o):b∉X.fs:=λhb=>by have:=(ok.mX.mem hb).1;rw[e]at this;cases this
theorem Inv.bs(I:Inv X pins σ H s):∀b o,X.base.get? b=some o->s.heap.get? b=some o/\H b=none:=λb o e=>{I.base.keep b o (I.ok.bs b o e).1 (I.ok.bs b o e).2 (I.ok.DZ e)<|I.ok.JG b o e,I.base.free b o (I.ok.bs b o e).1 (I.ok.bs b o e).2<|I.ok.JG b o e}
theorem Inv.bk(I:Inv X pins σ H s):∀b o,X.base.get? b=some o->s.heap.get? b=some o:=λb o e=>(I.bs b o e).1
theorem Inv.mod(I:Inv X pins σ H s):Mod X.K X.mg X.base:=I.ok.mod
theorem Inv.oi(I:Inv X pins σ H s):X.K.In s.heap:=I.ok.mod.QM.keeps I.bk
theorem Inv.nolimit(I:Inv X pins σ H s):s.heap.NoLimit:=I.ok.mod.nolimit.keeps I.bk
theorem Inv.fr(I:Inv X pins σ H s):∃m,Fr X.base X.env.locals s.heap m :=
 let ⟨m,hn,_⟩:=I.loc
 ⟨m,hn,I.bk,zH I.ok.Gb I.ok.above⟩
theorem Inv.lt(I:Inv X pins σ H s):X.env.locals<s.heap.objs.size:=by obtain⟨_,hn,_⟩:=I.loc;exact hn.lt
theorem Inv.sz(I:Inv X pins σ H s):X.cI.heap.objs.size<=s.heap.objs.size:=zH I.ok.above<|yD I.lt
theorem Inv.Rr(I:Inv X pins σ H s)(h:s.heap.objs.size<=a):a∉X.fs:=λhb=>by obtain⟨_,o,ho,_⟩:=I.ok.mX.mem hb;exact absurd (zg (zr ho)<|zH I.sz h)<|yj _
theorem Inv.NA(I:Inv X pins σ H s):∀x c,X.env.cells.lookup x=some c->c≠X.env.locals:=λx c e z=>by obtain⟨v,o,ho,hd⟩:=I.cell x c e;obtain⟨m,⟨o',es,ep,Ad,Ae,_⟩,_⟩:=I.loc;rw[z,Ad]at ho;cases ho;rw[Ae]at hd;cases hd
theorem Inv.mX(I:Inv X pins σ H s):s.heap.FunFrames X.base X.outer:=by
 have all:∀(l:List Env),(∀b∈kE l,b∈X.fs)->X.cI.heap.FunFrames X.base l->s.heap.FunFrames X.base l:=by intro l;induction l with|nil=>intro _ _;trivial|cons env r ih=>intro hs hl;obtain⟨hk,⟨L,o,hf,hn,ho,hd⟩,hr⟩:=hl;have hL:L∈X.fs:=hs L (by unfold kE;rw[List.filterMap_cons,hf];exact zi);obtain⟨sl,e⟩:=I.base.slot L o ho (I.ok.Nz L hL) hL λz=>I.ok.Rq L z hL;exact{hk,{L,_,hf,hn,e,hd},ih (λb hb=>hs b<|by unfold kE;rw[List.filterMap_cons,hf];exact ze _ hb) hr}
 exact all X.outer (λ_ hb=>hb) I.ok.mX
theorem Inv.stack(I:Inv X pins σ H s):s.heap.FunFrames X.base X.stack:=by rcases I.ok.ZO with e|⟨e,hf⟩;rw[e];exact I.mX;rw[e];obtain⟨m,hn,_⟩:=I.loc;refine .cons (by rw[I.ok.kind];decide) hf hn ?_ I.mX;exact Heap.get?_none_of_le<|zH I.ok.Gb I.ok.above
theorem Inv.fW(I:Inv X pins σ H s):∀b∈kE X.stack,b∈X.env.locals::X.fs:=λb hb=>by rcases I.ok.ZO with e|⟨e,hf⟩;rw[e]at hb;exact ze _ hb;rw[e]at hb;unfold kE at hb;rw[List.filterMap_cons,hf]at hb;exact hb
theorem Inv.lE(I:Inv X pins σ H s):∀b∈kE X.stack,H b=none:=λb hb=>by rcases zh.mp (I.fW b hb) with e|hb;rw[e];exact I.free;obtain⟨_,o,ho,_⟩:=I.ok.mX.mem hb;exact I.base.free b o ho (I.ok.Nz b hb) λz=>I.ok.Rq b z hb
theorem Inv.step{g':Array GenState}{t':Nat}{d':Drawn}{ch:List Addr}(I:Inv X pins σ H s) (Jn:∀b∈ch,(b∈X.ex\/X.cI.heap.objs.size<=b)/\b≠X.env.locals/\(∀x c,X.env.cells.lookup x=some c->c≠b)/\∀p∈X.pn++pins,p.1≠b) (keep:∀b o,b≠X.env.locals->b∉X.fs->b∉ch->s.heap.get? b=some o->H b=none->h'.get? b=some o) (slot:∀b o,b≠X.env.locals->b∈X.fs->b∉ch->s.heap.get? b=some o->H b=none->∃sl,h'.get? b=some {o with slots:=sl}) (free:∀b o,b∉ch->s.heap.get? b=some o->H b=none->H' b=none) (there:∀b o,b∉ch->s.heap.get? b=some o->∃o',h'.get? b=some o') (kD:∀b xs,H b=some (.tup xs)->H' b=some (.tup xs)) (jM:∀b o u,H b=some (.kB o u)->H' b=some (.kB o u)) (jN:∀b ps,H b=some (.pJ ps)->∃more,H' b=some (.pJ<|ps++more)) (ns:∀m,s.heap.Ns X.env.locals m->h'.Ns X.env.locals m) (aM:kC X.prog X.w H' h') (hg:AllBare g'): Inv X pins σ H' {s with heap:=h',gens:=g',drawn:=d',toks:=t'}:=by
 have ZP:∀b o,X.cI.heap.get? b=some o->b≠X.env.locals:=λb o e=>zu<|zg (zr e) I.ok.above;have VA:∀b o,X.cI.heap.get? b=some o->b∉X.ex->b∉ch:=λb o e hx hb=>by rcases (Jn b hb).1 with z|z;exact hx z;exact absurd (zg (zr e) z)<|yj _
 have cellK:∀x c,X.env.cells.lookup x=some c->∀v,s.heap.IsCell c v->h'.IsCell c v:=by rintro x c e v ⟨o,ho,hd⟩;have Ru:c∉ch:=λz=>(Jn c z).2.2.1 x c e rfl;by_cases hc:c∈X.fs;obtain⟨sl,q⟩:=slot c o (I.NA x c e) hc Ru ho<|I.eR x c e;exact{_,q,hd};exact{o,keep c o (I.NA x c e) hc Ru ho<|I.eR x c e,hd}
 refine{I.ok,I.os,hg,{λb o e n hb hx=>?_,λb o e n hb hx=>?_,λb o e n hx=>?_,λb o e hx=>?_,λb xs e=>kD b xs<|I.base.kD b xs e,λb o xs e=>jM b o xs<|I.base.jM b o xs e,λb ps e=>?_},?_,λx c e=>?_,?_,λx c e=>?_,λp hp=>?_,aM,I.len};exact keep b o (ZP b o e) hb (VA b o e hx) (I.base.keep b o e n hb hx)<|I.base.free b o e n hx;obtain⟨sl,e1⟩:=I.base.slot b o e n hb hx;obtain⟨sl',e2⟩:=slot b _ (ZP b o e) hb (VA b o e hx) e1<|I.base.free b o e n hx;exact⟨sl',e2⟩;obtain⟨o',e1⟩:=I.base.there b o e hx;exact free b o' (VA b o e hx) e1<|I.base.free b o e n hx;obtain⟨o',e1⟩:=I.base.there b o e hx;exact there b o' (VA b o e hx) e1;obtain⟨m1,e1⟩:=I.base.jN b ps e;obtain⟨m2,e2⟩:=jN b _ e1;exact{m1++m2,by rw[e2,Array.append_assoc]};obtain⟨m,hn,hl⟩:=I.loc;refine{m,ns m hn,λi x v e1 e2 e3=>?_};obtain⟨u,r,l⟩:=hl i x v e1 e2 e3;refine{u,r,?_};rcases l with l|⟨k,c,e,z⟩;exact .inl l;exact .inr {k,c,e,cellK x c e _ z};obtain⟨v,z⟩:=I.cell x c e;exact{v,cellK x c e v z};obtain⟨m,⟨o,_,_,ho,_⟩,_⟩:=I.loc;exact free _ o (λz=>(Jn _ z).2.1 rfl) ho I.free;obtain⟨v,o,ho,hd⟩:=I.cell x c e;exact free c o (λz=>(Jn c z).2.2.1 x c e rfl) ho<|I.eR x c e;obtain⟨e,n,ne,nf,d⟩:=I.pin p hp;have Ru:p.1∉ch:=λz=>(Jn p.1 z).2.2.2 p hp rfl;exact{keep p.1 p.2 ne nf Ru e n,free p.1 p.2 Ru e n,ne,nf,d}
theorem Inv.un{t':Nat}(I:Inv X pins σ H s)(u:Un X.fs [] H H' s.heap h')(aM:kC X.prog X.w H' h'):Inv X pins σ H' {s with heap:=h',toks:=t'}:=by obtain⟨m,⟨o,es,ep,ho,r⟩,_⟩:=id I.loc;obtain⟨sl,hL⟩:=u.any ho I.free (by simp);exact I.step (g':=s.gens) (d':=s.drawn) (ch:=[]) (λ_ z=>nomatch z) (λb o _ hb _ e n=>u.keep b o e n hb<|by simp) (λb o _ hb _ e n=>u.slot b o e n hb<|by simp) (λb o _ e n=>u.free b o e n<|by simp) (λb o _ e=>u.there b o e<|by simp) u.kD u.jM u.jN (λm' hm=>by obtain⟨o',VB,WE,Ad,r'⟩:=hm;rw[ho]at Ad;cases Ad;exact{_,VB,WE,hL,r'}) aM I.bare
theorem Inv.call{g':Array GenState}{t':Nat}{d':Drawn}{ch:List Addr}(I:Inv X pins σ H s)(u:Un (kE X.stack) ch H H' s.heap h')(aM:kC X.prog X.w H' h')(hg:AllBare g') (Jn:∀b∈ch,(b∈X.ex\/X.cI.heap.objs.size<=b)/\b≠X.env.locals/\(∀x c,X.env.cells.lookup x=some c->c≠b)/\∀p∈X.pn++pins,p.1≠b): Inv X pins σ H' {s with heap:=h',gens:=g',drawn:=d',toks:=t'}:=by obtain⟨m,⟨o,es,ep,ho,r⟩,_⟩:=id I.loc;obtain⟨sl,hL⟩:=u.any ho I.free λz=>(Jn _ z).2.1 rfl;exact I.step (ch:=ch) Jn (λb o hL hb hc e n=>u.keep b o e n (λz=>(zh.mp<|I.fW b z).elim hL hb) hc) (λb o _ _ hc e n=>u.any e n hc) (λb o hc e n=>u.free b o e n hc) (λb o hc e=>u.there b o e hc) u.kD u.jM u.jN (λm' hm=>by obtain⟨o',VB,WE,Ad,r'⟩:=hm;rw[ho]at Ad;cases Ad;exact{_,VB,WE,hL,r'}) aM hg
theorem Inv.turned{t':Nat}{it:Addr}(I:Inv X pins σ H s)(k:∀b o,b≠it->s.heap.get? b=some o->h'.get? b=some o)(hn:H it=none)(hL:it≠X.env.locals) (h1:it∈X.ex\/X.cI.heap.objs.size<=it) (h2:∀x c,X.env.cells.lookup x=some c->c≠it) (h3:∀p∈X.pn++pins,p.1≠it):Inv X pins σ H {s with heap:=h',toks:=t'}:=by
 have NB:∀b u,H b=some u->b≠it:=λb u e z=>by rw[z,hn]at e;cases e
 refine I.step (g':=s.gens) (d':=s.drawn) (ch:=[it]) (λb hb=>?_) (λb o _ _ hc e _=>k b o (λz=>hc<|by simp[z]) e) (λb o _ _ hc e _=>{o.slots,k b o (λz=>hc<|by simp[z]) e}) (λ_ _ _ _ n=>n) (λb o hc e=>{o,k b o (λz=>hc<|by simp[z]) e}) (λ_ _ e=>e) (λ_ _ _ e=>e) (λb ps e=>{#[],by rw[e];simp}) (λm hm=>?_) (λb u e=>?_) I.bare;have e:b=it:=by simpa using hb
 subst e;exact⟨h1,hL,h2,h3⟩;obtain⟨o,es,ep,ho,r⟩:=hm;exact{o,es,ep,k _ o (Ne.symm hL) ho,r};refine(I.aM b u e).mW (λc v hc q=>k c v ?_ q) (λ_ q=>q) λ_ _ q=>q;rcases hc with z|z;rw[z];exact NB b u e;exact NB c _ z
theorem Inv.tok(I:Inv X pins σ H s)(t:Nat):Inv X pins σ H {s with toks:=t}:=I.un (h':=s.heap) (t':=t) Un.refl I.aM
theorem Inv.kept(I:Inv X pins σ H s)(k:∀b u,s.heap.get? b=some u->h'.get? b=some u):Inv X pins σ H {s with heap:=h',toks:=t'}:=I.un (Un.kept k)<|I.aM.kept k
theorem Inv.laid{a:Addr}{o:HO}{t':Nat}(I:Inv X pins σ H s)(k:∀b u,s.heap.get? b=some u->h'.get? b=some u)(hp:s.heap.objs.size<=a)(new:bj X.prog X.w (upd H a o) h' a o): Inv X pins σ (upd H a o) {s with heap:=h',toks:=t'}:=I.un (Un.laid k hp<|I.aM.fresh hp)<|I.aM.laid k hp new
theorem Inv.write(I:Inv X pins σ H s)(mu:Ro<|H x)(he:e=x\/H e=some (.own x))(k:∀b u,b≠e->s.heap.get? b=some u->h'.get? b=some u)(QK:∃u,h'.get? e=some u) (new:bj X.prog X.w (upd H x o) h' x o):Inv X pins σ (upd H x o) {s with heap:=h',toks:=t'}:=I.un (Un.write mu he k QK)<|I.aM.write mu he k QK new
theorem Inv.weak(I:Inv X pins σ H s)(hl:aJ.length=σ.length)(w:∀(i:Nat) v,aJ[i]?=some (some v)->σ[i]?=some (some v)):Inv X pins aJ H s:={I.ok,I.os,I.bare,I.base,by obtain⟨m,hn,VC⟩:=I.loc;exact{m,hn,λi x v e1 e2 e3=>VC i x v e1 (w i v e2) e3},I.cell,I.free,I.eR,I.pin,I.aM,hl.trans I.len}
theorem Inv.fC(I:Inv X pins σ H s)(h:∀p∈pins',s.heap.get? p.1=some p.2/\H p.1=none/\p.1≠X.env.locals/\p.1∉X.fs/\∀v,p.2.data≠.cell v):Inv X pins' σ H s:={I.ok,I.os,I.bare,I.base,I.loc,I.cell,I.free,I.eR,λp hp=>(zN.mp hp).elim (λz=>I.pin p<|zS _ z)<|h p,I.aM,I.len}
theorem wm{N:List Str}(hN:N.Nodup){i j:Nat}{x:Str}(a:N[i]?=some x)(b:N[j]?=some x):i=j:=by obtain⟨h1,e1⟩:=zk.mp a;obtain⟨h2,e2⟩:=zk.mp b;exact(List.getElem_inj hN).mp<|e1.trans e2.symm
theorem tm{M:Model}{A:Around}{E:Value->Shared->Prop}{i:Nat}{x:Str}{v:V}{u:Value}{Q:Unit->Shared->Prop}(I:Inv X pins σ H s)(hN:X.N.Nodup)(hi:X.N[i]?=some x)(hx:Loc X.env.scope x)(r:RelV v u) (h:∀s',Inv X pins (σ.set i<|some v) H s'->(∃a,Heap.SameBut a s.heap s'.heap/\(a=X.env.locals\/X.env.cells.lookup x=some a))->Q () s') (hf:autoParam (X.fn x=true\/X.env.scope.names.lookup x=some .local) qQ6):wpAny M A (storeName X.env x u) Q E s:=by
 obtain⟨m,hn,hl⟩:=id I.loc;have WG:(X.env.scope.kind==.class||(X.env.scope.kind==.module&&X.env.locals != X.env.globals))=false:=by rw[I.ok.kind];rfl
 have Rw:i<σ.length:=by rw[I.len];exact(zk.mp hi).1
 have NA:=I.NA;have tracked:∀{a:Addr}{h':Heap},(∃o,s.heap.get? a=some o/\H a=none)->Heap.SameBut a s.heap h'->kC X.prog X.w H h':=λ{a h'} ha hs b ob e=>by obtain⟨_,_,Me⟩:=ha;refine(I.aM b ob e).mW (λc w' hc q=>(hs.2 c ?_).trans q) (λ_ q=>q) λ_ _ q=>q;rintro rfl;rcases hc with rfl|hc;rw[Me]at e;cases e;rw[Me]at hc;cases hc
 rcases hx with hk|hk;refine wpAny_storeName_local hk hn (λh' Mf hs=>?_) WG;obtain⟨oL,_,_,FN,_⟩:=id hn;refine h _ {I.ok,I.os,I.bare,{λb o e n hb hx=>?_,λb o e n hb hx=>?_,I.base.free,λb o e hx=>?_,I.base.kD,I.base.jM,I.base.jN},{_,Mf,λj y v' e1 e2 e3=>?_},λy c e=>?_,I.free,I.eR,λp hp=>?_,tracked ⟨oL,FN,I.free⟩ hs,by simpa using I.len} {_,hs,.inl rfl};exact(hs.2 b<|zu<|zg (zr e) I.ok.above).trans<|I.base.keep b o e n hb hx;obtain⟨sl,e1⟩:=I.base.slot b o e n hb hx;exact{sl,(hs.2 b<|zu<|zg (zr e) I.ok.above).trans e1};obtain⟨o',e1⟩:=I.base.there b o e hx;exact{o',(hs.2 b<|zu<|zg (zr e) I.ok.above).trans e1};by_cases hj:j=i;subst hj;rw[hi]at e1;cases e1;rw[List.getElem?_set_self Rw]at e2;cases e2;exact{u,r,.inl {hk,by simp}};rw[List.getElem?_set_ne<|Ne.symm hj]at e2;obtain⟨u',r',q⟩:=hl j y v' e1 e2 e3;refine{u',r',?_};rcases q with⟨k,e⟩|⟨k,c,e,z⟩;refine .inl {k,?_};have:y≠x:=λe=>hj<|wm hN e1<|e ▸ hi;simp[this,e];exact .inr {k,c,e,z.sameBut hs<|NA y c e};obtain⟨w',z⟩:=I.cell y c e;exact{w',z.sameBut hs<|NA y c e};obtain⟨e,n,ne,nf,d⟩:=I.pin p hp;exact{(hs.2 p.1 ne).trans e,n,ne,nf,d};have WH:X.fn x=true:=by rcases hf with z|z;exact z;rw[z]at hk;cases hk
 obtain⟨c,hc⟩:=I.ok.has x<|.inl hk;obtain⟨w',z⟩:=I.cell x c hc;refine wpAny_storeName_cell I.ok.kind hk hc z λh' FO hs=>?_;obtain⟨oc,VD,WI⟩:=id z;refine h {s with heap:=h'} {I.ok,I.os,I.bare,{λb o e n hb hx=>?_,λb o e n hb hx=>?_,I.base.free,λb o e hx=>?_,I.base.kD,I.base.jM,I.base.jN},{m,hn.sameBut hs<|Ne.symm<|NA x c hc,λj y v' e1 e2 e3=>?_},λy c' e=>?_,I.free,I.eR,λp hp=>?_,tracked {oc,VD,I.eR x c hc} hs,by simpa using I.len} {c,hs,.inr hc};exact(hs.2 b<|zu<|zg (zr e)<|I.ok.WD x c WH hc).trans<|I.base.keep b o e n hb hx;obtain⟨sl,e1⟩:=I.base.slot b o e n hb hx;exact{sl,(hs.2 b<|zu<|zg (zr e)<|I.ok.WD x c WH hc).trans e1};obtain⟨o',e1⟩:=I.base.there b o e hx;exact{o',(hs.2 b<|zu<|zg (zr e)<|I.ok.WD x c WH hc).trans e1};by_cases hj:j=i;subst hj;rw[hi]at e1;cases e1;rw[List.getElem?_set_self Rw]at e2;cases e2;exact{u,r,.inr {.inl hk,c,hc,FO}};rw[List.getElem?_set_ne<|Ne.symm hj]at e2;obtain⟨u',r',q⟩:=hl j y v' e1 e2 e3;refine{u',r',?_};rcases q with q|⟨k,c',e,z'⟩;exact .inl q;refine .inr {k,c',e,z'.sameBut hs ?_};rintro rfl;exact hj<|wm hN e1<|I.ok.inj _ _ _ e hc ▸ hi;by_cases ZQ:c'=c;subst ZQ;exact{_,FO};obtain⟨w2,z2⟩:=I.cell y c' e;exact{w2,z2.sameBut hs ZQ};obtain⟨e,n,ne,nf,d⟩:=I.pin p hp;refine{(hs.2 p.1 ?_).trans e,n,ne,nf,d};intro q;rw[q,VD]at e;have q':oc=p.2:=zO e;exact d w'<|by rw[<-q'];exact WI
theorem pW(I:Inv X pins σ H s)(hN:X.N.Nodup)(hi:X.N[i]?=some x)(hx:Loc X.env.scope x)(r:RelV v u) (h:∀s',Inv X pins (σ.set i<|some v) H s'->Q () s') (hf:autoParam (X.fn x=true\/X.env.scope.names.lookup x=some .local) qQ6):wpAny M A (storeName X.env x u) Q E s:=tm I hN hi hx r (λs' I' _=>h s' I') hf
theorem Inv.Mg(I:Inv X pins σ H s)(ho:s'.os=s.os)(u:Un (kE X.stack) ch H H' s.heap s'.heap)(aM:kC X.prog X.w H' s'.heap)(hg:AllBare s'.gens) (Jn:∀b∈ch,(b∈X.ex\/X.cI.heap.objs.size<=b)/\b≠X.env.locals/\(∀x c,X.env.cells.lookup x=some c->c≠b)/\∀p∈X.pn++pins,p.1≠b):Inv X pins σ H' s':=by obtain⟨h',g',d',t',o'⟩:=s';have e:o'=s.os:=ho;subst e;exact I.call (g':=g') (t':=t') (d':=d') u aM hg Jn
end
abbrev XK:=Value->Option Addr->Hp->Prop
abbrev St:=List<|Option V
abbrev VK:=V->Hp->Prop
abbrev TE:=St->Hp->VK->Prop
abbrev TT:=St->Hp->(Bool->Hp->Prop)->Prop
abbrev TA:=St->Hp->(List V->Hp->Prop)->Prop
structure Ends where
 nx:St->Hp->Prop
 rt:VK
 bk:St->Hp->Prop:=λ_ _=>False
 ct:St->Hp->Prop:=λ_ _=>False
abbrev TS:=Ends->St->Hp->Prop
def EP(X:Cx)(pins:List<|Addr×Obj)(σ:St)(Q:VK)(u:Value)(s':Shared):Prop:=∃v H',Inv X pins σ H' s'/\RelV v u/\Q v H'
def TP(X:Cx)(pins:List<|Addr×Obj)(σ:St)(Q:Bool->Hp->Prop)(b:Bool)(s':Shared):Prop:=∃H',Inv X pins σ H' s'/\Q b H'
def AP(X:Cx)(pins:List<|Addr×Obj)(σ:St)(Q:List V->Hp->Prop)(us:List Value)(s':Shared):Prop:=∃vs H',Inv X pins σ H' s'/\Vals vs us/\Q vs H'
def SP(X:Cx)(pins:List<|Addr×Obj)(D:Ends)(f:Flow)(s':Shared):Prop:=match f with|.next=>∃aJ H',Inv X pins aJ H' s'/\D.nx aJ H'|.brk=>∃aJ H',Inv X pins aJ H' s'/\D.bk aJ H'|.cont=>∃aJ H',Inv X pins aJ H' s'/\D.ct aJ H'|.ret u=>∃v aJ H',Inv X pins aJ H' s'/\RelV v u/\D.rt v H'
def PE(X:Cx)(e:Expr)(t:TE):Prop:=∀(pins:List (Addr×Obj))(s:Shared)(σ:St)(H:Hp)(Q:VK),Inv X pins σ H s->t σ H Q->wpAny (model X.prog X.w) X.A (eval e X.env) (EP X pins σ Q) X.xe s
def PT(X:Cx)(e:Expr)(t:TT):Prop:=∀(pins:List (Addr×Obj))(s:Shared)(σ:St)(H:Hp)(Q:Bool->Hp->Prop),Inv X pins σ H s->t σ H Q->wpAny (model X.prog X.w) X.A (isTrue e X.env<|eval e X.env) (TP X pins σ Q) X.xe s
def PW(X:Cx)(e:Expr)(t:TT):Prop:=∀(whole:Sem Value)(pins:List (Addr×Obj))(s:Shared)(σ:St)(H:Hp)(Q:Bool->Hp->Prop),Inv X pins σ H s->t σ H Q->wpAny (model X.prog X.w) X.A (isTrue e X.env whole) (TP X pins σ Q) X.xe s
theorem PW.pt{t:TT}(h:PW X e t):PT X e t:=h _
def PA(X:Cx)(es:List Expr)(t:TA):Prop:=∀(pos:Pos)(pins:List (Addr×Obj))(s:Shared)(σ:St)(H:Hp)(Q:List V->Hp->Prop),Inv X pins σ H s->t σ H Q->wpAny (model X.prog X.w) X.A (spliced<|backTo pos<|starEach es X.env) (AP X pins σ Q) X.xe s
def PS(X:Cx)(st:Stmt)(t:TS):Prop:=∀(pins:List (Addr×Obj))(s:Shared)(σ:St)(H:Hp)(D:Ends),Inv X pins σ H s->t D σ H->wpAny (model X.prog X.w) X.A (exec st X.env) (SP X pins D) X.xe s
def B9(X:Cx)(st:List Stmt)(t:TS):Prop:=∀(pins:List (Addr×Obj))(s:Shared)(σ:St)(H:Hp)(D:Ends),Inv X pins σ H s->t D σ H->wpAny (model X.prog X.w) X.A (execs st X.env) (SP X pins D) X.xe s
theorem bf{t:Sem α}(h:wpAny M A t Q E s)(hQ:∀a s,Q a s->Q' a s):wpAny M A t Q' E s:=yF h hQ λ_ _ x=>x
section
variable{X:Cx}
def WJ(i:Nat):TE:=λσ H Q=>∃v,σ[i]?=some (some v)/\Q v H
def tC(v:V):TE:=λ_ H Q=>Q v H
theorem NC(hN:X.N[i]?=some x)(hv:Md X.env.scope x)(hd:autoParam ((x==("__debug__": Str))=false) qQZ)(rW:autoParam ((x==("__classdict__": Str))=false) qQZ):PE X (.Name x pos) (WJ i):=by intro pins s σ H Q I h;obtain⟨v,e,h⟩:=h;obtain⟨m,hn,hl⟩:=I.loc;obtain⟨u,r,l⟩:=hl i x v hN e hv;have fin:EP X pins σ Q u s:=⟨v,H,I,r,h⟩;rcases l with⟨hk,hm⟩|⟨hk,c,hc,B_⟩;exact wpAny_Name (wpAny_loadName_local I.ok.kind hk hn hm fin) hd;rcases hk with hk|hk;exact wpAny_Name (wpAny_loadName_cell I.ok.kind hk hc B_ fin) hd;exact wpAny_Name (wpAny_loadName_free I.ok.kind hk hc B_ fin rW) hd
theorem ND:PE X (.Constant (.int i) j pos) (tC<|.int i):=λ_ _ _ H _ I h=>wpAny_Constant_int {.int i,H,I.tok _,{_,rfl},h}
theorem Mh:PE X (.Constant (.bool b) j pos) (tC<|.bl b):=λ_ _ _ H _ I h=>Constant_bool {.bl b,H,I,rfl,h}
theorem NF:PE X (.Constant .none j pos) (tC .ax):=λ_ _ _ H _ I h=>Constant_none {.ax,H,I,rfl,h}
theorem NG:PE X (.Constant (.str x) j pos) (tC<|.str x):=λ_ _ _ H _ I h=>Calls.Constant_str {.str x,H,I.tok _,{_,rfl},h}
def Gl(X:Cx)(x:Str):Prop:=X.env.kindOf x=some .globalImplicit
theorem pK(I:Inv X pins σ H s)(hg:Gl X x)(hm:X.mg x=some u)(h:Q u s) (hd:autoParam ((x==("__debug__": Str))=false) qQZ):wpAny (model X.prog X.w) X.A (eval (.Name x pos) X.env) Q E s:=Calls.Name_function_global I.ok.kind hg (Calls.loadGlobal_global (by rw[I.ok.glob];exact I.mod.glob.keeps I.bk) hm h) hd
theorem eS(I:Inv X pins σ H s)(hg:Gl X x)(hm:X.mg x=none)(hv:bootBuiltins x=some u)(h:Q u s) (hn:autoParam (x≠"__name__") qQZ) (hd:autoParam ((x==("__debug__": Str))=false) qQZ):wpAny (model X.prog X.w) X.A (eval (.Name x pos) X.env) Q E s:=by obtain⟨mb,h1,h2⟩:=I.mod.blt;exact Calls.Name_function_global I.ok.kind hg (Calls.loadGlobal_builtin (by rw[I.ok.glob];exact I.mod.glob.keeps I.bk) hm (by rw[I.ok.blt];exact h1.keeps I.bk) ((h2 x hn).trans hv) h) hd
theorem Ca(hg:Gl X x)(hm:X.mg x=some u)(r:RelV v u)(hd:autoParam ((x==("__debug__": Str))=false) qQZ):PE X (.Name x pos) (tC v):=λ_ _ _ H _ I h=>pK I hg hm ⟨v,H,I,r,h⟩ hd
theorem JH(hg:Gl X x)(hm:X.mg x=none)(hv:bootBuiltins x=some u)(r:RelV v u)(hn:autoParam (x≠"__name__") qQZ)(hd:autoParam ((x==("__debug__": Str))=false) qQZ):PE X (.Name x pos) (tC v):=λ_ _ _ H _ I h=>eS I hg hm hv ⟨v,H,I,r,h⟩ hn hd
variable{a b:Expr}{ta tb:TE}{pos:Pos}
def tB(t:TE):TT:=λσ H Q=>t σ H λx H1=>∃c,x=.bl c/\Q c H1
theorem NH{t:TE}(h:PE X e t)(he:autoParam (∀whole,isTrue e X.env whole=(do let v <-whole;standAt e.pos;holding [v] (truthy v))) qQ0):PT X e (tB t):=by intro pins s σ H Q I hw;refine isTrue_plain (bf (h pins s σ H _ I hw) λv s1 ⟨x,H1,I1,r1,q1⟩=>?_)<|he _;obtain⟨d,rfl,q⟩:=q1;cases r1;exact yr ⟨H1,I1,q⟩
variable{tA VE:TT}{rest:List Expr}
def WK(t u:TT):TT:=λσ H Q=>t σ H λc H1=>if c=true then u σ H1 Q else Q false H1
def tOr(t u:TT):TT:=λσ H Q=>t σ H λc H1=>if c=true then Q true H1 else u σ H1 Q
def WL(t:TT):TT:=λσ H Q=>t σ H λc H1=>Q (!c) H1
theorem pw_and1(ha:PT X a tA):PW X (.BoolOp .And [a] pos) tA:=by intro wh pins s σ H Q I h;refine isTrue_and<|bf (ha pins s σ H Q I h) λc s1 e=>?_;cases c with|true=>exact isTrue_and_nil e|false=>exact e
theorem pw_or1(ha:PT X a tA):PW X (.BoolOp .Or [a] pos) tA:=by intro wh pins s σ H Q I h;refine isTrue_or<|bf (ha pins s σ H Q I h) λc s1 e=>?_;cases c with|false=>exact isTrue_or_nil e|true=>exact e
theorem pw_and(ha:PT X a tA)(hb:PW X (.BoolOp .And (b::rest) pos) VE):PW X (.BoolOp .And (a::b::rest) pos) (WK tA VE):=by intro wh pins s σ H Q I h;refine isTrue_and<|bf (ha pins s σ H _ I h) λc s1 ⟨H1,I1,q1⟩=>?_;cases c with|true=>exact hb wh pins s1 σ H1 Q I1 q1|false=>exact⟨H1,I1,q1⟩
theorem pw_or(ha:PT X a tA)(hb:PW X (.BoolOp .Or (b::rest) pos) VE):PW X (.BoolOp .Or (a::b::rest) pos) (tOr tA VE):=by intro wh pins s σ H Q I h;refine isTrue_or<|bf (ha pins s σ H _ I h) λc s1 ⟨H1,I1,q1⟩=>?_;cases c with|true=>exact⟨H1,I1,q1⟩|false=>exact hb wh pins s1 σ H1 Q I1 q1
theorem NI(ha:PT X a tA):PT X (.UnaryOp .Not a pos) (WL tA):=by intro pins s σ H Q I h;exact isTrue_not<|ha pins s σ H (λc H1=>Q (!c) H1) I h
def Rx(ta tb:TE):TE:=λσ H Q=>ta σ H λx H1=>∃c,x=.bl c/\if c=true then tb σ H1 Q else Q (.bl false) H1
def WM(ta tb:TE):TE:=λσ H Q=>ta σ H λx H1=>∃c,x=.bl c/\if c=true then Q (.bl true) H1 else tb σ H1 Q
def Ry(ta:TE):TE:=λσ H Q=>ta σ H λx H1=>∃c,x=.bl c/\Q (.bl<|!c) H1
theorem NJ{t:TE}(h:PE X a t):PE X (.BoolOp op [a] pos) t:=λpins s σ H Q I hw=>BoolOp_one<|h pins s σ H Q I hw
theorem NK(ha:PE X a ta)(hb:PE X (.BoolOp .And (b::rest) pos) tb):PE X (.BoolOp .And (a::b::rest) pos) (Rx ta tb):=by intro pins s σ H Q I h;refine BoolOp_and<|bf (ha pins s σ H _ I h) λv s1 ⟨x,H1,I1,r1,q1⟩=>?_;obtain⟨c,rfl,q1⟩:=q1;cases r1;refine yr ?_;cases c with|true=>exact hb pins s1 σ H1 Q I1 q1|false=>exact{.bl false,H1,I1,rfl,q1}
theorem Rz(ha:PE X a ta)(hb:PE X (.BoolOp .Or (b::rest) pos) tb):PE X (.BoolOp .Or (a::b::rest) pos) (WM ta tb):=by intro pins s σ H Q I h;refine BoolOp_or<|bf (ha pins s σ H _ I h) λv s1 ⟨x,H1,I1,r1,q1⟩=>?_;obtain⟨c,rfl,q1⟩:=q1;cases r1;refine yr ?_;cases c with|false=>exact hb pins s1 σ H1 Q I1 q1|true=>exact{.bl true,H1,I1,rfl,q1}
theorem NL(ha:PE X a ta):PE X (.UnaryOp .Not a pos) (Ry ta):=by intro pins s σ H Q I h;refine UnaryOp_<|bf (ha pins s σ H _ I h) λv s1 ⟨x,H1,I1,r1,q1⟩=>?_;obtain⟨c,rfl,q1⟩:=q1;cases r1;exact not_of<|yr {.bl<|!c,H1,I1,rfl,q1}
def tIf(t:TT)(ta tb:TE):TE:=λσ H Q=>t σ H λc H1=>if c=true then ta σ H1 Q else tb σ H1 Q
theorem Ge(hc:PT X c tA)(ha:PE X a ta)(hb:PE X b tb):PE X (.IfExp c a b pos) (tIf tA ta tb):=by intro pins s σ H Q I h;refine wpAny_IfExp<|bf (hc pins s σ H _ I h) λd s1 ⟨H1,I1,q1⟩=>?_;cases d with|true=>exact ha pins s1 σ H1 Q I1 q1|false=>exact hb pins s1 σ H1 Q I1 q1
end
def iQ(K:Frag)(H:Hp)(a:Addr)(xs:List V):Prop:=Rd H a (.lst xs)\/∃(o:Obj)(au:Array Value)(n:Nat),K.lookup a=some o/\o.cls=.type "list"/\o.dict=none/\o.data=.seq au n/\au.size<=sizeLine/\Vals xs au.toList
def iu(K:Frag)(H:Hp)(a:Addr)(xs:List V):Prop:=Rd H a (.tup xs)\/∃(o:Obj)(au:Array Value)(n:Nat),K.lookup a=some o/\o.cls=.type "tuple"/\o.data=.seq au n/\au.size<=sizeLine/\Vals xs au.toList
noncomputable def WN:Value->Option V|.none=>some .ax|.bool b=>some (.bl b)|.int i _=>some (.int i)|.str x _=>some (.str x)|.bytes b _=>some (.B8 b)|.float b _=>some (.Nx b)|.ref a=>some (.ref a)|.type n=>some (.ty n)|_=>none
theorem RelV.abs(r:RelV x u):WN u=some x:=by cases x with|ax=>(cases r;rfl)|bl _=>(cases r;rfl)|int _=>(obtain⟨t,rfl⟩:=r;rfl)|str _=>(obtain⟨t,rfl⟩:=r;rfl)|B8 _=>(obtain⟨t,rfl⟩:=r;rfl)|Nx _=>(obtain⟨t,rfl⟩:=r;rfl)|ref _=>(cases r;rfl)|ty _=>cases r;rfl
theorem RelV.inj(r:RelV x u)(q:RelV y u):x=y:=zO<|r.abs.symm.trans q.abs
theorem Vals.inj:∀{xs ys:List V}{us:List Value},Vals xs us->Vals ys us->xs=ys|_,_,_,.nil,.nil=>rfl|_,_,_,.cons r t,.cons r' t'=>by rw[r.inj r',Vals.inj t t']
section
variable{X:Cx}{pins:List (Addr×Obj)}{σ:St}{H:Hp}{s:Shared}{a:Addr}{xs ys:List V}
theorem iQ.of{K:Frag}(h:H a=some (.lst xs)):iQ K H a xs:=.inl<|.inl h
theorem iu.of{K:Frag}(h:H a=some (.tup xs)):iu K H a xs:=.inl<|.inl h
theorem Inv.list(I:Inv X pins σ H s)(h:iQ X.K H a xs):∃au:List Value,Vals xs au/\PlainL s.heap a au.toArray/\xs.length<=sizeLine:=by rcases h with h|⟨o,au,n,hk,hc,hd,hs,hz,r⟩;obtain⟨z,au,n,r,e⟩:=h.ok I.aM;exact{au,r,{_,n,e,rfl,rfl,rfl},z};refine{au.toList,r,{o,n,I.oi a o hk,hc,hd,by simpa using hs},?_};have e:=r.length;simp only[yn]at e;lia
theorem Inv.tuple(I:Inv X pins σ H s)(h:iu X.K H a xs):∃au:List Value,Vals xs au/\IsTup s.heap a au.toArray/\xs.length<=sizeLine:=by rcases h with h|⟨o,au,n,hk,hc,hs,hz,r⟩;obtain⟨z,au,r,p⟩:=h.ok I.aM;exact⟨au,r,p.tup,z⟩;refine{au.toList,r,{o,I.oi a o hk,hc,n,by simpa using hs},?_};have e:=r.length;simp only[yn]at e;lia
theorem Inv.wo(I:Inv X pins σ H s)(h:iQ X.K H a xs)(h':iQ X.K H a ys):xs=ys:=by
 obtain⟨au,r,⟨o,n,e,_,_,d⟩,_⟩:=I.list h;obtain⟨its',r',⟨o',n',e',_,_,d'⟩,_⟩:=I.list h';rw[e]at e';cases e';rw[d]at d';injection d' with d1 _;have:au=its':=by simpa using congrArg Array.toList d1
 subst this;exact r.inj r'
theorem Inv.mY(I:Inv X pins σ H s)(h:iu X.K H a xs)(h':iu X.K H a ys):xs=ys:=by
 obtain⟨au,r,⟨o,e,_,n,d⟩,_⟩:=I.tuple h;obtain⟨its',r',⟨o',e',_,n',d'⟩,_⟩:=I.tuple h';rw[e]at e';cases e';rw[d]at d';injection d' with d1 _;have:au=its':=by simpa using congrArg Array.toList d1
 subst this;exact r.inj r'
end
noncomputable abbrev Cx.abb(X:Cx)(E:Value->Shared->Prop):Cx:={X with xe:=E}
section
variable{X:Cx}{st:Stmt}{rest:List Stmt}{t u:TS}{e:Expr}{te:TE}{pos:Pos}
def RA:TS:=λD σ H=>D.nx σ H
def WO(t u:TS):TS:=λD σ H=>t {D with nx:=u D} σ H
theorem JI:B9 X [] RA:=λ_ _ σ H _ I h=>wpAny_execs_nil ⟨σ,H,I,h⟩
theorem Gf(h1:PS X st t)(h2:B9 X rest u):B9 X (st::rest) (WO t u):=by intro pins s σ H D I h;refine wpAny_execs_cons<|bf (h1 pins s σ H {D with nx:=u D} I h) λf s1 q=>?_;cases f with|next=>(obtain⟨aJ,H',I',q⟩:=q;exact h2 pins s1 aJ H' D I' q)|ret v=>exact q|brk=>exact q|cont=>exact q
theorem JJ(h1:PS X st t):B9 X [st] t:=by intro pins s σ H D I h;refine wpAny_execs_cons<|bf (h1 pins s σ H D I h) λf s1 q=>?_;cases f with|next=>exact wpAny_execs_nil q|ret v=>exact q|brk=>exact q|cont=>exact q
theorem Inv.quiet(I:Inv X pins σ H s):interactive X.env=false:=by simp[interactive,I.ok.kind]
def RB(te:TE):TS:=λD σ H=>te σ H λ_ H1=>D.nx σ H1
theorem JK(he:PE X e te)(hs:autoParam (swapsWith e none pos.line X.env=pure false) qQJ):PS X (.Expr e pos) (RB te):=by intro pins s σ H D I h;exact wpAny_Expr_any (bf (he pins s σ H _ I h) <| by rintro v s1 ⟨x,H1,I1,r1,q1⟩;exact⟨σ,H1,I1,q1⟩) I.quiet hs
def WQ(te:TE):TS:=λD σ H=>te σ H D.rt
theorem NM(he:PE X e te):PS X (.Return (some e) pos) (WQ te):=by intro pins s σ H D I h;exact wpAny_Return_some<|bf (he pins s σ H _ I h) <| by rintro v s1 ⟨x,H1,I1,r1,q1⟩;exact⟨x,σ,H1,I1,r1,q1⟩
def RC:TS:=λD _ H=>D.rt .ax H
theorem JL:PS X (.Return none pos) RC:=λ_ _ σ H _ I h=>wpAny_Return_none {.ax,σ,H,I,rfl,h}
def WR(c:TT)(t u:TS):TS:=λD σ H=>c σ H λb H1=>if b=true then t D σ H1 else u D σ H1
theorem RD(hc:PT X c tc)(ha:B9 X a t)(hb:B9 X b u):PS X (.If c a b pos) (WR tc t u):=by intro pins s σ H D I h;refine wpAny_If<|bf (hc pins s σ H _ I h) λd s1 ⟨H1,I1,q1⟩=>?_;cases d with|true=>exact ha pins s1 σ H1 D I1 q1|false=>exact hb pins s1 σ H1 D I1 q1
end
abbrev TG:=V->St->Hp->(St->Hp->Prop)->Prop
abbrev Mi:=List V->St->Hp->(St->Hp->Prop)->Prop
def PG(X:Cx)(target:Expr)(t:TG):Prop:=∀(pins:List (Addr×Obj))(s:Shared)(σ:St)(H:Hp)(v:V)(u:Value)(Q:St->Hp->Prop),Inv X pins σ H s->RelV v u->t v σ H Q->wpAny (model X.prog X.w) X.A (assign target X.env u) (λ_ s'=>∃aJ H',Inv X pins aJ H' s'/\Q aJ H') X.xe s
def Mj(X:Cx)(ts:List Expr)(t:Mi):Prop:=∀(pins:List (Addr×Obj))(s:Shared)(σ:St)(H:Hp)(vs:List V)(us:List Value)(Q:St->Hp->Prop),Inv X pins σ H s->Vals vs us->t vs σ H Q->wpAny (model X.prog X.w) X.A (assignInOrder ((assignEach ts X.env).map (·.2)) us) (λ_ s'=>∃aJ H',Inv X pins aJ H' s'/\Q aJ H') X.xe s
abbrev NN:=V->V->V->Hp->(Hp->Prop)->Prop
def RE(X:Cx)(t:NN):Prop:=∀(pins:List (Addr×Obj))(s:Shared)(σ:St)(H:Hp)(o i v:V)(ov iv u:Value)(Q:Hp->Prop),Inv X pins σ H s->RelV o ov->RelV i iv->RelV v u->t o i v H Q->wpAny (model X.prog X.w) X.A (setItem ov iv u) (λ_ s'=>∃H',Inv X pins σ H' s'/\Q H') X.xe s
abbrev WS:=V->V->Hp->VK->Prop
def ZR(X:Cx)(op:Operator)(t:WS):Prop:=∀(pins:List (Addr×Obj))(s:Shared)(σ:St)(H:Hp)(x y:V)(v u:Value)(Q:VK),Inv X pins σ H s->RelV x v->RelV y u->t x y H Q->wpAny (model X.prog X.w) X.A (inplaceOp op v u) (EP X pins σ Q) X.xe s
section
variable{X:Cx}{pos:Pos}
def gr(i:Nat):TG:=λv σ H Q=>Q (σ.set i<|some v) H
theorem lF(hN:X.N.Nodup)(hi:X.N[i]?=some x)(hx:Loc X.env.scope x)(hf:autoParam (X.fn x=true\/X.env.scope.names.lookup x=some .local) qQ6):PG X (.Name x pos) (gr i):=by intro pins s σ H v u Q I r h;exact wpAny_assign_Name<|pW I hN hi hx r (λs' I'=>{_,H,I',h}) hf
def JM:Mi:=λvs σ H Q=>vs=[]/\Q σ H
def pX(t:TG)(u:Mi):Mi:=λvs σ H Q=>∃v r,vs=v::r/\t v σ H λaJ H'=>u r aJ H' Q
theorem Cb:Mj X [] JM:=by intro pins s σ H vs us Q I r h;obtain⟨e,h⟩:=h;subst e;cases r;exact assignInOrder_nil ⟨σ,H,I,h⟩
theorem pY{t:TG}(h1:PG X e t)(h2:Mj X es u) (hs:autoParam ((assignEach (e::es) X.env).map (·.2)=assign e X.env::(assignEach es X.env).map (·.2)) qQJ):Mj X (e::es) (pX t u):=by intro pins s σ H vs us Q I r h;obtain⟨v,vr,e1,h⟩:=h;subst e1;cases r with|cons r rr=>rw[hs];refine assignInOrder_cons<|bf (h1 pins s σ H _ _ _ I r h) λ_ s1 ⟨wd,H1,I1,q1⟩=>?_;exact h2 pins s1 wd H1 _ _ Q I1 rr q1
def JN(K:Frag)(n:Nat)(t:Mi):TG:=λv σ H Q=>∃a xs,v=.ref a/\iu K H a xs/\xs.length=n/\t xs σ H Q
theorem Gg{t:Mi}(hc:X.calm=true)(h:Mj X es t) (hn:autoParam ((assignEach es X.env).length=n) qQJ) (wq:autoParam ((assignEach es X.env).findIdx? (·.1)=none) qQJ):PG X (.Tuple es k pos) (JN X.K n t):=by intro pins s σ H v u Q I r hw;obtain⟨a,xs,e1,hq,hl,hw⟩:=hw;subst e1;cases r;obtain⟨au,rv,ht,hz⟩:=I.tuple hq;refine assign_Tuple_tuple (I.ok.hd hc) ht (by simp[hn,<-hl,rv.length]) wq λh' hx=>?_;have I1:Inv X pins σ H {s with heap:=h'}:=I.kept (t':=s.toks) λb o e=>hx b o (zu<|zr e) e;exact h pins _ σ H xs _ Q I1 (by simpa using rv) hw
def WT(to ti:TE)(t:NN):TG:=λv σ H Q=>to σ H λo H1=>ti σ H1 λi H2=>t o i v H2 λH3=>Q σ H3
theorem NO{t:NN}(ho:PE X o to)(hi:PE X i ti)(hs:RE X t)
  (ha:autoParam (∀v,assign (.Subscript o i pos) X.env v=(do
   let ov <-holding [v] (eval o X.env)
   let iv <-holding [v,ov] (eval i X.env)
   standAt pos
   holding [v,ov,iv] (setItem ov iv v)
   release [v,ov,iv] [])) qQ0):PG X (.Subscript o i pos) (WT to ti t):=by
 intro pins s σ H v u Q I r h
 rw[ha]
 refine zc<|yG<|bf (ho pins s σ H _ I h) λov s1 ⟨x,H1,I1,r1,q1⟩=>?_
 refine zc<|yG<|bf (hi pins s1 σ H1 _ I1 q1) λiv s2 ⟨y,H2,I2,r2,q2⟩=>?_
 refine zc<|wpAny_standAt<|zc<|yG<|bf (hs pins s2 σ H2 x y v ov iv u _ I2 r1 r2 r q2) λ_ s3 ⟨H3,I3,q3⟩=>?_
 exact wpAny_release ⟨σ,H3,I3,q3⟩
def NP(te:TE)(g:TG):TS:=λD σ H=>te σ H λx H1=>g x σ H1 D.nx
theorem Gi(he:PE X e te)(hg:PG X tg g)(hs:autoParam (swapsWithSole [tg] e pos.line X.env=pure false) qQJ)(hw:autoParam (swappedStores [tg] e X.env=pure none) qQJ) (h1:autoParam ((assignEach [tg] X.env).map (·.2)=[assign tg X.env]) qQJ):PS X (.Assign [tg] e pos) (NP te g):=by intro pins s σ H D I h;refine wpAny_Assign_stores (bf (he pins s σ H _ I h) λv s1 ⟨x,H1,I1,r1,q1⟩=>?_) hs hw;rw[h1];exact bf (hg pins s1 σ H1 x v _ I1 r1 q1) λ_ s2 q=>q
theorem NQ(hN:X.N.Nodup)(hi:X.N[i]?=some x)(hx:Loc X.env.scope x)(he:PE X e te)(hs:autoParam (swapsWith e (some<|.Name x pos') pos.line X.env=pure false) qQJ)(hf:autoParam (X.fn x=true\/X.env.scope.names.lookup x=some .local) qQ6): PS X (.Assign [.Name x pos'] e pos) (NP te<|gr i):=by intro pins s σ H D I h;refine wpAny_Assign_Name (bf (he pins s σ H _ I h) λv s1 ⟨y,H1,I1,r1,q1⟩=>?_) hs;exact pW I1 hN hi hx r1 (λs2 I2=>{_,H1,I2,q1}) hf
def WU(i:Nat)(te:TE)(ti:WS):TS:=λD σ H=>∃x,σ[i]?=some (some x)/\te σ H λy H1=>ti x y H1 λz H2=>D.nx (σ.set i<|some z) H2
theorem NR(hN:X.N.Nodup)(hi:X.N[i]?=some x)(hx:Loc X.env.scope x)(he:PE X e te)(ho:ZR X op ti)(hf:autoParam (X.fn x=true\/X.env.scope.names.lookup x=some .local) qQ6): PS X (.AugAssign (.Name x pos') op e pos) (WU i te ti):=by
 intro pins s σ H D I h;obtain⟨v,e1,h⟩:=h;obtain⟨m,hn,hl⟩:=I.loc;have vis:Md X.env.scope x:=by rcases hx with k|k;exact .inl k;exact .inr<|.inl k
 obtain⟨u,r,l⟩:=hl i x v hi e1 vis;refine wpAny_AugAssign_Name ?_;have go:wpAny (model X.prog X.w) X.A (eval e X.env) (λw aN=>wpAny (model X.prog X.w) X.A (inplaceOp op u w) (λr uv=>wpAny (model X.prog X.w) X.A (storeName X.env x r) (λ_=>SP X pins D .next) X.xe uv) X.xe aN) X.xe s:=by refine bf (he pins s σ H _ I h) λw s1 ⟨y,H1,I1,r1,q1⟩=>?_;refine bf (ho pins s1 σ H1 v y u w _ I1 r r1 q1) λz s2 ⟨zv,H2,I2,r2,q2⟩=>?_;exact pW I2 hN hi hx r2 (λs3 I3=>{_,H2,I3,q2}) hf
 rcases l with⟨hk,hm⟩|⟨hk,c,hc,B_⟩;exact wpAny_loadName_local I.ok.kind hk hn hm go;rcases hk with hk|hk;exact wpAny_loadName_cell I.ok.kind hk hc B_ go;rcases hx with k|k;have:X.env.scope.names.lookup x=some .free:=hk;rw[k]at this;cases this;have:X.env.scope.names.lookup x=some .free:=hk;rw[k]at this;cases this
def ipI(f:Int->Int->Int):WS:=λx y H Q=>∃i j,x=.int i/\y=.int j/\Q (.int<|f i j) H
theorem NS:ZR X .Add (ipI λi j=>i+j):=by intro pins s σ H x y v u Q I r1 r2 h;obtain⟨i,j,e1,e2,q⟩:=h;subst e1;subst e2;obtain⟨t,rfl⟩:=r1;obtain⟨t',rfl⟩:=r2;exact iadd_int {.int _,H,I.tok _,{_,rfl},q}
def NT(c:TT)(tb:TS):TS:=λD σ H=>∃W:Nat->St->Hp->Prop,(∃m,W m σ H)/\∀m σ H,W m σ H->c σ H λb H1=>if b=true then ∃N:St->Hp->Prop,(∀aJ H',N aJ H'->∃m',m'<m/\W m' aJ H')/\tb {D with nx:=N,ct:=N,bk:=D.nx} σ H1 else D.nx σ H1
theorem Gj(hp:PassesOwn (model X.prog X.w) X.A X.env X.xe)(hc:PT X c tc)(hb:B9 X body tb):PS X (.While c body [] pos) (NT tc tb):=by intro pins s σ H D I h;obtain⟨W,⟨m0,w0⟩,turn⟩:=h;refine wpAny_While<|codeAny_whileLoop (λn s'=>∃aJ H',Inv X pins aJ H' s'/\W n aJ H') ?_ m0 ⟨σ,H,I,w0⟩;rintro n s1 ⟨wd,H1,I1,w1⟩;refine wpAny_passesOwn hp<|bf (hc pins s1 wd H1 _ I1<|turn n wd H1 w1) λb s2 ⟨H2,I2,q2⟩=>?_;cases b with|true=>(obtain⟨N,hN,q2⟩:=q2;rw[if_pos rfl];refine wpAny_passesOwn hp<|bf (hb pins s2 wd H2 _ I2 q2) λf s3 q3=>?_;cases f with|next=>(obtain⟨eM,H3,I3,n3⟩:=q3;obtain⟨m',hm,w3⟩:=hN eM H3 n3;exact⟨m',hm,eM,H3,I3,w3⟩)|cont=>(obtain⟨eM,H3,I3,n3⟩:=q3;obtain⟨m',hm,w3⟩:=hN eM H3 n3;exact⟨m',hm,eM,H3,I3,w3⟩)|brk=>exact q3|ret v=>exact q3)|false=>rw[if_neg zd];exact wpAny_execs_nil ⟨wd,H2,I2,q2⟩
end
structure It where
 go:Nat->Hp->Prop
 QN:Nat->Hp->V->Hp->Prop
 stop:Nat->Hp->Prop
def oY(X:Cx)(pins:List<|Addr×Obj)(H:Hp)(b:Addr):Prop:=H b=none/\b≠X.env.locals/\b∉X.fs/\(b∈X.ex\/X.cI.heap.objs.size<=b)/\(∀x c,X.env.cells.lookup x=some c->c≠b)/\∀p∈X.pn++pins,p.1≠b
theorem Inv.jO(I:Inv X pins σ H s)(hb:s.heap.objs.size<=b)(hn:H' b=none):oY X pins H' b:=by refine{hn,yg<|zg I.lt hb,I.Rr hb,.inr<|zH I.sz hb,λx c e z=>?_,λp hp z=>?_};obtain⟨v,q⟩:=I.cell x c e;exact absurd (zg q.lt<|by rw[z];exact hb)<|yj _;exact absurd (zg (zr (I.pin p hp).1)<|by rw[z];exact hb)<|yj _
structure Turn(P:Program)(w:World)(K:Frag)(tg:Expr)(J:It)(fp:List Addr)(it:Addr)(tn:Nat->Heap->Prop):Prop where
 mem:it∈fp
 obj:∀i h,tn i h->∀b∈fp,∃o,h.get? b=some o/\∀v,o.data≠.cell v
 keep:∀i h h',tn i h->(∀b∈fp,∀o,h.get? b=some o->h'.get? b=some o)->tn i h'
 item:∀(X:Cx),X.prog=P->X.w=w->X.K=K->X.calm=true->∀(i:Nat)(pins:List (Addr×Obj))(s:Shared)(σ:St)(H:Hp)(E:Value->Shared->Prop),Inv X pins σ H s->(∀b∈fp,oY X pins H b)->tn i s.heap->J.go i H ->
  wpAny (model P w) X.A (pyNext<|.ref it) (λr s1=>∃u,r=some u /\
   wpAny (model P w) X.A (letOwnedTupleGo tg (.ref it) u) (λ_ s2=>∃x H',Inv X pins σ H' s2/\RelV x u/\J.QN i H x H'/\tn (i+1) s2.heap/\∀b∈fp,H' b=none) E s1) E s
 done:∀(X:Cx),X.prog=P->X.w=w->X.K=K->X.calm=true->∀(i:Nat)(pins:List (Addr×Obj))(s:Shared)(σ:St)(H:Hp)(E:Value->Shared->Prop),Inv X pins σ H s->(∀b∈fp,oY X pins H b)->tn i s.heap->J.stop i H ->
  wpAny (model P w) X.A (pyNext<|.ref it) (λr s1=>r=none/\Inv X pins σ H s1) E s
 self:∀(A:Around)(i:Nat)(s:Shared)(Q:Value->Shared->Prop)(E:Value->Shared->Prop),tn i s.heap->Q (.ref it) s->wpAny (model P w) A (pyIter<|.ref it) Q E s
abbrev TI:=St->Hp->(It->Hp->Prop)->Prop
def WV(X:Cx)(pins:List<|Addr×Obj)(σ:St)(tg:Expr)(R:It->Hp->Prop)(RF:Value)(s2:Shared):Prop:=∃(it:Addr)(fp:List Addr)(tn:Nat->Heap->Prop)(J:It)(H':Hp),RF=.ref it/\Inv X pins σ H' s2/\Turn X.prog X.w X.K tg J fp it tn/\tn 0 s2.heap/\(∀b∈fp,oY X pins H' b)/\R J H'
def PI(X:Cx)(tg iter:Expr)(wi:TI):Prop:=∀(pins:List (Addr×Obj))(s:Shared)(σ:St)(H:Hp)(R:It->Hp->Prop),Inv X pins σ H s->wi σ H R->wpAny (model X.prog X.w) X.A (eval iter X.env) (λv s1=>wpAny (model X.prog X.w) X.A (pyIter v) (WV X pins σ tg R) X.xe s1) X.xe s
theorem tq(ho:s.heap.get? it=some o)(hc:o.cls=.type n)(hd:o.data=.fields vs) (hn:["enumerate","zip","dict_itemiterator","dict_reverseitemiterator","odict_iterator","itertools.zip_longest","itertools.pairwise"].contains n=false) (hQ:Q () s):wpAny M A (letOwnedTupleGo tg (.ref it) u) Q E s:=by
 unfold letOwnedTupleGo
 cases tg<;>first
  |exact zA hQ
  | (cases u<;>first
    |exact zA hQ
    | (refine zc (wpAny_load ho ?_)
       rw[hc,hd]
       show wpAny M A (if (["enumerate","zip","dict_itemiterator","dict_reverseitemiterator","odict_iterator","itertools.zip_longest","itertools.pairwise"].contains n&&vs[0]?==some (rawInt _))=true then _ else _) Q E s
       rw[if_neg<|by intro h;rw[hn,zU]at h;cases h]
       exact zA hQ))
def ZS(K:Frag)(a:Addr):It:={λi H=>∃xs x,iQ K H a xs/\xs[i]?=some x,λi H x H'=>H'=H/\∀xs,iQ K H a xs->xs[i]?=some x,λi H=>∃xs,iQ K H a xs/\xs.length<=i}
def ZT(K:Frag)(a:Addr):It:={λi H=>∃xs x,iu K H a xs/\xs[i]?=some x,λi H x H'=>H'=H/\∀xs,iu K H a xs->xs[i]?=some x,λi H=>∃xs,iu K H a xs/\xs.length<=i}
noncomputable def RG(lo:Int)(n:Nat):It:={λi _=>i<n,λi H x H'=>H'=H/\x=.int (lo+i),λi _=>n<=i}
theorem D2{P:Program}{w:World}{K:Frag}{tg:Expr}(a it:Addr):Turn P w K tg (ZS K a) [it] it (λi h=>h.IsListIter it a i) where
 mem:=by simp
 obj:=λi h st b hb=>by
  have e:b=it:=by simpa using hb
  subst e
  obtain⟨o,e,c,d⟩:=st
  exact{o,e,λv z=>by rw[d]at z;cases z}
 keep:=λi h h' st k=>st.at λo e=>k it (by simp) o e
 item:=by
  intro X hP hw hK hc i pins s σ H E I hf st hg
  subst hP hw hK
  obtain⟨xs,x,hq,hx⟩:=hg
  obtain⟨au,rv,p,hz⟩:=I.list hq
  obtain⟨u,hu,ru⟩:=rv.get hx
  obtain⟨f0,f1,f2,f3,f4,f5⟩:=hf it<|by simp
  refine wpAny_pyNext_list_item st p.isList (x:=u) (by simpa using hu) λh' dW sb=>?_
  have I1:Inv X pins σ H {s with heap:=h'}:=I.turned (t':=s.toks) (λb o hb e=>(sb.2 b hb).trans e) f0 f1 f3 f4 f5
  obtain⟨o,e,c,d⟩:=id dW
  exact{u,rfl,tq (s:={s with heap:=h'}) e c d (by decide) {x,H,I1,ru,{rfl,λys hy=>by rw[I.wo hy hq];exact hx},dW,λb hb=>(hf b hb).1}}
 done:=by
  intro X hP hw hK hc i pins s σ H E I hf st hg
  subst hP hw hK
  obtain⟨xs,hq,hx⟩:=hg
  obtain⟨au,rv,p,hz⟩:=I.list hq
  obtain⟨f0,f1,f2,f3,f4,f5⟩:=hf it<|by simp
  have hl:=rv.length
  exact wpAny_pyNext_list_end (I.ok.hd hc) st p.isList (by simp;lia) λh' eb=>{rfl,I.turned (t':=s.toks) (λb o hb e=>eb b o hb e) f0 f1 f3 f4 f5}
 self:=λ_ _ _ _ _ st h=>wpAny_pyIter_listiter st h
theorem Af{P:Program}{w:World}{K:Frag}{tg:Expr}(a it:Addr):Turn P w K tg (ZT K a) [it] it (λi h=>h.IsTupleIter it a i) where
 mem:=by simp
 obj:=λi h st b hb=>by
  have e:b=it:=by simpa using hb
  subst e
  obtain⟨o,e,c,d⟩:=st
  exact{o,e,λv z=>by rw[d]at z;cases z}
 keep:=λi h h' st k=>st.at λo e=>k it (by simp) o e
 item:=by
  intro X hP hw hK hc i pins s σ H E I hf st hg
  subst hP hw hK
  obtain⟨xs,x,hq,hx⟩:=hg
  obtain⟨au,rv,p,hz⟩:=I.tuple hq
  obtain⟨u,hu,ru⟩:=rv.get hx
  obtain⟨f0,f1,f2,f3,f4,f5⟩:=hf it<|by simp
  refine wpAny_pyNext_tuple_item st (show s.heap.IsTuple a au.toArray from p) (x:=u) (by simpa using hu) λh' dW sb=>?_
  have I1:Inv X pins σ H {s with heap:=h'}:=I.turned (t':=s.toks) (λb o hb e=>(sb.2 b hb).trans e) f0 f1 f3 f4 f5
  obtain⟨o,e,c,d⟩:=id dW
  exact{u,rfl,tq (s:={s with heap:=h'}) e c d (by decide) {x,H,I1,ru,{rfl,λys hy=>by rw[I.mY hy hq];exact hx},dW,λb hb=>(hf b hb).1}}
 done:=by
  intro X hP hw hK hc i pins s σ H E I hf st hg
  subst hP hw hK
  obtain⟨xs,hq,hx⟩:=hg
  obtain⟨au,rv,p,hz⟩:=I.tuple hq
  obtain⟨f0,f1,f2,f3,f4,f5⟩:=hf it<|by simp
  have hl:=rv.length
  exact wpAny_pyNext_tuple_end (I.ok.hd hc) st (show s.heap.IsTuple a au.toArray from p) (by simp;lia) λh' eb=>{rfl,I.turned (t':=s.toks) (λb o hb e=>eb b o hb e) f0 f1 f3 f4 f5}
 self:=λ_ _ _ _ _ st h=>wpAny_pyIter_tupleiter st h
theorem Ag{P:Program}{w:World}{K:Frag}{tg:Expr}(it:Addr)(lo:Int)(n:Nat):Turn P w K tg (RG lo n) [it] it (λi h=>IsRangeIter h it (lo+(i:Nat)*1) ((n:Int)-(i:Nat)) 1) where
 mem:=by simp
 obj:=λi h st b hb=>by
  have e:b=it:=by simpa using hb
  subst e
  exact⟨_,st,λv z=>by
   have z':Data.fields _=Data.cell v:=z
   cases z'⟩
 keep:=λi h h' st k=>k it (by simp) _ st
 item:=by
  intro X hP hw hK hc i pins s σ H E I hf st hg
  subst hP hw hK
  obtain⟨f0,f1,f2,f3,f4,f5⟩:=hf it<|by simp
  have W:=Walks.range (prog:=X.prog) (w:=X.w) (I.ok.hd hc) it lo 1 n
  refine W.item i s _ _ hg st λv h' tk hv dW kk=>?_
  obtain⟨t,rfl⟩:=hv
  have I1:Inv X pins σ H {s with heap:=h',toks:=tk}:=I.turned (λb o hb e=>kk b o (by simpa using hb) e) f0 f1 f3 f4 f5
  refine{_,rfl,tq (s:={s with heap:=h',toks:=tk}) (n:="range_iterator") dW rfl rfl (by decide) {.int<|lo+i,H,I1,{t,?_},⟨rfl,rfl⟩,dW,λb hb=>(hf b hb).1}}
  rw[Int.mul_one]
 done:=by
  intro X hP hw hK hc i pins s σ H E I hf st hg
  subst hP hw hK
  obtain⟨f0,f1,f2,f3,f4,f5⟩:=hf it<|by simp
  exact wpAny_pyNext_range_end (I.ok.hd hc) st (by have:n<=i:=hg;lia) λh' eb=>{rfl,I.turned (t':=s.toks) (λb o hb e=>eb b o hb e) f0 f1 f3 f4 f5}
 self:=λ_ _ _ _ _ st h=>wpAny_pyIter_rangeiter st h
section
variable{X:Cx}{tg:Expr}
def RH(K:Frag)(tl:TE):TI:=λσ H R=>tl σ H λx H1=>∃a,x=.ref a/\(∃xs,iQ K H1 a xs)/\R (ZS K a) H1
def WW(K:Frag)(tl:TE):TI:=λσ H R=>tl σ H λx H1=>∃a,x=.ref a/\(∃xs,iu K H1 a xs)/\R (ZT K a) H1
theorem JO{l:Expr}{tl:TE}(hl:PE X l tl):PI X tg l (RH X.K tl):=by
 intro pins s σ H R I h;refine bf (hl pins s σ H _ I h) λv s1 ⟨x,H1,I1,r1,q1⟩=>?_;obtain⟨a,e,⟨xs,hq⟩,q⟩:=q1;subst e;cases r1;obtain⟨au,rv,p,hz⟩:=I1.list hq;refine wpAny_pyIter_list p.isList ?_;refine{s1.heap.objs.size,[s1.heap.objs.size],_,_,H1,rfl,I1.kept (t':=s1.toks) λb o e=>za _ e,D2 a _,{_,zm _ rfl,rfl,rfl},λb hb=>?_,q};have e:b=s1.heap.objs.size:=by simpa using hb
 subst e;exact I1.jO (zp _)<|I1.aM.fresh<|zp _
theorem NU{l:Expr}{tl:TE}(hl:PE X l tl):PI X tg l (WW X.K tl):=by
 intro pins s σ H R I h;refine bf (hl pins s σ H _ I h) λv s1 ⟨x,H1,I1,r1,q1⟩=>?_;obtain⟨a,e,⟨xs,hq⟩,q⟩:=q1;subst e;cases r1;obtain⟨au,rv,p,hz⟩:=I1.tuple hq;refine wpAny_pyIter_tuple (show s1.heap.IsTuple a au.toArray from p) ?_;refine{s1.heap.objs.size,[s1.heap.objs.size],_,_,H1,rfl,I1.kept (t':=s1.toks) λb o e=>za _ e,Af a _,{_,zm _ rfl,rfl,rfl},λb hb=>?_,q};have e:b=s1.heap.objs.size:=by simpa using hb
 subst e;exact I1.jO (zp _)<|I1.aM.fresh<|zp _
theorem wu{pins:List<|Addr×Obj}{σ:St}{H:Hp}{s:Shared}{R:It->Hp->Prop}{E:Value->Shared->Prop}{lo hi:Int}{t u v:Tok}{tk:Nat}(I:Inv X pins σ H s)(h1:-(2^62)<=lo)(h2:lo<2^62)(h3:-(2^62)<=hi)(h4:hi<2^62) (q:R (RG lo (hi-lo).toNat) H):wpAny (model X.prog X.w) X.A (pyIter<|.ref s.heap.objs.size) (WV X pins σ tg R) E {s with heap:=s.heap.push {cls:=.type "range",data:=.fields #[.int lo t,.int hi u,.int 1 v]},toks:=tk}:=by
 refine wpAny_pyIter_range (IsRange.new ..) (small_one h1 h2 h3 h4) ?_;have I1:Inv X pins σ H {s with heap:=s.heap.push {cls:=.type "range",data:=.fields #[.int lo t,.int hi u,.int 1 v]},toks:=tk}:=I.kept λb o e=>za _ e;refine{(s.heap.push {cls:=.type "range",data:=.fields #[.int lo t,.int hi u,.int 1 v]}).objs.size,[(s.heap.push {cls:=.type "range",data:=.fields #[.int lo t,.int hi u,.int 1 v]}).objs.size],_,_,H,rfl,I1.kept (t':=tk) λb o e=>za _ e,Ag _ lo (hi-lo).toNat,?_,λb hb=>?_,q};have e1:lo+((0:Nat):Int)*1=lo:=by simp
 have e2:(((hi-lo).toNat:Nat):Int)-((0:Nat):Int)=Builtin.Range.rangeSize lo hi 1:=by rw[rangeSize_one];split<;>lia
 show IsRangeIter _ _ (lo+((0:Nat):Int)*1) ((((hi-lo).toNat:Nat):Int)-((0:Nat):Int)) 1;rw[e1,e2];exact zm _ rfl;have e:b=(s.heap.push {cls:=.type "range",data:=.fields #[.int lo t,.int hi u,.int 1 v]}).objs.size:=by simpa using hb
 subst e;exact I1.jO (zp _)<|I1.aM.fresh<|zp _
def RJ(ta:TA):TI:=λσ H R=>ta σ H λvs H1=>∃j:Int,vs=[.int j]/\-(2^62)<=j/\j<2^62/\R (RG 0 j.toNat) H1
def RK(ta:TA):TI:=λσ H R=>ta σ H λvs H1=>∃i j:Int,vs=[.int i,.int j]/\(-(2^62)<=i/\i<2^62/\-(2^62)<=j/\j<2^62)/\R (RG i (j-i).toNat) H1
theorem D3{a:Expr}{ta:TA}{p pos:Pos}(hg:Gl X "range")(hm:X.mg "range"= none)(ha:PA X [a] ta)(hs:autoParam (starEach [a] X.env=[(false,eval a X.env)]) qQJ):PI X tg (.Call (.Name "range" p) [a] [] pos) (RJ ta):=by intro pins s σ H R I h;refine Call_<|eS I hg hm boot_range<|PyProof.Rows.callWith_type1 (bf (ha pos pins s σ H _ I h) λus s1 ⟨vs,H1,I1,r1,q1⟩=>?_) hs rfl;obtain⟨j,e,q1,q2,q⟩:=q1;subst e;cases r1 with|cons r rr=>cases rr;obtain⟨t,rfl⟩:=r;exact call_range_1<|wu I1 (by lia) (by lia) q1 q2<|by simpa using q
theorem D4(hg:Gl X "range")(hm:X.mg "range"= none)(ha:PA X [a,b] ta)(hs:autoParam (starEach [a,b] X.env=[(false,eval a X.env),(false,eval b X.env)]) qQJ)(rX:autoParam (starEach [b] X.env=[(false,eval b X.env)]) qQJ): PI X tg (.Call (.Name "range" p) [a,b] [] pos) (RK ta):=by intro pins s σ H R I h;refine Call_<|eS I hg hm boot_range<|PyProof.Rows.callWith_type1 (bf (ha pos pins s σ H _ I h) λus s1 ⟨vs,H1,I1,r1,q1⟩=>?_) (by rw[hs,rX]) (by rw[rX];rfl);obtain⟨i,j,e,⟨q1,q2,q3,q4⟩,q⟩:=q1;subst e;cases r1 with|cons r rr=>cases rr with|cons r' rr=>cases rr;obtain⟨t,rfl⟩:=r;obtain⟨t',rfl⟩:=r';exact call_range_2<|wu I1 q1 q2 q3 q4 q
def WX(wi:TI)(g:TG)(tb:TS):TS:=λD σ H=>wi σ H λJ H1=>∃W:Nat->Nat->St->Hp->Prop,(∃m,W 0 m σ H1)/\∀i m σ H,W i m σ H->(J.stop i H/\D.nx σ H)\/(J.go i H/\∃N:St->Hp->Prop,(∀aJ H',N aJ H'->∃m',m'<m/\W (i+1) m' aJ H')/\∀x H',J.QN i H x H'->g x σ H' λpL H2=>tb {D with nx:=N,ct:=N,bk:=D.nx} pL H2)
noncomputable def mZ(fp:List Addr)(h:Heap):List (Addr×Obj):=fp.filterMap λb=>(h.get? b).map λo=>(b,o)
theorem dA(hb:b∈fp)(e:h.get? b=some o):(b,o)∈mZ fp h:=List.mem_filterMap.mpr {b,hb,by rw[e];rfl}
theorem D5(hp:p∈mZ fp h):p.1∈fp/\h.get? p.1=some p.2:=by obtain⟨b,hb,e⟩:=List.mem_filterMap.mp hp;cases q:h.get? b with|none=>(rw[q]at e;cases e)|some o=>rw[q]at e;have e':(b,o)=p:=zO e;subst e';exact⟨hb,q⟩
theorem Inv.pinned(I:Inv X pins σ H s)(hf:∀b∈fp,oY X pins H b)(ho:∀b∈fp,∃o,s.heap.get? b=some o/\∀v,o.data≠.cell v):Inv X (pins++mZ fp s.heap) σ H s:=I.fC λp hp=>(zN.mp hp).elim (λz=>I.pin p<|zt _ z) λz=>by obtain⟨hb,e⟩:=D5 z;obtain⟨f0,f1,f2,_⟩:=hf p.1 hb;obtain⟨o,e',d⟩:=ho p.1 hb;rw[e]at e';cases e';exact⟨e,f0,f1,f2,d⟩
theorem Inv.pZ(I:Inv X (pins++pl) σ H s):Inv X pins σ H s:=I.fC λp hp=>I.pin p<|zt _<|zS _ hp
theorem NV(hp:PassesOwn (model X.prog X.w) X.A X.env X.xe)(hc:X.calm=true)(hi:PI X tg iter wi)(hg:PG X tg g)(hb:B9 X body tb) (hs:autoParam (∀x,foldedSetIterable iter X.env x=pure x) qQ0):PS X (.For tg iter body [] pos) (WX wi g tb):=by intro pins s σ H D I h;refine wpAny_For (bf (hi pins s σ H _ I h) λv s1 h1=>bf h1 λRF s2 h2=>?_) hs;obtain⟨it,fp,tn,J,H2,e,I2,T,p5,f2,W,⟨m0,w0⟩,turn⟩:=h2;subst e;have NW:∀{H':Hp},(∀b∈fp,H' b=none)->∀b∈fp,oY X pins H' b:=λhn b hb=>{hn b hb,(f2 b hb).2};refine codeAny_forLoop_any (λn s'=>∃i aJ H',Inv X pins aJ H' s'/\tn i s'.heap/\(∀b∈fp,H' b=none)/\W i n aJ H') ?_ m0 {0,σ,H2,I2,p5,λb hb=>(f2 b hb).1,w0};rintro n s3 ⟨i,eM,H3,I3,Ml,Mm,w3⟩;rcases turn i n eM H3 w3 with⟨stop,qn⟩|⟨go,N,hN,step⟩;refine wpAny_passesOwn hp<|bf (T.done X rfl rfl rfl hc i pins s3 eM H3 X.xe I3 (NW Mm) Ml stop) λr s4 ⟨hr,I4⟩=>?_;subst hr;exact wpAny_execs_nil ⟨eM,H3,I4,qn⟩;{refine wpAny_passesOwn hp<|bf (T.item X rfl rfl rfl hc i pins s3 eM H3 X.xe I3 (NW Mm) Ml go) λr s4 ⟨u,hr,h4⟩=>?_;subst hr;refine wpAny_passesOwn hp<|bf h4 λ_ s5 ⟨x,H5,I5,r5,y5,st5,fr5⟩=>?_;have RL:=I5.pinned (NW fr5)<|T.obj _ _ st5;refine wpAny_passesOwn hp<|bf (hg _ s5 eM H5 x u _ RL r5<|step x H5 y5) λ_ s6 ⟨JP,H6,I6,q6⟩=>?_;refine wpAny_passesOwn hp<|bf (hb _ s6 JP H6 _ I6 q6) λf s7 q7=>?_;have again:∀{Gk:St}{H7:Hp},Inv X (pins++mZ fp s5.heap) Gk H7 s7->N Gk H7->∃m,m<n/\∃i aJ H',Inv X pins aJ H' s7/\tn i s7.heap/\(∀b∈fp,H' b=none)/\W i m aJ H':=λ{Gk H7} I7 n7=>(by obtain⟨m',hm,w7⟩:=hN Gk H7 n7;refine{m',hm,i+1,Gk,H7,I7.pZ,T.keep _ _ _ st5 λb hb o e=>(I7.pin (b,o)<|zt _<|zt _<|dA hb e).1,λb hb=>?_,w7};obtain⟨o,e,d⟩:=T.obj _ _ st5 b hb;exact(I7.pin (b,o)<|zt _<|zt _<|dA hb e).2.1);cases f with|next=>(obtain⟨Gk,H7,I7,n7⟩:=q7;exact again I7 n7)|cont=>(obtain⟨Gk,H7,I7,n7⟩:=q7;exact again I7 n7)|brk=>(obtain⟨Gk,H7,I7,q7⟩:=q7;exact⟨Gk,H7,I7.pZ,q7⟩)|ret v=>obtain⟨x7,Gk,H7,I7,r7,q7⟩:=q7;exact⟨x7,Gk,H7,I7.pZ,r7,q7⟩}
end
abbrev R2:=V->V->Hp->VK->Prop
def gs(X:Cx)(f:Value->Value->Sem Value)(r:R2):Prop:=∀(pins:List (Addr×Obj))(s:Shared)(σ:St)(H:Hp)(x y:V)(v u:Value)(Q:VK),Inv X pins σ H s->RelV x v->RelV y u->r x y H Q->wpAny (model X.prog X.w) X.A (f v u) (EP X pins σ Q) X.xe s
def WY(X:Cx)(f:Value->Sem Value)(r:V->Hp->VK->Prop):Prop:=∀(pins:List (Addr×Obj))(s:Shared)(σ:St)(H:Hp)(x:V)(v:Value)(Q:VK),Inv X pins σ H s->RelV x v->r x H Q->wpAny (model X.prog X.w) X.A (f v) (EP X pins σ Q) X.xe s
def dO(X:Cx)(f:Value)(r:List V->Hp->VK->Prop):Prop:=∀(pins:List (Addr×Obj))(s:Shared)(σ:St)(H:Hp)(xs:List V)(us:List Value)(Q:VK),Inv X pins σ H s->Vals xs us->r xs H Q->wpAny (model X.prog X.w) X.A (call f us) (EP X pins σ Q) X.xe s
def QO(r:R2)(ta tb:TE):TE:=λσ H Q=>ta σ H λx H1=>tb σ H1 λy H2=>r x y H2 Q
def tUn(r:V->Hp->VK->Prop)(ta:TE):TE:=λσ H Q=>ta σ H λx H1=>r x H1 Q
def rI(C:Int->Int->Prop)(g:Int->Int->V):R2:=λx y H Q=>∃i j,x=.int i/\y=.int j/\C i j/\Q (g i j) H
def JQ(g:Int->Int->V):R2:=λx y H Q=>∃i j,x=.int i/\y=.int j/\Q (g i j) H
def rU(g:Int->V):V->Hp->VK->Prop:=λx H Q=>∃i,x=.int i/\Q (g i) H
section
variable{X:Cx}{a b:Expr}{ta tb:TE}{pos:Pos}
theorem NX(ha:PE X a ta)(hb:PE X b tb){pins:List<|Addr×Obj}{s:Shared}{σ:St}{H:Hp}{R:V->V->Hp->Prop}(I:Inv X pins σ H s) (h:ta σ H λx H1=>tb σ H1 λy H2=>R x y H2) {Q:Value->Shared->Prop}{f:Value->Value->Sem Value} (hf:∀v u s2 x y H2,Inv X pins σ H2 s2->RelV x v->RelV y u->R x y H2->wpAny (model X.prog X.w) X.A (f v u) Q X.xe s2): wpAny (model X.prog X.w) X.A (eval a X.env) (λv a_=>wpAny (model X.prog X.w) X.A (eval b X.env) (λu aN=>wpAny (model X.prog X.w) X.A (f v u) Q X.xe aN) X.xe a_) X.xe s:=by refine bf (ha pins s σ H _ I h) λv s1 ⟨x,H1,I1,r1,q1⟩=>?_;refine bf (hb pins s1 σ H1 _ I1 q1) λu s2 ⟨y,H2,I2,r2,q2⟩=>?_;exact hf v u s2 x y H2 I2 r1 r2 q2
theorem RM{op:Operator}{r:R2}(ho:gs X (binaryOp op) r)(ha:PE X a ta)(hb:PE X b tb):PE X (.BinOp a op b pos) (QO r ta tb):=by intro pins s σ H Q I h;exact wpAny_BinOp<|NX ha hb I h λv u s2 x y H2 I2 rx ry q=>ho pins s2 σ H2 x y v u Q I2 rx ry q
theorem RN(ho:WY X (unaryOp op) r)(ha:PE X a ta):PE X (.UnaryOp op a pos) (tUn r ta):=by intro pins s σ H Q I h;exact UnaryOp_<|bf (ha pins s σ H _ I h) <| by rintro v s1 ⟨x,H1,I1,r1,q1⟩;exact ho pins s1 σ H1 x v Q I1 r1 q1
theorem VF{f:Value->Value->Sem Value}{C:Int->Int->Prop}{g:Int->Int->Int} (rule:∀(i j:Int)(t u:Tok)(s:Shared)(Q:Value->Shared->Prop)(E:Value->Shared->Prop),C i j->Q (.int (g i j) s.toks) {s with toks:=s.toks+1}->wpAny (model X.prog X.w) X.A (f (.int i t)<|.int j u) Q E s): gs X f (rI C λi j=>.int<|g i j):=by intro pins s σ H x y v u Q I rx ry h;obtain⟨i,j,rfl,rfl,hc,q⟩:=h;obtain⟨t,rfl⟩:=rx;obtain⟨t',rfl⟩:=ry;exact rule i j t t' s _ _ hc {.int<|g i j,H,I.tok _,{_,rfl},q}
theorem RO{f:Value->Value->Sem Value}{g:Int->Int->Int} (rule:∀(i j:Int)(t u:Tok)(s:Shared)(Q:Value->Shared->Prop)(E:Value->Shared->Prop),Q (.int (g i j) s.toks) {s with toks:=s.toks+1}->wpAny (model X.prog X.w) X.A (f (.int i t)<|.int j u) Q E s): gs X f (JQ λi j=>.int<|g i j):=by intro pins s σ H x y v u Q I rx ry h;obtain⟨i,j,rfl,rfl,q⟩:=h;obtain⟨t,rfl⟩:=rx;obtain⟨t',rfl⟩:=ry;exact rule i j t t' s _ _ {.int<|g i j,H,I.tok _,{_,rfl},q}
theorem JR{f:Value->Value->Sem Value}{g:Int->Int->Bool} (rule:∀(i j:Int)(t u:Tok)(s:Shared)(Q:Value->Shared->Prop)(E:Value->Shared->Prop),Q (.bool<|g i j) s->wpAny (model X.prog X.w) X.A (f (.int i t)<|.int j u) Q E s): gs X f (JQ λi j=>.bl<|g i j):=by intro pins s σ H x y v u Q I rx ry h;obtain⟨i,j,rfl,rfl,q⟩:=h;obtain⟨t,rfl⟩:=rx;obtain⟨t',rfl⟩:=ry;exact rule i j t t' s _ _ {.bl<|g i j,H,I,rfl,q}
def RP(i j:Int):Prop:=0<=j/\j<=1000000/\i.natAbs<2^64
def JS(i j:Int):Prop:=(-(2^64)<i/\i<2^64)\/(-(2^64)<j/\j<2^64)
theorem JS.ok{i j:Int}(h:JS i j):IntMulOk i j:=by rcases h with⟨h1,h2⟩|⟨h1,h2⟩;exact .of_left<|intBits_le_64 h1 h2;exact .of_right<|intBits_le_64 h1 h2
theorem NY:gs X (binaryOp .Add) (JQ λi j=>.int<|i+j):=RO λ_ _ _ _ _ _ _ q=>add_int q
theorem NZ:gs X (binaryOp .Sub) (JQ λi j=>.int<|i-j):=RO λ_ _ _ _ _ _ _ q=>sub_int q
theorem N1:gs X (binaryOp .Mult) (rI JS λi j=>.int<|i*j):=VF λ_ _ _ _ _ _ _ hc q=>mul_int q hc.ok
theorem N3:gs X (binaryOp .Mod) (rI (λ_ j=>0<j) λi j=>.int<|i%j):=VF λi j _ _ _ _ _ hc q=>by have h1:(0:Int)<j:=hc;exact mod_int' (by lia)<|by rw[Int.fmod_eq_emod_of_nonneg i<|by lia];exact q
theorem N4:gs X (binaryOp .Pow) (rI RP λi j=>.int<|i^j.toNat):=VF λ_ _ _ _ _ _ _ hc q=>pow_int_small hc.1 hc.2.1 hc.2.2 q
theorem unI{f:Value->Sem Value}{g:Int->Int} (rule:∀(i:Int)(t:Tok)(s:Shared)(Q:Value->Shared->Prop)(E:Value->Shared->Prop),Q (.int (g i) s.toks) {s with toks:=s.toks+1}->wpAny (model X.prog X.w) X.A (f<|.int i t) Q E s): WY X f (rU λi=>.int<|g i):=by intro pins s σ H x v Q I rx h;obtain⟨i,rfl,q⟩:=h;obtain⟨t,rfl⟩:=rx;exact rule i t s _ _ {.int<|g i,H,I.tok _,{_,rfl},q}
theorem N5:WY X (unaryOp .USub) (rU λi=>.int (-i)):=unI λ_ _ _ _ _ q=>neg_int q
end
noncomputable def RQ:V->V->Bool|.ax,.ax=>true|.ax,.int _=>true|.int _,.ax=>true|.ax,.bl _=>true|.bl _,.ax=>true|.ax,.str _=>true|.str _,.ax=>true|.int _,.int _=>true|.bl _,.bl _=>true|.str _,.str _=>true|.B8 _,.B8 _=>true|.int _,.str _=>true|.str _,.int _=>true|.bl _,.str _=>true|.str _,.bl _=>true|_,_=>false
def rEq:R2:=λx y H Q=>RQ x y=true/\Q (.bl<|decide<|x=y) H
def rNe:R2:=λx y H Q=>RQ x y=true/\Q (.bl<|!decide (x=y)) H
theorem Cc:decide (V.int i=V.int j)=(i==j):=by rw[yk];simp
theorem Gm:decide (V.bl i=V.bl j)=(i==j):=by rw[yk];simp
theorem Cd:decide (V.str i=V.str j)=(i==j):=by rw[yk];simp
theorem Cf:decide (V.B8 i=V.B8 j)=(i.toList==j.toList):=by rw[yk];cases i;cases j;simp
section
variable{X:Cx}{a b c:Expr}{ta tb tc:TE}{pos:Pos}
theorem aK(I:Inv X pins σ H s)(q:Q (.bl k) H)(e:k=k'):EP X pins σ Q (.bool k') s:=by subst e;exact{.bl k,H,I,rfl,q}
theorem Mn:gs X (compareOp .Eq) rEq:=by intro pins s σ H x y v u Q I rx ry h;obtain⟨hs,q⟩:=h;cases x with|ax=>(cases rx;cases y with|ax=>(cases ry;exact PySem.EqNone.eq_none_none<|aK I q<|by simp)|bl j=>(cases ry;exact PySem.EqNone.eq_none_bool<|aK I q<|by simp)|int j=>(obtain⟨t',rfl⟩:=ry;exact PySem.EqNone.eq_none_int<|aK I q<|by simp)|str j=>(obtain⟨t',rfl⟩:=ry;exact PySem.EqNone.eq_none_str<|aK I q<|by simp)|_=>exact absurd (show false=true from hs) zd)|bl i=>(cases rx;cases y with|ax=>(cases ry;exact PySem.EqNone.eq_bool_none<|aK I q<|by simp)|bl j=>(cases ry;exact eq_bool<|aK I q Gm)|str j=>(obtain⟨t',rfl⟩:=ry;exact PySem.EqMixed.eq_bool_str<|aK I q<|by simp)|_=>exact absurd (show false=true from hs) zd)|int i=>(obtain⟨t,rfl⟩:=rx;cases y with|ax=>(cases ry;exact PySem.EqNone.eq_int_none<|aK I q<|by simp)|int j=>(obtain⟨t',rfl⟩:=ry;exact eq_int<|aK I q Cc)|str j=>(obtain⟨t',rfl⟩:=ry;exact PySem.EqMixed.eq_int_str<|aK I q<|by simp)|_=>exact absurd (show false=true from hs) zd)|str i=>(obtain⟨t,rfl⟩:=rx;cases y with|ax=>(cases ry;exact PySem.EqNone.eq_str_none<|aK I q<|by simp)|bl j=>(cases ry;exact PySem.EqMixed.eq_str_bool<|aK I q<|by simp)|int j=>(obtain⟨t',rfl⟩:=ry;exact PySem.EqMixed.eq_str_int<|aK I q<|by simp)|str j=>(obtain⟨t',rfl⟩:=ry;exact eq_str<|aK I q Cd)|_=>exact absurd (show false=true from hs) zd)|B8 i=>(obtain⟨t,rfl⟩:=rx;cases y with|B8 j=>(obtain⟨t',rfl⟩:=ry;exact PySem.W.eq_bytes<|aK I q Cf)|_=>exact absurd (show false=true from hs) zd)|_=>cases y<;>exact absurd (show false=true from hs) zd
theorem Mo:gs X (compareOp .NotEq) rNe:=by intro pins s σ H x y v u Q I rx ry h;obtain⟨hs,q⟩:=h;cases x with|ax=>(cases rx;cases y with|ax=>(cases ry;exact PySem.EqNone.ne_none_none<|aK I q<|by simp)|bl j=>(cases ry;exact PySem.EqNone.ne_none_bool<|aK I q<|by simp)|int j=>(obtain⟨t',rfl⟩:=ry;exact PySem.EqNone.ne_none_int<|aK I q<|by simp)|str j=>(obtain⟨t',rfl⟩:=ry;exact PySem.EqNone.ne_none_str<|aK I q<|by simp)|_=>exact absurd (show false=true from hs) zd)|bl i=>(cases rx;cases y with|ax=>(cases ry;exact PySem.EqNone.ne_bool_none<|aK I q<|by simp)|bl j=>(cases ry;exact ne_bool<|aK I q<|congrArg not Gm)|str j=>(obtain⟨t',rfl⟩:=ry;exact PySem.EqMixed.ne_bool_str<|aK I q<|by simp)|_=>exact absurd (show false=true from hs) zd)|int i=>(obtain⟨t,rfl⟩:=rx;cases y with|ax=>(cases ry;exact PySem.EqNone.ne_int_none<|aK I q<|by simp)|int j=>(obtain⟨t',rfl⟩:=ry;exact ne_int<|aK I q<|congrArg not Cc)|str j=>(obtain⟨t',rfl⟩:=ry;exact PySem.EqMixed.ne_int_str<|aK I q<|by simp)|_=>exact absurd (show false=true from hs) zd)|str i=>(obtain⟨t,rfl⟩:=rx;cases y with|ax=>(cases ry;exact PySem.EqNone.ne_str_none<|aK I q<|by simp)|bl j=>(cases ry;exact PySem.EqMixed.ne_str_bool<|aK I q<|by simp)|int j=>(obtain⟨t',rfl⟩:=ry;exact PySem.EqMixed.ne_str_int<|aK I q<|by simp)|str j=>(obtain⟨t',rfl⟩:=ry;exact ne_str<|aK I q<|congrArg not Cd)|_=>exact absurd (show false=true from hs) zd)|B8 i=>(obtain⟨t,rfl⟩:=rx;cases y with|B8 j=>(obtain⟨t',rfl⟩:=ry;exact PySem.W.ne_bytes<|aK I q<|congrArg not Cf)|_=>exact absurd (show false=true from hs) zd)|_=>cases y<;>exact absurd (show false=true from hs) zd
theorem RS:gs X (compareOp .Lt) (JQ λi j=>.bl<|decide<|i<j):=JR λ_ _ _ _ _ _ _ q=>lt_int q
theorem RT:gs X (compareOp .LtE) (JQ λi j=>.bl<|decide<|i<=j):=JR λ_ _ _ _ _ _ _ q=>le_int q
theorem RU:gs X (compareOp .Gt) (JQ λi j=>.bl<|decide<|j<i):=JR λ_ _ _ _ _ _ _ q=>gt_int q
theorem RV:gs X (compareOp .GtE) (JQ λi j=>.bl<|decide<|j<=i):=JR λ_ _ _ _ _ _ _ q=>ge_int q
theorem D6:gs X (compareOp .Lt) (λx y H Q=>∃i j,x=.str i/\y=.str j/\Q (.bl<|decide<|i.cps.toList<j.cps.toList) H):=by intro pins s σ H x y v u Q I rx ry h;obtain⟨i,j,rfl,rfl,q⟩:=h;obtain⟨t,rfl⟩:=rx;obtain⟨t',rfl⟩:=ry;exact lt_str<|aK I q rfl
theorem D9:gs X (compareOp .In) (λx y H Q=>∃i j,x=.str i/\y=.str j/\Q (.bl<|!(Builtin.Str.occurrences j i 0 j.length 1).isEmpty) H):=by intro pins s σ H x y v u Q I rx ry h;obtain⟨i,j,rfl,rfl,q⟩:=h;obtain⟨t,rfl⟩:=rx;obtain⟨t',rfl⟩:=ry;exact in_str<|aK I q rfl
theorem N6:gs X (compareOp .Is) (λx y H Q=>y=.ax/\Q (.bl<|decide<|x=.ax) H):=by intro pins s σ H x y v u Q I rx ry h;obtain⟨rfl,q⟩:=h;cases ry;refine is_none_gen<|aK I q ?_;cases x<;>first| (cases rx;rfl)| (obtain⟨t,rfl⟩:=rx;rfl)
theorem JT:gs X (compareOp .IsNot) (λx y H Q=>y=.ax/\Q (.bl<|!decide (x=.ax)) H):=by intro pins s σ H x y v u Q I rx ry h;obtain⟨rfl,q⟩:=h;cases ry;refine isnot_none_gen<|aK I q ?_;cases x<;>first| (cases rx;rfl)| (obtain⟨t,rfl⟩:=rx;rfl)
theorem uw:gs X (compareOp .NotIn) (λx y H Q=>∃i j,x=.str i/\y=.str j/\Q (.bl<|!(!(Builtin.Str.occurrences j i 0 j.length 1).isEmpty)) H):=by intro pins s σ H x y v u Q I rx ry h;obtain⟨i,j,rfl,rfl,q⟩:=h;obtain⟨t,rfl⟩:=rx;obtain⟨t',rfl⟩:=ry;exact notIn_str<|aK I q rfl
theorem WZ(b:Expr)(h:autoParam (op≠.In) qQZ)(h2:autoParam (op≠.NotIn) qQZ):behindInMarks op b=false:=by
 have e1:(op==CmpOp.In)=false:=by cases op<;>first|rfl|exact absurd rfl h
 have e2:(op==CmpOp.NotIn)=false:=by cases op<;>first|rfl|exact absurd rfl h2
 cases b<;>simp[behindInMarks,e1,e2]
theorem Ci{op:CmpOp}{r:R2}(ho:gs X (compareOp op) r)(ha:PE X a ta)(hb:PE X b tb)(hm:behindInMarks op b=false):PE X (.Compare a [op] [b] pos) (QO r ta tb):=by intro pins s σ H Q I h;exact wpAny_Compare1 (NX ha hb I h λv u s2 x y H2 I2 rx ry q=>ho pins s2 σ H2 x y v u Q I2 rx ry q) hm
def Gn(t:TE):TT:=λσ H Q=>t σ H λx H'=>∃k,x=.bl k/\Q k H'
theorem JU{op:CmpOp}{r:R2}(ho:gs X (compareOp op) r)(ha:PE X a ta)(hb:PE X b tb)(hm:behindInMarks op b=false):PT X (.Compare a [op] [b] pos) (Gn<|QO r ta tb):=by intro pins s σ H Q I h;refine wpAny_isTrue_Compare1 (bf (ha pins s σ H _ I h) λv s1 ⟨x,H1,I1,r1,q1⟩=>bf (hb pins s1 σ H1 _ I1 q1) λu s2 ⟨y,H2,I2,r2,q2⟩=>bf (ho pins s2 σ H2 x y v u _ I2 r1 r2 q2) λc s3 ⟨z,H3,I3,r3,k,e,q3⟩=>?_) hm;subst e;cases r3;exact yr ⟨H3,I3,q3⟩
def Ah(r r':R2)(ta tb tc:TE):TE:=λσ H Q=>ta σ H λx H1=>tb σ H1 λy H2=>r x y H2 λz H3=>∃k,z=.bl k/\(if k=true then tc σ H3 λw' H4=>r' y w' H4 Q else Q (.bl false) H3)
theorem Gq{op D_:CmpOp}{r r':R2}(ho:gs X (compareOp op) r)(Ad:gs X (compareOp D_) r')(ha:PE X a ta)(hb:PE X b tb)(hc:PE X c tc) (hm:autoParam (lastMarks [op,D_] [b,c]=false) qQ2):PE X (.Compare a [op,D_] [b,c] pos) (Ah r r' ta tb tc):=by intro pins s σ H Q I h;refine Compare_chain (bf (ha pins s σ H _ I h) λv s1 ⟨x,H1,I1,r1,q1⟩=>chain_link<|bf (hb pins s1 σ H1 _ I1 q1) λu s2 ⟨y,H2,I2,r2,q2⟩=>bf (ho pins s2 σ H2 x y v u _ I2 r1 r2 q2) λd s3 ⟨z,H3,I3,r3,k,e,q3⟩=>?_) hm;subst e;cases r3;refine yr ?_;cases k with|false=>exact ite_ff {.bl false,H3,I3,rfl,q3}|true=>exact ite_tt<|chain_last<|bf (hc pins s3 σ H3 _ I3 q3) λw' s4 ⟨z',H4,I4,r4,q4⟩=>Ad pins s4 σ H4 y z' u w' Q I4 r2 r4 q4
theorem Gr{op D_:CmpOp}{r r':R2}(ho:gs X (compareOp op) r)(Ad:gs X (compareOp D_) r')(ha:PE X a ta)(hb:PE X b tb)(hc:PE X c tc) (hm:autoParam (lastMarks [op,D_] [b,c]=false) qQ2):PT X (.Compare a [op,D_] [b,c] pos) (Gn<|Ah r r' ta tb tc):=by intro pins s σ H Q I h;refine isTrue_chain (bf (ha pins s σ H _ I h) λv s1 ⟨x,H1,I1,r1,q1⟩=>test_link<|bf (hb pins s1 σ H1 _ I1 q1) λu s2 ⟨y,H2,I2,r2,q2⟩=>bf (ho pins s2 σ H2 x y v u _ I2 r1 r2 q2) λd s3 ⟨z,H3,I3,r3,k,e,q3⟩=>?_) hm;subst e;cases r3;refine yr ?_;cases k with|false=>(obtain⟨k',e',q'⟩:=q3;cases e';exact ite_ff ⟨H3,I3,q'⟩)|true=>refine ite_tt<|test_last<|bf (hc pins s3 σ H3 _ I3 q3) λw' s4 ⟨z',H4,I4,r4,q4⟩=>bf (Ad pins s4 σ H4 y z' u w' _ I4 r2 r4 q4) λd' s5 ⟨z2,H5,I5,r5,k2,e2,q5⟩=>?_;subst e2;cases r5;exact yr ⟨H5,I5,q5⟩
theorem p6:(sizeLine:Nat)<2^63:=by rw[ye];decide
theorem Ai:gs X (binaryOp .Add) (λx y H Q=>∃i j,x=.str i/\y=.str j/\i.length+j.length<=sizeLine/\Q (.str<|i++j) H):=by intro pins s σ H x y v u Q I rx ry h;obtain⟨i,j,rfl,rfl,hz,q⟩:=h;obtain⟨t,rfl⟩:=rx;obtain⟨t',rfl⟩:=ry;exact add_str (λt' tk=>{.str<|i++j,H,I.tok _,{_,rfl},q}) hz
theorem vals1(r:Vals [x] us):∃u,us=[u]/\RelV x u:=by cases r with|cons r1 r2=>cases r2;exact{_,rfl,r1}
theorem vals2(r:Vals [x,y] us):∃u w',us=[u,w']/\RelV x u/\RelV y w':=by cases r with|cons r1 r2=>cases r2 with|cons r3 r4=>cases r4;exact{_,_,rfl,r1,r3}
theorem Ea(hc:X.calm=true):dO X (.builtin "max") (λxs H Q=>∃i j,xs=[.int i,.int j]/\Q (.int<|if j>i then j else i) H):=by intro pins s σ H xs us Q I r h;obtain⟨i,j,rfl,q⟩:=h;obtain⟨u,w',rfl,⟨t,rfl⟩,⟨t',rfl⟩⟩:=vals2 r;refine max_two_ints (I.ok.hd hc) λh' tk k=>{_,H,I.kept k,?_,q};by_cases hj:j>i;rw[if_pos hj,if_pos hj];exact{_,rfl};rw[if_neg hj,if_neg hj];exact{_,rfl}
theorem Eb(hc:X.calm=true):dO X (.builtin "min") (λxs H Q=>∃i j,xs=[.int i,.int j]/\Q (.int<|if j<i then j else i) H):=by intro pins s σ H xs us Q I r h;obtain⟨i,j,rfl,q⟩:=h;obtain⟨u,w',rfl,⟨t,rfl⟩,⟨t',rfl⟩⟩:=vals2 r;refine min_two_ints (I.ok.hd hc) λh' tk k=>{_,H,I.kept k,?_,q};by_cases hj:j<i;rw[if_pos hj,if_pos hj];exact{_,rfl};rw[if_neg hj,if_neg hj];exact{_,rfl}
theorem tw:dO X (.type "int") (λxs H Q=>(∃i,xs=[.int i]/\Q (.int i) H)\/∃k,xs=[.bl k]/\Q (.int<|if k then 1 else 0) H):=by intro pins s σ H xs us Q I r h;rcases h with⟨i,rfl,q⟩|⟨k,rfl,q⟩;obtain⟨u,rfl,t,rfl⟩:=vals1 r;exact call_int_int {.int i,H,I,{_,rfl},q};obtain⟨u,rfl,r1⟩:=vals1 r;cases r1;exact call_int_bool {.int<|if k then 1 else 0,H,I.tok _,{_,rfl},q}
def W0(K:Frag)(x:V)(H:Hp)(n:Nat):Prop:=match x with|.str y=>y.length<=sizeLine/\n=y.length|.B8 y=>y.size<=sizeLine/\n=y.size|.ref p=>(∃xs,iQ K H p xs/\n=xs.length)\/∃xs,iu K H p xs/\n=xs.length|_=>False
theorem iT:dO X (.builtin "len") (λxs H Q=>∃x n,xs=[x]/\W0 X.K x H n/\Q (.int n) H):=by intro pins s σ H xs us Q I r h;obtain⟨x,n,rfl,e,q⟩:=h;obtain⟨u,rfl,rx⟩:=vals1 r;have hl:=p6;have hs:sizeLine=16777216:=ye;cases x with|str y=>(obtain⟨t,rfl⟩:=rx;obtain⟨hy,e'⟩:y.length<=sizeLine/\n=y.length:=e;subst e';exact len_str (by lia) {.int _,H,I.tok _,{_,rfl},q})|B8 y=>(obtain⟨t,rfl⟩:=rx;obtain⟨hy,e'⟩:y.size<=sizeLine/\n=y.size:=e;subst e';exact PySem.W.len_bytes (by lia) {.int _,H,I.tok _,{_,rfl},q})|ref p=>(cases rx;have e':(∃xs,iQ X.K H p xs/\n=xs.length)\/∃xs,iu X.K H p xs/\n=xs.length:=e;rcases e' with⟨xs,hx,e'⟩|⟨xs,hx,e'⟩;subst e';obtain⟨au,r',pl,hz⟩:=I.list hx;have hlen:=r'.length;exact Calls.call_len_list pl.isList (by simp only[zo];lia) {.int xs.length,H,I.tok _,{_,by simp only[zo];rw[hlen]},q};subst e';obtain⟨au,r',pl,hz⟩:=I.tuple hx;have hlen:=r'.length;exact len_tuple pl (by simp only[zo];lia) {.int xs.length,H,I.tok _,{_,by simp only[zo];rw[hlen]},q})|_=>exact(show False from e).elim
end
structure Aj(h:Heap)(x dx C:Addr)(mA:Str->Option Value):Prop where
 obj:h.get? x=some (instObj C dx)
 ns:h.Ns1 dx mA
 ne:dx≠x
theorem Ec{h:Heap}{dx:Addr}{mA:Str->Option Value}(n:h.Ns1 dx mA):∃od,h.get? dx=some od/\∀name,lookIn name od=some (mA name):=by
 obtain⟨o,es,ep,ho,hd,hk,_,hm⟩:=n;refine{o,ho,λname=>?_};have e:=hm name;unfold nsFind findBy at e;rw[<-Array.find?_toList]at e;unfold lookIn;rw[hd];dsimp only;split;rename_i y q;rw[q]at e;exact congrArg some e;rename_i q;rw[q]at e;have a:es.toList.any (·.refKey)=false:=by rw[List.any_eq_false];intro y hy;obtain⟨z,t,N7⟩:=hk y<|Array.mem_toList_iff.mp hy;simp[DictEntry.refKey,N7]
 have a':¬es.toList.any (·.refKey)=true:=by rw[a];exact zd
 rw[if_neg a'];exact congrArg some e
theorem Aj.look(I:Aj h x dx C mA):∃od,PySem.W.InstAt h x (instObj C dx) C (some od)/\∀name,lookIn name od=some (mA name):=
 let ⟨od,ho,hl⟩:=Ec I.ns
 ⟨od,⟨I.obj,rfl,rfl,ho⟩,hl⟩
section
variable{prog:Program}{w:World}{A:Around}{E:Value->Shared->Prop}{s:Shared}{K:Frag}{x dx C f:Addr}{mA:Str->Option Value}{name:Str}{v:Value}
theorem get_map(X:K.In s.heap)(I:Aj s.heap x dx C mA)(hg:plainGet K C name=true)(hh:hasDictIn K C=true) (ha:findIn K (.ref C) name=some none) (hv:mA name=some v) (VG:handedIn v=true) (h:Q v {s with toks:=s.toks+1}): wpAny (model prog w) A (getAttr (.ref x) name expr) Q E s:=by obtain⟨od,J,hl⟩:=I.look;exact PySem.W.get_value X J (plainGet_of hg).1 (PySem.W.findObj_own hh ha rfl<|by rw[hl,hv]) VG h
theorem Gs(X:K.In s.heap)(I:Aj s.heap x dx C mA)(hg:plainGet K C name=true) (hf:findIn K (.ref C) name=some (some<|.ref f)) (ht:isFn K (.ref f)=true) (hv:mA name=none) (h:Q (.ref f,[.ref x]) s): wpAny (model prog w) A (getMethod (.ref x) name pl) Q E s:=by obtain⟨od,J,hl⟩:=I.look;exact PySem.W.method_fn X J (plainGet_of hg).1 (plainGet_of hg).2 hf (beq_iff_eq.mp ht) (by show(lookIn name od).map (·.isSome)=some false;rw[hl,hv];rfl) h
theorem JV(X:K.In s.heap)(I:Aj s.heap x dx C mA) (hs:findIn K (.ref C) "__setattr__"= some (some<|.builtin "object.__setattr__")) (hp:plainOver K C=true) (ht:takerIn K C name=some none) (hh:hasDictIn K C=true) (hw:PySem.Within mA ns) (hsz:ns.length<=sizeLine) (h:∀h',Aj h' x dx C (λy=>if y=name then some v else mA y)->Heap.SameBut dx s.heap h'->Q () {s with heap:=h',toks:=s.toks+2}): wpAny (model prog w) A (setAttr (.ref x) name v) Q E s:=by obtain⟨od,J,hl⟩:=I.look;refine PySem.W.set_plain X J hs<|PySem.W.osa_open (s:={s with toks:=s.toks+1}) (r:=none) X J hp ht λb=>?_;obtain⟨cd,hc,Ae⟩:=PySem.W.any_some hh;have hx:s.heap.get? x=some {.ref C,some dx,.plain,#[]}:=I.obj;refine zc<|zA<|zc<|zc<|wpAny_loadPart hx<|zc<|PySem.W.Looks.here (s:={s with toks:=s.toks+1}) (PySem.W.looks_clsIn X hc) ?_;rw[Ae];refine zA (a:=some dx)<|zc<|zA<|zc ?_;refine wpAny_nsSet1 (s:={s with toks:=s.toks+1}) I.ns λh' Jo rX=>?_;obtain⟨oD,esD,epD,hoD,hdD,hcD⟩:=Jo.count<|PySem.Within.cons name v hw;refine zc<|wpAny_lookBehind hoD (by rw[hdD];exact pastItsLine_dict<|zH hcD<|by rw[zJ];lia) ?_;exact zA<|h _ {(rX.2 _<|Ne.symm I.ne).trans I.obj,Jo,I.ne} rX
theorem Gu(X:K.In s.heap)(hm:makesIn K C=true) (hi:findIn K (.ref C) "__init__"= some (some<|.ref f)) (hf:PySem.W.typeIn K (.ref f)=some (.type "function")) (h:codeAny (model prog w) (A.under<|.builtin "type.__call__" {.ref C::vs,kw}) (.call (.ref f) {.ref (s.heap.objs.size+1)::vs,kw}) (PySem.W.InitBack (s.heap.objs.size+1) R) {s with heap:=(s.heap.push emptyDict).push<|instObj C s.heap.objs.size}): codeAny (model prog w) A (.call (.ref C) ⟨vs,kw⟩) R s:=by obtain⟨hh,g,d,t,os⟩:=s;exact PySem.W.make_core (PySem.W.makes_of X hm) (PySem.W.looks_findIn X hi) (λself=>PySem.W.bind_fn X self hf) (.inl rfl) h
end
noncomputable def putF(f:Str)(v:V):List (Str×V)->List (Str×V)|[]=>[(f,v)]| (g,x)::r=>if g=f then (g,v)::r else (g,x)::putF f v r
theorem oj(f g:Str)(v:V):∀fs:List (Str×V),(putF f v fs).lookup g=if g=f then some v else fs.lookup g|[]=>by show List.lookup g [(f,v)]=_;by_cases h:g=f;have hb:(g==f)=true:=beq_iff_eq.mpr h;simp only[List.lookup,hb,if_pos h];have hb:(g==f)=false:=beq_eq_false_iff_ne.mpr h;simp only[List.lookup,hb,if_neg h]| (k,x)::r=>by have ih:=oj f g v r;rw[show putF f v ((k,x)::r)=(if k=f then (k,v)::r else (k,x)::putF f v r) from rfl];by_cases hk:k=f;rw[if_pos hk];by_cases h:g=k;have hb:(g==k)=true:=beq_iff_eq.mpr h;simp only[List.lookup,hb,if_pos<|h.trans hk];have hb:(g==k)=false:=beq_eq_false_iff_ne.mpr h;simp only[List.lookup,hb,if_neg (λe:g=f=>h<|e.trans hk.symm)];rw[if_neg hk];by_cases h:g=k;have hb:(g==k)=true:=beq_iff_eq.mpr h;simp only[List.lookup,hb,if_neg (λe:g=f=>hk<|h.symm.trans e)];have hb:(g==k)=false:=beq_eq_false_iff_ne.mpr h;simp only[List.lookup,hb];exact ih
theorem m6(f:Str)(v:V):∀fs:List (Str×V),f∈(putF f v fs).map (·.1)/\∀g,g∈fs.map (·.1)->g∈(putF f v fs).map (·.1)|[]=>{by simp[putF],λg h=>by simp at h}| (k,x)::r=>by obtain⟨i1,i2⟩:=m6 f v r;rw[show putF f v ((k,x)::r)=(if k=f then (k,v)::r else (k,x)::putF f v r) from rfl];by_cases hk:k=f;rw[if_pos hk];subst hk;exact{by simp,λg h=>by simpa using h};rw[if_neg hk];refine{?_,λg h=>?_};rw[zq];exact ze _ i1;rw[zq]at h⊢;rcases zh.mp h with e|e;exact zh.mpr<|.inl e;exact ze _<|i2 g e
theorem om(f:Str)(v:V):∀fs:List (Str×V),(putF f v fs).length<=fs.length+1|[]=>by simp[putF]| (k,x)::r=>by have ih:=om f v r;rw[show putF f v ((k,x)::r)=(if k=f then (k,v)::r else (k,x)::putF f v r) from rfl];by_cases hk:k=f;rw[if_pos hk,zJ,zJ];lia;rw[if_neg hk,zJ,zJ];lia
theorem fA.some_of(r:fA (some v) o):∃u,o=some u/\RelV v u:=by cases o with|none=>exact(show False from r).elim|some u=>exact⟨u,rfl,r⟩
theorem fA.none_of(r:fA none o):o=none:=by cases o with|none=>rfl|some u=>exact(show False from r).elim
theorem Ed(r:RelV v u):handedIn u=true:=by cases v with|ax=>(cases (show u=Value.none from r);rfl)|bl b=>(cases (show u=Value.bool b from r);rfl)|int i=>(obtain⟨t,e⟩:=(show ∃t,u=Value.int i t from r);cases e;rfl)|str x=>(obtain⟨t,e⟩:=(show ∃t,u=Value.str x t from r);cases e;rfl)|B8 b=>(obtain⟨t,e⟩:=(show ∃t,u=Value.bytes b t from r);cases e;rfl)|Nx b=>(obtain⟨t,e⟩:=(show ∃t,u=Value.float b t from r);cases e;rfl)|ref a=>(cases (show u=Value.ref a from r);rfl)|ty n=>cases (show u=Value.type n from r);rfl
section
variable{P:Program}{w:World}{H:Hp}{h:Heap}{a C dx:Addr}{fs:List (Str×V)}
theorem pM(aM:kC P w H h)(e:H a=some (.ins C dx fs)):∃mA,Aj h a dx C mA/\(∀f,fA (fs.lookup f)<|mA f)/\PySem.Within mA (fs.map (·.1))/\fs.length<=1000/\H dx=some (.own a):=by obtain⟨d,z,ne,ob,mA,n,r,q⟩:=(show bj P w H h a (.ins C dx fs) from aM a _ e);exact{mA,⟨ob,n,ne⟩,r,q,z,d}
end
structure p7(K:Frag)(C:Addr):Prop where
 pg:plainGet K C Str.empty=true
 hd:hasDictIn K C=true
 po:plainOver K C=true
 sa:findIn K (.ref C) "__setattr__"= some (some<|.builtin "object.__setattr__")
theorem p7.get{K:Frag}{C:Addr}(c:p7 K C)(f:Str):plainGet K C f=true:=c.pg
def iU(K:Frag)(C:Addr)(f:Str):Prop:=findIn K (.ref C) f=some none
theorem iU.RW{K:Frag}{C:Addr}{f:Str}(n:iU K C f):takerIn K C f=some none:=by unfold takerIn;rw[show findIn K (.ref C) f=some none from n];rfl
structure Con(K:Frag)(C:Addr)(f:Str)(v:V)(u:Value):Prop where
 at_:findIn K (.ref C) f=some (some u)
 rel:RelV v u
 get:specialIn K u "__get__"= some none
 cp:PySem.W.copiedNames.contains f=false
structure Meth(K:Frag)(C:Addr)(m:Str)(f:Addr):Prop where
 at_:findIn K (.ref C) m=some (some<|.ref f)
 fn:isFn K (.ref f)=true
 kp:keepIn K (.ref f)=true
section
variable{X:Cx}{pins:List (Addr×Obj)}{σ:St}{H:Hp}{s:Shared}{a C dx:Addr}{fs:List (Str×V)}{f:Str}{v:V}{A:Around}{E:Value->Shared->Prop}
theorem Al(I:Inv X pins σ H s)(e:H a=some (.ins C dx fs))(c:p7 X.K C)(n:iU X.K C f)(l:fs.lookup f=some v) (h:∀u s',Inv X pins σ H s'->RelV v u->Q u s'):wpAny (model X.prog X.w) A (getAttr (.ref a) f b) Q E s:=by obtain⟨mA,O,r,_,_,_⟩:=pM I.aM e;obtain⟨u,hu,ru⟩:=fA.some_of (v:=v) (o:=mA f) (by rw[<-l];exact r f);exact get_map I.oi O (c.get f) c.hd n hu (Ed ru)<|h u _ (I.tok _) ru
theorem p8(I:Inv X pins σ H s)(e:H a=some (.ins C dx fs))(c:p7 X.K C)(k:Meth X.K C m g)(l:fs.lookup m=none) (h:Q (.ref g,[.ref a]) s):wpAny (model X.prog X.w) A (getMethod (.ref a) m pl) Q E s:=by obtain⟨mA,O,r,_,_,_⟩:=pM I.aM e;have hn:mA m=none:=fA.none_of (by rw[<-l];exact r m);exact Gs I.oi O (c.get m) k.at_ k.fn hn h
theorem Am(I:Inv X pins σ H s)(e:H a=some (.ins C dx fs))(c:p7 X.K C)(n:iU X.K C f)(hl:fs.length<1000)(ry:RelV y u) (h:∀s',Inv X pins σ (upd H a<|.ins C dx<|putF f y fs) s'->Q () s'):wpAny (model X.prog X.w) A (setAttr (.ref a) f u) Q E s:=by
 obtain⟨mA,O,r,wi,_,ho⟩:=pM I.aM e;have hz:(fs.map (·.1)).length<=sizeLine:=by rw[zb,ye];lia
 refine JV I.oi O c.sa c.po n.RW c.hd wi hz λh' O' sb=>h _ ?_;have hd:∃o,h'.get? dx=some o:=by obtain⟨o,_,_,e',_⟩:=O'.ns;exact⟨o,e'⟩
 refine I.write (x:=a) (e:=dx) (by rw[e];exact True.intro) (.inr ho) (λb q hb z=>(sb.2 b hb).trans z) hd ?_;refine{by rw[aq O.ne];exact ho,?_,O.ne,O'.obj,_,O'.ns,λg=>?_,λg hg=>?_};have:=om f y fs;lia;show fA ((putF f y fs).lookup g) (if g=f then some u else mA g);rw[oj];by_cases q:g=f;rw[if_pos q,if_pos q];exact ry;rw[if_neg q,if_neg q];exact r g;by_cases q:g=f;rw[q];exact(m6 f y fs).1;refine(m6 f y fs).2 g<|wi g λz=>hg ?_;show(if g=f then some u else mA g)=none;rw[if_neg q];exact z
theorem Inv.made(I:Inv X pins σ H s):Inv X pins σ (upd (upd H s.heap.objs.size<|.own<|s.heap.objs.size+1) (s.heap.objs.size+1)<|.ins C s.heap.objs.size []) {s with heap:=(s.heap.push emptyDict).push<|instObj C s.heap.objs.size}:=by
 have e1:(s.heap.push emptyDict).get? s.heap.objs.size=some emptyDict:=zm s.heap rfl;have e2:((s.heap.push emptyDict).push<|instObj C s.heap.objs.size).get? (s.heap.objs.size+1)=some (instObj C s.heap.objs.size):=by have:=zm (s.heap.push emptyDict) (o:=instObj C s.heap.objs.size) rfl;rwa [zR]at this
 have e3:(s.heap.push emptyDict).Ns s.heap.objs.size (λ_=>none):={emptyDict,#[],_,e1,rfl,(λe he=>absurd he<|by simp),λ_=>rfl};have I1:=I.laid (a:=s.heap.objs.size) (o:=.own<|s.heap.objs.size+1) (h':=s.heap.push emptyDict) (t':=s.toks) (λb u q=>za _ q) (zp _) {_,e1};refine I1.laid (a:=s.heap.objs.size+1) (o:=.ins C s.heap.objs.size []) (t':=s.toks) (λb u q=>za _ q) (Nat.le_of_eq<|zR _ _) ?_;have ne:s.heap.objs.size≠s.heap.objs.size+1:=zu<|yI _;refine{by rw[aq ne,aD],zZ _,ne,e2,λ_=>none,(Heap.Ns1.of_empty e3).at λo q=>za _ q,λ_=>True.intro,λy hy=>absurd rfl hy}
theorem JW(hb:attributeBase e f env (eval e env)=eval e env) (h:wpAny (model prog w) A (eval e env) (λo a_=>wpAny (model prog w) A (getAttr o f true) Q E a_) E s):wpAny (model prog w) A (eval (.Attribute e f pos) env) Q E s:=Attribute_any_ h<|by rw[arm_eval_Attribute,hb]
end
def W2(K:Frag)(ta:TE)(f:Str):TE:=λσ H Q=>ta σ H λx H1=>∃a C dx fs v,x=.ref a/\H1 a=some (.ins C dx fs)/\p7 K C/\iU K C f/\fs.lookup f=some v/\Q v H1
def W3(K:Frag)(ta tv:TE)(f:Str):TS:=λD σ H=>tv σ H λy H1=>ta σ H1 λx H2=>∃a C dx fs,x=.ref a/\H2 a=some (.ins C dx fs)/\p7 K C/\iU K C f/\fs.length<1000/\D.nx σ (upd H2 a<|.ins C dx<|putF f y fs)
section
variable{X:Cx}{o e value:Expr}{f:Str}{pos pos':Pos}{ta tv:TE}
theorem N8(he:PE X e ta)(hb:attributeBase e f X.env (eval e X.env)=eval e X.env):PE X (.Attribute e f pos) (W2 X.K ta f):=by intro pins s σ H Q I h;refine JW hb<|bf (he pins s σ H _ I h) λu s1 ⟨x,H1,I1,rx,a,C,dx,fs,v,ex,ea,c,n,l,q⟩=>?_;subst ex;obtain rfl:u=Value.ref a:=rx;exact Al I1 ea c n l λu' s2 I2 ru=>⟨v,H1,I2,ru,q⟩
theorem N9(ha:PE X o ta)(hv:PE X value tv)(hs:swapsWith value (some<|.Attribute o f pos') pos.line X.env=pure false):PS X (.Assign [.Attribute o f pos'] value pos) (W3 X.K ta tv f):=by intro pins s σ H D I h;refine plainObj_wpAny_Assign_Attribute (bf (hv pins s σ H _ I h) λu s1 ⟨y,H1,I1,ry,q⟩=>bf (ha pins s1 σ H1 _ I1 q) λov s2 ⟨x,H2,I2,rx,a,C,dx,fs,ex,ea,c,n,l,q2⟩=>?_) hs;subst ex;obtain rfl:ov=Value.ref a:=rx;exact Am I2 ea c n l ry λs3 I3=>{σ,_,I3,q2}
end
section
variable{X:Cx}{pins:List (Addr×Obj)}{σ:St}{H:Hp}{s:Shared}{A:Around}{E Q:Value->Shared->Prop}{c:Value}{b:Bool}
inductive m7 (K:Frag) (H:Hp):V->Value->Prop where
 |ax:m7 K H .ax (.type "NoneType")
 |bl (x:Bool):m7 K H (.bl x) (.type "bool")
 |int (i:Int):m7 K H (.int i) (.type "int")
 |str (x:Str):m7 K H (.str x) (.type "str")
 |Nx (x:UInt64):m7 K H (.Nx x) (.type "float")
 |lst {a:Addr}{xs:List V} (e:H a=some (.lst xs)):m7 K H (.ref a) (.type "list")
 |kB {a:Addr}{o:Obj}{xs:List V} (e:H a=some (.kB o<|.lst xs)):m7 K H (.ref a) (.type "list")
 |tup {a:Addr}{xs:List V} (e:H a=some (.tup xs)):m7 K H (.ref a) (.type "tuple")
 |dK {a:Addr}{kvs:List<|Key×V} (e:H a=some (.dK kvs)):m7 K H (.ref a) (.type "dict")
 |dT {a:Addr}{kvs:List<|List Key×V} (e:H a=some (.dT kvs)):m7 K H (.ref a) (.type "dict")
 |ins {a C dx:Addr}{fs:List<|Str×V} (e:H a=some (.ins C dx fs)) (cl:p7 K C) (ha:findIn K (.ref C) "__class__"= some (some<|.builtin "object.__class__"))
   (hn:specialIn K (.builtin "object.__class__") "__get__"= some (some<|.builtin "getset_descriptor.__get__")) (ZU:PySem.W.takesIn K (.builtin "object.__class__")=some true)
   (hm:mroIn K C (.type "object")=some true):m7 K H (.ref a) (.ref C)
theorem Ee{u t:Value}(I:Inv X pins σ H s)(rx:RelV x u)(ty:m7 X.K H x t)(e:kitOne X.K t c=some b)(h:∀tk,Q (.bool b) {s with toks:=tk}): wpAny (model X.prog X.w) A (call (.builtin "isinstance") [u,c]) Q E s:=by cases ty with|ax=>(cases (show u=Value.none from rx);exact kia_one PySem.W.kitx_none I.oi True.intro e (λz=>nomatch z) h)|bl y=>(cases (show u=Value.bool y from rx);exact kia_one PySem.W.kitx_bool I.oi True.intro e (λz=>nomatch z) h)|int i=>(obtain⟨t,q⟩:=(show ∃t,u=Value.int i t from rx);cases q;exact kia_one PySem.W.kitx_int I.oi True.intro e (λz=>nomatch z) h)|str y=>(obtain⟨t,q⟩:=(show ∃t,u=Value.str y t from rx);cases q;exact kia_one PySem.W.kitx_str I.oi True.intro e (λz=>nomatch z) h)|Nx y=>(obtain⟨t,q⟩:=(show ∃t,u=Value.float y t from rx);cases q;exact kia_one PySem.W.kitx_float I.oi True.intro e (λz=>nomatch z) h)|@lst a xs ea=>(cases (show u=Value.ref a from rx);obtain⟨_,_,n,_,h1⟩:=(show bj X.prog X.w H s.heap a (.lst xs) from I.aM a _ ea);exact kia_one kitx_list I.oi {_,h1,rfl} e (λz=>nomatch z) h)|@kB a ob xs ea=>(cases (show u=Value.ref a from rx);obtain⟨_,_,_,n,_,h1⟩:=(show bj X.prog X.w H s.heap a (.kB ob<|.lst xs) from I.aM a _ ea);exact kia_one kitx_list I.oi {_,h1,rfl} e (λz=>nomatch z) h)|@tup a xs ea=>(cases (show u=Value.ref a from rx);obtain⟨_,_,_,p⟩:=(show bj X.prog X.w H s.heap a (.tup xs) from I.aM a _ ea);obtain⟨o,h1,h2,_⟩:=p;exact kia_one PySem.W.kitx_tuple I.oi ⟨o,h1,h2⟩ e (λz=>nomatch z) h)|@dK a kvs ea=>(cases (show u=Value.ref a from rx);obtain⟨_,_,vs,_,p⟩:=(show bj X.prog X.w H s.heap a (.dK kvs) from I.aM a _ ea);obtain⟨o,es,ep,h1,h2,_⟩:=p;exact kia_one PySem.W.kitx_dict I.oi ⟨o,h1,h2.1⟩ e (λz=>nomatch z) h)|@dT a kvs ea=>exact False.elim (show bj X.prog X.w H s.heap a (.dT kvs) from I.aM a _ ea)|@ins a C dx fs ea cl ha hn ZU hm=>cases (show u=Value.ref a from rx);obtain⟨mA,O,_⟩:=pM I.aM ea;obtain⟨od,J,_⟩:=O.look;exact kia_one (PySem.W.kitx_own (cl.get _) cl.hd ha hn ZU hm) I.oi J e (λz=>nomatch z) h
end
structure bO(k:Nat)(A:Around):Prop where
 hd:A.handled=none
 dp:A.depth+3*k+5<recursionLimit
 un:A.units+16*k+200<cLine
theorem bO.mono(r:bO k A)(h:j<=k):bO j A:={r.hd,by have:=r.dp;lia,by have:=r.un;lia}
theorem bO.deeper(r:bO (k+1) A)(env:Env):bO k (A.deeper env):={r.hd,by have:=r.dp;show A.depth+1+3*k+5<_;lia,by have:=r.un;show A.units+3+16*k+200<_;lia}
theorem bO.in1(r:bO (k+1) A):bO k A.in1:={r.hd,by have:=r.dp;show A.depth+3*k+5<_;lia,by have:=r.un;show A.units+1+16*k+200<_;lia}
theorem Ao{A:Around}{C:Addr}{us:List Value}{kw:List<|Str×Value} : (A.under<|.builtin "type.__call__" {.ref C::us,kw}).depth=A.depth+1:=by first|rfl|simp[Around.under,Code.weight,Code.isCreation,Code.isGuard,Code.isCaller,Code.frames,Code.isFrame,guardIds]
theorem Ap{A:Around}{C:Addr}{us:List Value}{kw:List<|Str×Value} : (A.under<|.builtin "type.__call__" {.ref C::us,kw}).units=A.units+1:=by first|rfl|simp[Around.under,Code.cUnits,Code.frames,Code.isFrame]
theorem bO.make(r:bO (k+1) A)(C:Addr)(us:List Value)(kw:List<|Str×Value):bO k (A.under<|.builtin "type.__call__" {.ref C::us,kw}):={r.hd,by have:=r.dp;rw[Ao];lia,by have:=r.un;rw[Ap];lia}
theorem bO.depth(r:bO k A):A.depth<recursionLimit:=by have:=r.dp;lia
theorem bO.units(r:bO k A):A.units+64<cLine:=by have:=r.un;lia
def W5:TA:=λ_ H Q=>Q [] H
def Mp(ta:TE)(tr:TA):TA:=λσ H Q=>ta σ H λx H1=>tr σ H1 λxs H2=>Q (x::xs) H2
section
variable{X:Cx}{e:Expr}{es:List Expr}{te:TE}{t:TA}{pos:Pos}
theorem Aq:PA X [] W5:=λ_ _ _ _ H Q I h=>Calls.spliced_nil {[],H,I,.nil,h}
theorem JX(ha:PE X e te)(hr:PA X es t)(hs:autoParam (starEach (e::es) X.env=(false,eval e X.env)::starEach es X.env) qQJ):PA X (e::es) (Mp te t):=by intro pos pins s σ H Q I h;rw[hs];show wpAny _ _ (spliced<|(false,eval e X.env)::backTo pos (starEach es X.env)) _ _ s;refine yE<|bf (ha pins s σ H _ I h) λu s1 ⟨x,H1,I1,r1,q1⟩=>?_;exact bf (hr pos pins s1 σ H1 _ I1 q1) <| by rintro us s2 ⟨xs,H2,I2,r2,q2⟩;exact{x::xs,H2,I2,.cons r1 r2,q2}
def W6(t:TA):TE:=λσ H Q=>t σ H λxs H1=>xs.length<=sizeLine/\∀p,H1 p=none->Q (.ref p) (upd H1 p<|.tup xs)
def W7(t:TA):TE:=λσ H Q=>t σ H λxs H1=>xs.length<=sizeLine/\∀p,H1 p=none->Q (.ref p) (upd H1 p<|.lst xs)
theorem N_{x1}(h:PA X es t):PE X (.Tuple es x1 pos) (W6 t):=by intro pins s σ H Q I hq;refine wpAny_Tuple_spliced<|bf (h pos pins s σ H _ I hq) λus s1 ⟨xs,H1,I1,r,z,q⟩=>{by rw[<-r.length];exact z,?_};have hf:H1 s1.heap.objs.size=none:=I1.aM.fresh<|zp _;refine{.ref s1.heap.objs.size,upd H1 s1.heap.objs.size<|.tup xs,I1.laid (t':=s1.toks) (λb u e=>za _ e) (zp _) ?_,rfl,q _ hf};exact{z,us,r,{_,zm _ rfl,rfl,rfl,_,rfl}}
theorem Oa(h:PA X es t):PE X (.List es pos) (W7 t):=by intro pins s σ H Q I hq;refine wpAny_List_spliced<|bf (h pos pins s σ H _ I hq) λus s1 ⟨xs,H1,I1,r,z,q⟩=>{by rw[<-r.length];exact z,?_};have hf:H1 s1.heap.objs.size=none:=I1.aM.fresh<|zp _;refine{.ref s1.heap.objs.size,upd H1 s1.heap.objs.size<|.lst xs,I1.laid (t':=s1.toks) (λb u e=>za _ e) (zp _) ?_,rfl,q _ hf};exact{z,us,0,r,zm _ rfl}
end
abbrev Sp:=List V->Hp->VK->XK->Prop
abbrev Ar:=List Env->Hp->Shared->XK->Value->Shared->Prop
structure wx(P:Program)(w:World)(K:Frag)(mg:Str->Option Value)(base:Heap)(A:Around)(outer:List Env)(s:Shared)(H:Hp):Prop where
 frames:A.frames=some outer
 mod:Mod K mg base
 bs:∀b o,base.get? b=some o->s.heap.get? b=some o/\H b=none
 Gb:base.objs.size<=s.heap.objs.size
 mX:s.heap.FunFrames base outer
 Nz:∀b∈kE outer,H b=none
 aM:kC P w H s.heap
 bare:AllBare s.gens
def CE(outer:List Env)(P:Program)(w:World)(H:Hp)(s:Shared)(Q:VK)(u:Value)(s':Shared):Prop:=∃v H',s'.os=s.os/\AllBare s'.gens/\Un (kE outer) [] H H' s.heap s'.heap/\kC P w H' s'.heap/\RelV v u/\Q v H'
def CR(CX:Ar)(outer:List Env)(P:Program)(w:World)(H:Hp)(s:Shared)(Q:VK)(E:XK)(r:Result)(s':Shared):Prop:=match r with|.ok (.ret u)=>CE outer P w H s Q u s'|.ok _=>False|.error e=>CX outer H s E e s'
structure bG(P:Program)(w:World)(K:Frag)(mg:Str->Option Value)(base:Heap)(CX:Ar)(k:Nat)(f:Addr)(fd:FuncData)(ps:List Str)(sp:Sp):Prop where
 len:∀vs H Q E,sp vs H Q E->vs.length=ps.length
 run:∀(A:Around)(outer:List Env)(s:Shared)(H:Hp)(args:Args)(us:List Value)(vs:List V)(Q:VK)(E:XK),bO k A->wx P w K mg base A outer s H->BindsTo s fd args (ps.zip us)->Vals vs us->sp vs H Q E ->
  codeAny (model P w) A (.call (.ref f) args) (CR CX outer P w H s Q E) s
theorem bG.mono{P:Program}{w:World}{K:Frag}{mg:Str->Option Value}{base:Heap}{CX:Ar}{j k:Nat}{f:Addr}{fd:FuncData}{ps:List Str}{sp:Sp}(F:bG P w K mg base CX j f fd ps sp)(h:j<=k): bG P w K mg base CX k f fd ps sp:={F.len,λA outer s H args us vs Q E hr=>F.run A outer s H args us vs Q E<|hr.mono h}
theorem bG.imp{P:Program}{w:World}{K:Frag}{mg:Str->Option Value}{base:Heap}{CX:Ar}{k:Nat}{f:Addr}{fd:FuncData}{ps:List Str}{sp VH:Sp}(F:bG P w K mg base CX k f fd ps sp) (h:∀vs H Q E,VH vs H Q E->sp vs H Q E):bG P w K mg base CX k f fd ps VH:={λvs H Q E q=>F.len vs H Q E<|h _ _ _ _ q,λA outer s H args us vs Q E hr he hb hv hs=>F.run A outer s H args us vs Q E hr he hb hv<|h _ _ _ _ hs}
theorem wx.make{P:Program}{w:World}{K:Frag}{mg:Str->Option Value}{base:Heap}{A:Around}{outer:List Env}{s:Shared}{H:Hp}(e:wx P w K mg base A outer s H)(C:Addr)(us:List Value)(kw:List<|Str×Value): wx P w K mg base (A.under<|.builtin "type.__call__" {.ref C::us,kw}) outer s H:={by first|exact e.frames|(simpa [Around.under,Code.envs,Code.isFrame,pushEnvs]using e.frames),e.mod,e.bs,e.Gb,e.mX,e.Nz,e.aM,e.bare}
section
variable{X:Cx}{pins:List (Addr×Obj)}{σ:St}{H:Hp}{s s':Shared}
theorem Inv.RX(I:Inv X pins σ H s):wx X.prog X.w X.K X.mg X.base X.A X.stack s H:={I.ok.frames,I.ok.mod,I.bs,zH I.ok.Gb I.sz,I.stack,I.lE,I.aM,I.bare}
theorem Inv.after(I:Inv X pins σ H s)(h:CE X.stack X.prog X.w H s Q u s'):EP X pins σ Q u s':=by obtain⟨v,H',os,bare,un,aM,r,q⟩:=h;obtain⟨hh,g,d,t,RY⟩:=s';obtain rfl:RY=s.os:=os;exact{v,H',I.call (h':=hh) (g':=g) (d':=d) (t':=t) (ch:=[]) un aM bare λb z=>absurd z<|by simp,r,q}
end
def Binds(K:Frag)(fd:FuncData)(ps:List Str)(ds:List Value):Prop:=∀(s:Shared)(us:List Value),K.In s.heap->(us++ds).length=ps.length->BindsTo s fd {us,[]} (ps.zip<|us++ds)
theorem Binds.all{K:Frag}{fd:FuncData}{ps:List Str}(h:∀us:List Value,us.length=ps.length->bindArgs fd {us,[]}=pure (ps.zip us)):Binds K fd ps []:=λs us _ hl=>by rw[List.append_nil]at hl⊢;exact .of_eq<|h us hl
def Passes(CX:Ar)(X:Cx)(E:XK):Prop:=∀(pins:List (Addr×Obj))(σ:St)(H:Hp)(s:Shared)(e:Value)(s':Shared),Inv X pins σ H s->CX X.stack H s E e s'->X.xe e s'
section
variable{f C:Addr}
structure Mk(K:Frag)(C f:Addr):Prop where
 makes:makesIn K C=true
 init:findIn K (.ref C) "__init__"= some (some<|.ref f)
 fn:isFn K (.ref f)=true
 kp:keepIn K (.ref C)=true
end
section
variable{fd:FuncData}{ps ks:List Str}
structure W8(K:Frag)(fd:FuncData)(ps ks:List Str)(g:List Value->List Value->List Value)(gV:List V->List V->List V):Prop where
 to:∀(s:Shared)(us ws:List Value),K.In s.heap->(g us ws).length=ps.length->BindsTo s fd {us,ks.zip ws} (ps.zip<|g us ws)
 rel:∀{vs:List V}{us:List Value}{zs:List V}{ws:List Value},Vals vs us->Vals zs ws->Vals (gV vs zs) (g us ws)
variable{g:List Value->List Value->List Value}{gV:List V->List V->List V}
end
structure fE(N P:List Str)(sc:Scope):Prop where
 kind:sc.kind=.function
 co:sc.isCoroutine=false
 gen:sc.isGenerator=false
 nd:N.Nodup
 pre:N.take P.length=P
 par:∀x∈P,sc.names.lookup x=some .local\/sc.names.lookup x=some .cell
 Ob:∀y∈sc.names,y.2≠.free
theorem tD{kindOf:Str->Option NameKind}{x:Str} : ∀{binds:List (Str×Value)}{m:Str->Option Value},(∀v,(x,v)∉binds)->bindL kindOf binds m x=m x
 |[],_,_=>rfl
 | (n,v)::r,m,h=>by
  unfold bindL;rw[tD λw hw=>h w<|ze _ hw];split;have:x≠n:=by rintro rfl;exact h v zi
  simp[this];rfl
theorem tE{kindOf:Str->Option NameKind}{x:Str} : ∀{binds:List (Str×Value)}{m:Str->Option Value},(∀v,(x,v)∉binds)->bindC kindOf binds m x=m x
 |[],_,_=>rfl
 | (n,v)::r,m,h=>by
  unfold bindC;rw[tE λw hw=>h w<|ze _ hw];split;rfl;have:x≠n:=by rintro rfl;exact h v zi
  simp[this]
theorem tG{kindOf:Str->Option NameKind}{x:Str}{v:Value} : ∀{P:List Str}{vs:List Value}{i:Nat}{m:Str->Option Value},P.Nodup->P[i]?=some x->vs[i]?=some v->kindOf x=some .local->bindL kindOf (P.zip vs) m x=some v|[],_,_,_,_,h,_,_=>by simp at h|_::_,[],_,_,_,_,h,_=>by simp at h|p::P,w::vs,0,m,nd,h1,h2,hk=>by simp at h1 h2;subst h1;subst h2;show bindL kindOf ((p,w)::P.zip vs) m p=_;unfold bindL;rw[tD λv hv=>(yo.mp nd).1 (List.of_mem_zip hv).1,if_pos hk];simp|p::P,w::vs,i+1,m,nd,h1,h2,hk=>by show bindL kindOf ((p,w)::P.zip vs) m x=_;unfold bindL;exact tG (i:=i) (yo.mp nd).2 (by simpa using h1) (by simpa using h2) hk
theorem tH{kindOf:Str->Option NameKind}{x:Str}{v:Value} : ∀{P:List Str}{vs:List Value}{i:Nat}{m:Str->Option Value},P.Nodup->P[i]?=some x->vs[i]?=some v->kindOf x≠some .local->bindC kindOf (P.zip vs) m x=some v|[],_,_,_,_,h,_,_=>by simp at h|_::_,[],_,_,_,_,h,_=>by simp at h|p::P,w::vs,0,m,nd,h1,h2,hk=>by simp at h1 h2;subst h1;subst h2;show bindC kindOf ((p,w)::P.zip vs) m p=_;unfold bindC;rw[tE λv hv=>(yo.mp nd).1 (List.of_mem_zip hv).1,if_neg hk];simp|p::P,w::vs,i+1,m,nd,h1,h2,hk=>by show bindC kindOf ((p,w)::P.zip vs) m x=_;unfold bindC;exact tH (i:=i) (yo.mp nd).2 (by simpa using h1) (by simpa using h2) hk
noncomputable def start(N:List Str)(vs:List V):St:=vs.map some++List.replicate (N.length-vs.length) none
def jP(CX:Ar)(P:Program)(w:World)(K:Frag)(mg:Str->Option Value)(base:Heap)(N:List Str)(qual:Str)(scope:Scope)(f:Addr)(cd:Value)(A:Around)(outer:List Env)(s:Shared)(H:Hp)(E:XK):Cx where
 prog:=P
 w:=w
 K:=K
 mg:=mg
 base:=base
 A:=A.deeper<|envOfC qual scope s.heap.objs.size f cd
 N:=N
 cI:=s
 so:=H
 env:=envOfC qual scope s.heap.objs.size f cd
 outer:=outer
 stack:=envOfC qual scope s.heap.objs.size f cd::outer
 ex:=[]
 calm:=true
 fn:=λ_=>true
 pn:=[]
 xe:=λe s'=>wpAny (model P w) (A.deeper<|envOfC qual scope s.heap.objs.size f cd) (leaving (envOfC qual scope s.heap.objs.size f cd) e) (λ_ As=>CX outer H s E e As) (λe' As=>CX outer H s E e' As) s'
theorem wz{sc:Scope}{n:Nat}{x:Str}(h:sc.names.lookup x=some .cell):∃c,(cellsFrom n sc.names []).lookup x=some c:=by have q:=PySem.W.cellsFrom_some sc.names n []<|.inl h;exact Option.isSome_iff_exists.mp q
theorem Ef{CX:Ar}{P:Program}{w:World}{K:Frag}{mg:Str->Option Value}{base:Heap}{N ps:List Str}{qual:Str}{scope:Scope}{f:Addr}{cd:Value}{A:Around}{outer:List Env}{s s1:Shared}{H:Hp}{E:XK}{us:List Value}{vs:List V} (S:fE N ps scope) (hd:A.handled=none) (e0:wx P w K mg base A outer s H) (hl:vs.length=ps.length) (r:Vals vs us) (x:InCallC s s.heap.objs.size (bindL (envOfC qual scope s.heap.objs.size f cd).kindOf (ps.zip us) λ_=>none) (cellsFrom (s.heap.objs.size+1) scope.names []) (bindC (envOfC qual scope s.heap.objs.size f cd).kindOf (ps.zip us) λ_=>none) s1): Inv (jP CX P w K mg base N qual scope f cd A outer s H E) [] (start N vs) H s1:=by
 have dr:ps.length<=N.length:=by have:=congrArg List.length S.pre;rw[yy]at this;lia
 obtain⟨h1,tk,rfl,hk⟩:=x.done;have JY:∀b:Addr,b∉(jP CX P w K mg base N qual scope f cd A outer s H E).ex:=λb z=>absurd (show b∈([]:List Addr) from z) (by simp);refine{{e0.mod,S.kind,rfl,rfl,zp _,λy z c h1 h2=>?_,λy hy=>?_,λy c _ h=>?_,λ_=>hd,Around.frames_deeper e0.frames,.inr ⟨rfl,rfl⟩,λb z=>absurd z<|JY b,e0.bs,e0.Gb,λb _ _=>JY b,λb z=>absurd z<|JY b,e0.mX,e0.Nz},rfl,e0.bare,Un.kept hk,{_,x.toInCall.ns,λi y v h1 h2 h3=>?_},λy c h=>{_,x.cell y c h},e0.aM.fresh<|zp _,λy c h=>?_,λp hp=>absurd (show p∈([]:List (Addr×Obj)) from hp)<|by simp,e0.aM.kept hk,?_};exact name_of_addr x.apart (zV h1)<|zV h2;have hy:scope.names.lookup y=some .cell\/scope.names.lookup y=some .free:=hy;rcases hy with hy|hy;exact wz hy;exact absurd rfl<|S.Ob _<|zV hy;exact yD<|x.above y c<|zV h;have hi:i<vs.length:=by unfold start at h2;by_cases hi:i<vs.length;exact hi;rw[List.getElem?_append_right<|by simpa using hi]at h2;rw[List.getElem?_replicate]at h2;split at h2<;>cases h2
 have ha:vs[i]?=some v:=by unfold start at h2;rw[List.getElem?_append_left<|by simpa using hi,zw]at h2;cases e:vs[i]? with|none=>(rw[e]at h2;cases h2)|some a=>rw[e]at h2;cases h2;rfl
 obtain⟨u,hu,rv⟩:=r.get ha;have hp:ps[i]?=some y:=by rw[<-S.pre,List.getElem?_take_of_lt<|by lia];exact h1
 have ZV:ps.Nodup:=by rw[<-S.pre];exact S.nd.sublist<|List.take_sublist _ _
 refine{u,rv,?_};rcases S.par y (zG hp) with k|k;exact .inl {k,tG ZV hp hu k};obtain⟨c,e⟩:=wz (n:=s.heap.objs.size+1) k;refine .inr {.inl k,c,e,?_};have q:=x.cell y c e;rw[tH ZV hp hu<|by show scope.names.lookup y≠_;rw[k];decide]at q;exact q;exact e0.aM.fresh<|yD<|x.above y c<|zV h;unfold start;show _=N.length;rw[zC,zb,List.length_replicate];lia
theorem Mq{CX:Ar}{P:Program}{w:World}{K:Frag}{mg:Str->Option Value}{base:Heap}{k:Nat}{f:Addr}{name qual:Str}{params:Arguments}{body:List Stmt}{scope:Scope}{dV kV doc pm gu ct oc:Value}{an od:Option Addr} {Oc:Array<|Option Value}{N ps:List Str}{sp:Sp} (lk:K.lookup f=some {oc,od,.func<|fnOf name qual params body scope dV kV doc pm an gu ct,Oc}) (rW:codeIn K gu qual=true) (S:fE N ps scope) (len:∀vs H Q E,sp vs H Q E->vs.length=ps.length) (lG:∀(A:Around)(outer:List Env)(s:Shared)(H:Hp)(vs:List V)(Q:VK)(E:XK),bO k (A.deeper<|envOfC qual scope s.heap.objs.size f gu)->sp vs H Q E->∃t,B9 (jP CX P w K mg base N qual scope f gu A outer s H E) body t/\t {nx:=λ_ H'=>Q .ax H',rt:=Q} (start N vs) H): bG P w K mg base CX (k+1) f (fnOf name qual params body scope dV kV doc pm an gu ct) ps sp:=by
 refine{len,λA outer s H args us vs Q E hr e0 hb r QP=>?_};have hl:=len _ _ _ _ QP;have KX:K.In s.heap:=e0.mod.QM.keeps λb o e=>(e0.bs b o e).1;have lim:s.heap.NoLimit:=e0.mod.nolimit.keeps λb o e=>(e0.bs b o e).1;have RZ:∀y∈ps.zip us,scope.names.lookup y.1=some .local\/(scope.names.lookup y.1=some .cell/\((cellsFrom (s.heap.objs.size+1) scope.names []).lookup y.1).isSome=true):=by rintro⟨n,v⟩ hy;rcases S.par n (List.of_mem_zip hy).1 with q|q;exact .inl q;exact .inr {q,PySem.W.cellsFrom_some _ _ _<|.inl q}
 refine codeAny_call_function hr.depth (KX _ _ lk) rfl S.co S.gen rfl (PySem.W.codeRec_of KX rW)<|hb _ _ _ _ ?_;refine wpAny_newFunctionEnv_cells S.kind RZ λenv he s1 x=>?_;subst he;refine{lim.keeps x.toInCall.keep,codeAny_func ?_};obtain⟨t,ht,hq⟩:=lG A outer s H vs Q E (hr.deeper _) QP;have I:Inv (jP CX P w K mg base N qual scope f gu A outer s H E) [] (start N vs) H s1:=Ef S hr.hd e0 hl r x;refine yF (ht [] s1 (start N vs) H _ I hq) (λfl s' hs=>?_) λe s' hs=>hs;have fin:∀{aJ:St}{H':Hp}{v:V}{u:Value},Inv (jP CX P w K mg base N qual scope f gu A outer s H E) [] aJ H' s'->RelV v u->Q v H'->CE outer P w H s Q u s':=λ{aJ H' v u} J rv q=>⟨v,H',J.os,J.bare,J.base,J.aM,rv,q⟩;cases fl with|ret u=>(obtain⟨v,aJ,H',J,rv,q⟩:=hs;exact fin J rv q)|next=>(obtain⟨aJ,H',J,q⟩:=hs;exact fin (v:=V.ax) (u:=Value.none) J rfl q)|brk=>(obtain⟨_,_,_,q⟩:=hs;exact False.elim q)|cont=>obtain⟨_,_,_,q⟩:=hs;exact False.elim q
section
variable{X:Cx}{x:Str}{p pos:Pos}{e:Expr}{es:List Expr}{t:TA}{id T:String}{r:List V->Hp->VK->Prop}
def W9(r:List V->Hp->VK->Prop)(t:TA):TE:=λσ H Q=>t σ H λvs H1=>r vs H1 Q
theorem wA(hc:dO X (.builtin id) r)(hg:Gl X x)(hm:X.mg x=none)(hv:bootBuiltins x=some (.builtin id))(ha:PA X (e::es) t)(hn:autoParam (x≠"__name__") qQZ)(o_:autoParam ((x==("__debug__": Str))=false) qQZ) (he:autoParam (starEach (e::es) X.env=(false,eval e X.env)::starEach es X.env) qQJ) (dr:autoParam ((backTo pos<|starEach es X.env).any (·.1)=false) qQJ):PE X (.Call (.Name x p) (e::es) [] pos) (W9 r t):=by intro pins s σ H Q I h;refine wpAny_Call_Name_kw<|eS I hg hm hv ?_ hn o_;exact PyProof.Rows.callWith_builtin1 (bf (ha pos pins s σ H _ I h) <| by rintro us s1 ⟨vs,H1,I1,r1,q1⟩;exact hc pins s1 σ H1 vs us Q I1 r1 q1) he dr
theorem tI(hc:dO X (.type T) r)(hg:Gl X x)(hm:X.mg x=none)(hv:bootBuiltins x=some (.type T))(ha:PA X (e::es) t)(hn:autoParam (x≠"__name__") qQZ)(o_:autoParam ((x==("__debug__": Str))=false) qQZ) (he:autoParam (starEach (e::es) X.env=(false,eval e X.env)::starEach es X.env) qQJ) (dr:autoParam ((backTo pos<|starEach es X.env).any (·.1)=false) qQJ):PE X (.Call (.Name x p) (e::es) [] pos) (W9 r t):=by intro pins s σ H Q I h;refine wpAny_Call_Name_kw<|eS I hg hm hv ?_ hn o_;exact PyProof.Rows.callWith_type1 (bf (ha pos pins s σ H _ I h) <| by rintro us s1 ⟨vs,H1,I1,r1,q1⟩;exact hc pins s1 σ H1 vs us Q I1 r1 q1) he dr
end
end L2
namespace HT
open PySem PyProof.Rows
section
noncomputable def sIx(n d:Nat):Option Int->Nat|none=>d|some v=>if v<0 then (v+(n:Int)).toNat else min v.toNat n
theorem sIx_nat(n d k:Nat):sIx n d (some (k:Int))=min k n:=by show(if (k:Int)<0 then ((k:Int)+(n:Int)).toNat else min (k:Int).toNat n)=min k n;rw[if_neg<|by lia,Int.toNat_natCast]
end
end HT
namespace L2
open PySem PySem.Spec PyProof.Rows
abbrev TO:=St->Hp->(Option Int->Hp->Prop)->Prop
def PO(X:Cx)(e:Option Expr)(t:TO):Prop:=∀(pins:List (Addr×Obj))(s:Shared)(σ:St)(H:Hp)(Q:Option Int->Hp->Prop),Inv X pins σ H s->t σ H Q->wpAny (model X.prog X.w) X.A (evalPart e X.env) (λu s'=>∃o H',Inv X pins σ H' s'/\IsPart u o/\Q o H') X.xe s
def R1(t:TE):TO:=λσ H Q=>t σ H λx H1=>∃i,x=.int i/\Q (some i) H1
section
variable{X:Cx}{e:Expr}{te:TE}{lo hi:Option Expr}{tl th:TO}{pos p2:Pos}
theorem JZ(h:PE X e te):PO X (some e) (R1 te):=by intro pins s σ H Q I hw;rw[evalPart_some];refine bf (h pins s σ H _ I hw) λu s1 ⟨x,H1,I1,r1,q1⟩=>?_;obtain⟨i,rfl,q⟩:=q1;obtain⟨t,rfl⟩:=r1;exact{some i,H1,I1,.int i t,q}
def W_(X:Cx)(r:V->Option Int->Option Int->Hp->VK->Prop):Prop:=∀(pins:List (Addr×Obj))(s:Shared)(σ:St)(H:Hp)(x:V)(v vl vu:Value)(lo hi:Option Int)(sl:Addr)(Q:VK),Inv X pins σ H s->RelV x v->s.heap.IsSliceOf sl vl vu .none->IsPart vl lo->IsPart vu hi->r x lo hi H Q->∃T id,typeLookup (.type T) "__getitem__"= pure (some<|.builtin id)/\s.TypeIs v T/\wpAny (model X.prog X.w) X.A (getItem v<|.ref sl) (EP X pins σ Q) X.xe s
def tSl(r:V->Option Int->Option Int->Hp->VK->Prop)(te:TE)(tl th:TO):TE:=λσ H Q=>te σ H λx H1=>tl σ H1 λl H2=>th σ H2 λu H3=>r x l u H3 Q
theorem Gv{r:V->Option Int->Option Int->Hp->VK->Prop}(hr:W_ X r)(he:PE X e te)(hl:PO X lo tl)(hu:PO X hi th):PE X (.Subscript e (.Slice lo hi none p2) pos) (tSl r te tl th):=by intro pins s σ H Q I h;refine Subscript_<|bf (he pins s σ H _ I h) λv s1 ⟨x,H1,I1,r1,q1⟩=>?_;refine wpAny_Slice<|bf (hl pins s1 σ H1 _ I1 q1) λvl s2 ⟨l,H2,I2,pl,q2⟩=>bf (hu pins s2 σ H2 _ I2 q2) λvu s3 ⟨u,H3,I3,pu,q3⟩=>?_;rw[evalPart_none];refine zA ?_;have I4:Inv X pins σ H3 {s3 with heap:=s3.heap.push {cls:=.type "slice",data:=.fields #[vl,vu,.none]}}:=I3.kept (t':=s3.toks) λb ob q=>za _ q;obtain⟨T,id,hT,ht,hg⟩:=hr pins {s3 with heap:=s3.heap.push {cls:=.type "slice",data:=.fields #[vl,vu,.none]}} σ H3 x v vl vu l u s3.heap.objs.size Q I4 r1 (Heap.IsSliceOf.new ..) pl pu q3;show wpAny (model X.prog X.w) X.A (subscriptTail e (.Slice lo hi none p2) v<|.ref s3.heap.objs.size) (EP X pins σ Q) X.xe {s3 with heap:=s3.heap.push {cls:=.type "slice",data:=.fields #[vl,vu,.none]}};exact tail_any (ops:=[.ref s3.heap.objs.size,v]) ht hT hg<|by with_unfolding_all rfl
noncomputable def Eg(xs:List V)(lo hi:Option Int):List V:=(xs.drop<|HT.sIx xs.length 0 lo).take<|HT.sIx xs.length xs.length hi-HT.sIx xs.length 0 lo
theorem wB(xs:List V)(lo hi:Option Int):(Eg xs lo hi).length<=xs.length:=by unfold Eg;rw[yy,List.length_drop];lia
end
noncomputable def Gw(n:Nat)(i:Int):Option Nat:=if 0<=i then (if i<n then some i.toNat else none) else if -(n:Int)<=i then some (i+n).toNat else none
noncomputable def tJ{α:Type}(xs:List α)(i:Int):Option α:=(Gw xs.length i).bind λj=>xs[j]?
theorem Cj(h:Gw n i=some j):seqIndex? i n=some j/\j<n/\-(n:Int)<=i/\i<n:=by unfold Gw at h;by_cases h0:0<=i;rw[if_pos h0]at h;by_cases h1:i<n;rw[if_pos h1]at h;have e:i.toNat=j:=zO h;exact{by rw[seqIndex_of h0 h1,e],by lia,by lia,h1};rw[if_neg h1]at h;cases h;rw[if_neg h0]at h;by_cases h1:-(n:Int)<=i;rw[if_pos h1]at h;have e:(i+n).toNat=j:=zO h;exact{by rw[seqIndex_neg (by lia) h1,e],by lia,h1,by lia};rw[if_neg h1]at h;cases h
theorem ux(h:tJ xs i=some v):∃j,seqIndex? i xs.length=some j/\xs[j]?=some v/\j<xs.length/\-(xs.length:Int)<=i/\i<xs.length:=by unfold tJ at h;cases e:Gw xs.length i with|none=>(rw[e]at h;cases h)|some j=>rw[e]at h;obtain⟨h1,h2,h3,h4⟩:=Cj e;exact⟨j,h1,h,h2,h3,h4⟩
theorem jB{α:Type}{xs:List α}{j:Nat}{v:α}(h:xs[j]?=some v):tJ xs (j:Int)=some v:=by
 have hj:j<xs.length:=(zk.mp h).1;have e:Gw xs.length (j:Int)=some j:=by unfold Gw;rw[if_pos<|by lia,if_pos<|by lia];simp
 unfold tJ;rw[e];exact h
def Ck(b:Expr):Prop:=∀o i,subscripted b false o i=operate [o,i] (getItem o i)
def R3(X:Cx)(r:R2):Prop:=∀(value slice:Expr)(pins:List (Addr×Obj))(s:Shared)(σ:St)(H:Hp)(x y:V)(v u:Value)(Q:VK),Inv X pins σ H s->RelV x v->RelV y u->r x y H Q->subscripted slice false v u=operate [v,u] (getItem v u)->wpAny (model X.prog X.w) X.A (subscriptTail value slice v u) (EP X pins σ Q) X.xe s
def Od(X:Cx)(id:String)(r:V->List V->Hp->VK->Prop):Prop:=∀(pins:List (Addr×Obj))(s:Shared)(σ:St)(H:Hp)(x:V)(xs:List V)(v:Value)(us:List Value)(Q:VK),Inv X pins σ H s->RelV x v->Vals xs us->r x xs H Q->wpAny (model X.prog X.w) X.A (call (.builtin id)<|v::us) (EP X pins σ Q) X.xe s
section
variable{X:Cx}{a b:Expr}{ta tb:TE}{pos:Pos}
theorem R4(hr:R3 X r)(ha:PE X a ta)(hb:PE X b tb)(hs:Ck b):PE X (.Subscript a b pos) (QO r ta tb):=by intro pins s σ H Q I h;exact Subscript_<|NX ha hb I h λv u s2 x y H2 I2 rx ry q=>hr a b pins s2 σ H2 x y v u Q I2 rx ry q<|hs _ _
def Xa(K:Frag):R2:=λx y H Q=>∃p xs i v,x=.ref p/\y=.int i/\iQ K H p xs/\tJ xs i=some v/\Q v H
def Xb(K:Frag):R2:=λx y H Q=>∃p xs i v,x=.ref p/\y=.int i/\iu K H p xs/\tJ xs i=some v/\Q v H
def Xc:R2:=λx y H Q=>∃z i c,x=.str z/\y=.int i/\z.length<=sizeLine/\tJ z.cps.toList i=some c/\Q (.str ⟨#[c]⟩) H
theorem Co:R3 X (Xa X.K):=by
 intro value slice pins s σ H x y v u Q I rx ry h hs;obtain⟨p,xs,i,z,rfl,rfl,hq,he,q⟩:=h;cases rx;obtain⟨t,rfl⟩:=ry;obtain⟨au,r,pl,hz⟩:=I.list hq;obtain⟨j,h1,h2,h3,h4,h5⟩:=ux he;obtain⟨w,ew,p9⟩:=r.get h2;have hl:=r.length;have hn:=p6;have fin:EP X pins σ Q w s:=⟨z,H,I,p9,q⟩;by_cases h0:0<=i;have hj:i.toNat=j:=by rw[seqIndex_of h0 h5]at h1;exact zO h1
 exact item_listR pl.isList h0 (by lia) (by rw[hj];simpa using ew) fin hs;have hj:(i+(au.toArray.size:Int)).toNat=j:=by rw[seqIndex_neg (by lia) h4]at h1;rw[zo,<-hl];exact zO h1
 exact subscriptTail_builtinR (x:=w) pl.isList.typeIs slot_list_getitem.lookup (wpAny_getItem_list_neg (Q:=λr s'=>r=w/\EP X pins σ Q r s') pl.isList (by lia) (by rw[zo]<;>lia) (by lia) (by rw[hj];simpa using ew) ⟨rfl,fin⟩) hs
theorem Gx:R3 X (Xb X.K):=by intro value slice pins s σ H x y v u Q I rx ry h hs;obtain⟨p,xs,i,z,rfl,rfl,hq,he,q⟩:=h;cases rx;obtain⟨t,rfl⟩:=ry;obtain⟨au,r,pl,hz⟩:=I.tuple hq;obtain⟨j,h1,h2,h3,h4,h5⟩:=ux he;obtain⟨w,ew,p9⟩:=r.get h2;have hl:=r.length;have hn:=p6;have fin:EP X pins σ Q w s:=⟨z,H,I,p9,q⟩;exact subscriptTail_builtinR (x:=w) pl.typeIs slot_tuple_getitem.lookup (getItem_tuple (j:=j) (Q:=λr s'=>r=w/\EP X pins σ Q r s') pl (by lia) (by lia) (by rw[zo,<-hl];exact h1) (by simpa using ew) ⟨rfl,fin⟩) hs
theorem Oe:R3 X Xc:=by
 intro value slice pins s σ H x y v u Q I rx ry h hs;obtain⟨z,i,c,rfl,rfl,hz,he,q⟩:=h;obtain⟨t,rfl⟩:=rx;obtain⟨t',rfl⟩:=ry;obtain⟨j,h1,h2,h3,h4,h5⟩:=ux he;have hl:z.cps.toList.length=z.length:=by simp[Str.length]
 rw[hl]at h1 h4 h5;have hn:=p6;exact tail_any (typeIs_str s z t) slot_str_getitem.lookup (getItem_str (c:=c) (by have e1:decide (i < -(2^63:Int))=false:=zy (by lia);have e2:decide (i>=2^63)=false:=zy (by lia);rw[e1,e2,Bool.or_false]) (by rw[h1];simpa using h2) {.str ⟨#[c]⟩,H,I.tok _,{_,rfl},q}) hs
theorem Au(au:List Value)(n j:Nat)(u:Value):Obj.mapSeq (·.setIfInBounds j u) {cls:=.type "list",data:=.seq au.toArray n}={cls:=.type "list",data:=.seq (au.set j u).toArray n}:=by simp[Obj.mapSeq]
theorem Inv.lst(I:Inv X pins σ H s)(h:H p=some (.lst xs)): ∃(au:List Value)(n:Nat),Vals xs au/\s.heap.get? p=some {cls:=.type "list",data:=.seq au.toArray n}/\xs.length<=sizeLine:=by obtain⟨z,au,n,r,e⟩:=I.aM p _ h;exact⟨au,n,r,e,z⟩
theorem Inv.Of{pins:List<|Addr×Obj}{σ:St}{H:Hp}{s:Shared}{p:Addr}{xs ys:List V}{au its':List Value}{n n':Nat}{f:Obj->Obj}(I:Inv X pins σ H s)(h:H p=some (.lst xs)) (ho:s.heap.get? p=some {cls:=.type "list",data:=.seq au.toArray n}) (hf:f {cls:=.type "list",data:=.seq au.toArray n}={cls:=.type "list",data:=.seq its'.toArray n'}) (r:Vals ys its') (hz:ys.length<=sizeLine) (t:Nat): Inv X pins σ (upd H p<|.lst ys) {s with heap:=s.heap.update p f,toks:=t}:=by
 have e:(s.heap.update p f).get? p=some {cls:=.type "list",data:=.seq its'.toArray n'}:=by rw[yu f ho<|by rw[hf]<;>rfl,hf]
 refine I.write (x:=p) (e:=p) (by rw[h];trivial) (.inl rfl) (λb u hb q=>(yp _ _<|Ne.symm hb).trans q) {_,e} ?_;exact⟨hz,its',n',r,e⟩
def R5:V->V->V->Hp->(Hp->Prop)->Prop:=λo i v H Q=>∃p xs k j,o=.ref p/\i=.int k/\H p=some (.lst xs)/\Gw xs.length k=some j/\Q (upd H p<|.lst<|xs.set j v)
theorem set_list:RE X R5:=by
 intro pins s σ H o i v ov iv u Q I ro ri rv h;obtain⟨p,xs,k,j,rfl,rfl,hp,hj,q⟩:=h;cases ro;obtain⟨t,rfl⟩:=ri;obtain⟨au,n,r,ho,hz⟩:=I.lst hp;obtain⟨h1,h2,h3,h4⟩:=Cj hj;have hl:=r.length;have hn:=p6;have I':Inv X pins σ (upd H p<|.lst<|xs.set j v) {s with heap:=s.heap.update p (Obj.mapSeq (·.setIfInBounds j u))}:=I.Of hp ho (Au au n j u) (r.set rv j) (by rw[List.length_set];exact hz) s.toks;by_cases h0:0<=k;have hk:k.toNat=j:=by rw[seqIndex_of h0 h4]at h1;exact zO h1
 exact PySem.W.ki_setAt ho h0 (by lia) (by rw[zo,<-hl];exact h4) (by rw[hk];exact{_,I',q});have hk:(k+(au.toArray.size:Int)).toNat=j:=by rw[seqIndex_neg (by lia) h3]at h1;rw[zo,<-hl];exact zO h1
 exact PySem.W.ki_setBack ho (by lia) (by rw[zo,<-hl];exact h3) (by lia)<|by rw[hk];exact{_,I',q}
theorem uy(lo hi:Option Int)(n:Nat):(sliceBounds lo hi none n).1=((HT.sIx n 0 lo:Nat):Int)/\(sliceBounds lo hi none n).2.1=((HT.sIx n n hi:Nat):Int)/\(sliceBounds lo hi none n).2.2=1:=by
 refine{?_,?_,rfl};cases lo with|none=>simp[sliceBounds,HT.sIx]|some i=>simp only[sliceBounds,HT.sIx,Option.getD_none,show(1:Int)>0 by decide,if_true];by_cases h:i<0;simp only[h,if_true]<;>lia;simp only[h,if_false]<;>lia
 cases hi with|none=>simp[sliceBounds,HT.sIx]|some i=>simp only[sliceBounds,HT.sIx,Option.getD_none,show(1:Int)>0 by decide,if_true];by_cases h:i<0;simp only[h,if_true]<;>lia;simp only[h,if_false]<;>lia
theorem su(au:List Value)(lo hi:Option Int):slicePick au.toArray lo hi none=((au.drop<|HT.sIx au.length 0 lo).take<|HT.sIx au.length au.length hi-HT.sIx au.length 0 lo).toArray:=by obtain⟨h1,h2,h3⟩:=uy lo hi au.toArray.size;unfold slicePick;rw[h1,h2,h3];simp only[sliceRange_one,pick_run,zo]<;>rfl
def Xd(K:Frag):V->Option Int->Option Int->Hp->VK->Prop:=λx lo hi H Q=>∃a xs,x=.ref a/\iQ K H a xs/\∀p,H p=none->Q (.ref p) (upd H p<|.lst<|Eg xs lo hi)
theorem Cp:W_ X (Xd X.K):=by intro pins s σ H x v vl vu lo hi sl Q I rx hs pl pu h;obtain⟨a,xs,rfl,hx,q⟩:=h;cases rx;obtain⟨au,r,ht,hz⟩:=I.list hx;have hlen:=r.length;refine{"list",_,slot_list_getitem.lookup,ht.isList.typeIs,?_};refine wpAny_getItem_list_slice ht.isList hs pl pu .none (by simp) ?_ (by rw[zo]<;>lia);rw[su,<-hlen];refine{.ref s.heap.objs.size,_,I.laid (t':=s.toks) (o:=.lst<|Eg xs lo hi) (λb ob q=>za _ q) (zp _) ?_,rfl,q _<|I.aM.fresh<|zp _};exact{zH (wB xs lo hi) hz,_,0,(r.drop<|HT.sIx xs.length 0 lo).take<|HT.sIx xs.length xs.length hi-HT.sIx xs.length 0 lo,zm _ rfl}
noncomputable def gv:V->Bool|.ax=>true|.bl _=>true|.int _=>true|.str _=>true|_=>false
noncomputable def eqV:V->V->Bool|.ax,.ax=>true|.bl a,.bl b=>a==b|.bl a,.int b=>((if a then 1 else 0)==b)|.int a,.bl b=>(a==(if b then 1 else 0))|.int a,.int b=>a==b|.str a,.str b=>a==b|_,_=>false
theorem Oh(ry:RelV y u)(rx:RelV x v)(fy:gv y=true)(fx:gv x=true):SeqAt.EqAt A s u v (eqV y x):=by cases y with|ax=>(cases ry;cases x with|ax=>(cases rx;exact SeqAt.EqAt.same _)|bl b=>(cases rx;exact SeqAt.EqAt.none_bool b)|int b=>(obtain⟨t,rfl⟩:=rx;exact SeqAt.EqAt.none_int b t)|str b=>(obtain⟨t,rfl⟩:=rx;exact SeqAt.EqAt.none_str b t)|_=>exact absurd (show false=true from fx) zd)|bl a=>(cases ry;cases x with|ax=>(cases rx;exact SeqAt.EqAt.bool_none a)|bl b=>(cases rx;exact SeqAt.EqAt.bool_bool a b)|int b=>(obtain⟨t,rfl⟩:=rx;exact SeqAt.EqAt.bool_int a b t)|str b=>(obtain⟨t,rfl⟩:=rx;exact SeqAt.EqAt.bool_str a b t)|_=>exact absurd (show false=true from fx) zd)|int a=>(obtain⟨t',rfl⟩:=ry;cases x with|ax=>(cases rx;exact SeqAt.EqAt.int_none a t')|bl b=>(cases rx;exact SeqAt.EqAt.int_bool a t' b)|int b=>(obtain⟨t,rfl⟩:=rx;exact SeqAt.EqAt.int_int a t' b t)|str b=>(obtain⟨t,rfl⟩:=rx;exact SeqAt.EqAt.int_str a t' b t)|_=>exact absurd (show false=true from fx) zd)|str a=>(obtain⟨t',rfl⟩:=ry;cases x with|ax=>(cases rx;exact SeqAt.EqAt.str_none a t')|bl b=>(cases rx;exact SeqAt.EqAt.str_bool a t' b)|int b=>(obtain⟨t,rfl⟩:=rx;exact SeqAt.EqAt.str_int a t' b t)|str b=>(obtain⟨t,rfl⟩:=rx;exact SeqAt.EqAt.str_str a t' b t)|_=>exact absurd (show false=true from fx) zd)|_=>exact absurd (show false=true from fy) zd
noncomputable def wC(x:V)(u:Value):Bool:=match u with|.none=>eqV .ax x|.bool b=>eqV (.bl b) x|.int i _=>eqV (.int i) x|.str z _=>eqV (.str z) x|_=>false
theorem Av(r:RelV y u)(f:gv y=true):wC x u=eqV y x:=by cases y with|ax=>(cases r;rfl)|bl b=>(cases r;rfl)|int i=>(obtain⟨t,rfl⟩:=r;rfl)|str z=>(obtain⟨t,rfl⟩:=r;rfl)|_=>exact absurd (show false=true from f) zd
theorem lH:∀{xs:List V}{us:List Value},Vals xs us->xs.all gv=true->us.any (wC x)=xs.any λy=>eqV y x|_,_,.nil,_=>rfl|y::xs,u::us,.cons r t,f=>by rw[yH,zK]at f;rw[yt,yt,Av r f.1,lH t f.2]
theorem gw(rx:RelV x v)(fx:gv x=true):∀{xs:List V}{us:List Value},Vals xs us->xs.all gv=true->∀u∈us,SeqAt.EqAt A s u v (wC x u)|_,_,.nil,_=>(λu hu=>by cases hu)|y::xs,u::us,.cons r t,f=>λu' hu=>by rw[yH,zK]at f;rcases zh.mp hu with rfl|hu;rw[Av r f.1];exact Oh r rx f.1 fx;exact gw rx fx t f.2 u' hu
noncomputable def Eh(x:V)(xs:List V):Bool:=xs.any λy=>eqV y x
def ZW(K:Frag)(neg:Bool):R2:=λx y H Q=>∃p xs,y=.ref p/\(iQ K H p xs\/iu K H p xs)/\gv x=true/\xs.all gv=true/\Q (.bl<|if neg then !Eh x xs else Eh x xs) H
theorem m8:gs X (compareOp .In) (ZW X.K false):=by intro pins s σ H x y v u Q I rx ry h;obtain⟨p,xs,rfl,hq,fx,fs,q⟩:=h;cases ry;rcases hq with hq|hq;obtain⟨au,r,pl,hz⟩:=I.list hq;refine SeqAt.in_listAt (wC x) pl.isList (λw hw=>gw rx fx r fs w<|by simpa using hw) {.bl _,H,I,rfl,?_};rw[show au.toArray.any (wC x)=au.any (wC x) by simp,lH r fs];exact q;obtain⟨au,r,pl,hz⟩:=I.tuple hq;refine SeqAt.in_tupleAt (wC x) pl (λw hw=>gw rx fx r fs w<|by simpa using hw) {.bl _,H,I,rfl,?_};rw[show au.toArray.any (wC x)=au.any (wC x) by simp,lH r fs];exact q
theorem gR:gs X (compareOp .NotIn) (ZW X.K true):=by intro pins s σ H x y v u Q I rx ry h;obtain⟨p,xs,rfl,hq,fx,fs,q⟩:=h;cases ry;rcases hq with hq|hq;obtain⟨au,r,pl,hz⟩:=I.list hq;refine SeqAt.notIn_listAt (wC x) pl.isList (λw hw=>gw rx fx r fs w<|by simpa using hw) {.bl _,H,I,rfl,?_};rw[show au.toArray.any (wC x)=au.any (wC x) by simp,lH r fs];exact q;obtain⟨au,r,pl,hz⟩:=I.tuple hq;refine SeqAt.notIn_tupleAt (wC x) pl (λw hw=>gw rx fx r fs w<|by simpa using hw) {.bl _,H,I,rfl,?_};rw[show au.toArray.any (wC x)=au.any (wC x) by simp,lH r fs];exact q
theorem lI:dO X (.type "list") (λxs H Q=>∃p ys,xs=[.ref p]/\(iQ X.K H p ys\/iu X.K H p ys)/\∀l,H l=none->Q (.ref l) (upd H l<|.lst ys)):=by intro pins s σ H xs us Q I r h;obtain⟨p,ys,rfl,hq,q⟩:=h;obtain⟨u,rfl,rx⟩:=vals1 r;cases rx;have fin:∀(au:List Value),Vals ys au->ys.length<=sizeLine->∀(h':Heap) (c':Nat),(∀b o',s.heap.get? b=some o'->h'.get? b=some o')->h'.get? s.heap.objs.size=some {cls:=.type "list",dict:=none,data:=.seq au.toArray c',slots:=#[]}->EP X pins σ Q (.ref s.heap.objs.size) {s with heap:=h'}:=λau r' hz h' c' kp e=>{.ref s.heap.objs.size,_,I.laid (t':=s.toks) kp (zp _)<|show bj X.prog X.w _ h' _ (.lst ys) from⟨hz,au,c',r',e⟩,rfl,q _<|I.aM.fresh<|zp _};rcases hq with hq|hq;obtain⟨au,r',pl,hz⟩:=I.list hq;have hlen:=r'.length;obtain⟨o,ho,hc,n,hd⟩:=pl.isList;exact call_list_seq p (.inl rfl) ho hc hd (λh' c' kp e=>fin au r' hz h' c' kp e) (by simp only[zo]<;>lia);obtain⟨au,r',pl,hz⟩:=I.tuple hq;have hlen:=r'.length;obtain⟨o,ho,hc,n,hd⟩:=pl;exact call_list_seq p (.inr rfl) ho hc hd (λh' c' kp e=>fin au r' hz h' c' kp e)<|by simp only[zo]<;>lia
theorem j6:dO X (.type "tuple") (λxs H Q=>∃p ys,xs=[.ref p]/\((iQ X.K H p ys/\∀l,H l=none->Q (.ref l) (upd H l<|.tup ys))\/(iu X.K H p ys/\Q (.ref p) H))):=by intro pins s σ H xs us Q I r h;obtain⟨p,ys,rfl,h⟩:=h;obtain⟨u,rfl,rx⟩:=vals1 r;cases rx;rcases h with⟨hq,q⟩|⟨hq,q⟩;obtain⟨au,r',pl,hz⟩:=I.list hq;have hlen:=r'.length;refine call_tuple_list pl.isList (λh' kp=>?_) (by simp only[zo]<;>lia);have I1:Inv X pins σ H {s with heap:=h'}:=I.kept (t':=s.toks) kp;have I2:Inv X pins σ (upd H h'.objs.size<|.tup ys) {s with heap:=h'.push {cls:=.type "tuple",data:=.seq au.toArray}}:=I1.laid (t':=s.toks) (λb o e=>za _ e) (zp _)<|show bj X.prog X.w _ _ _ (.tup ys) from{hz,au,r',iS.new _ _};exact{.ref h'.objs.size,_,I2,rfl,q _<|I1.aM.fresh<|zp _};obtain⟨au,r',pl,hz⟩:=I.tuple hq;exact call_tuple_same pl {.ref p,H,I,rfl,q}
def VI(K:Frag)(T:String)(x:V)(H:Hp):Prop:=match x with|.str _=>T ="str"|.int _=>T ="int"|.ref p=>(T ="list"/\∃xs,iQ K H p xs)\/(T ="tuple"/\∃o,K.lookup p=some o/\o.cls=.type "tuple"/\o.dict=none)\/(T ="dict"/\((∃kvs,H p=some (.dK kvs))\/∃kvs,H p=some (.dT kvs)))\/(T ="set"/\∃S n,H p=some (.set S n))|_=>False
theorem Gy{T:String}(I:Inv X pins σ H s)(r:RelV x v)(ty:VI X.K T x H): s.TypeIs v T/\∀a,v=.ref a->∃ob,s.heap.get? a=some ob/\ob.dict=none:=by cases x with|str z=>(obtain⟨t,rfl⟩:=r;cases (show T ="str" from ty);exact{typeIs_str s z t,λ_ e=>nomatch e})|int i=>(obtain⟨t,rfl⟩:=r;cases (show T ="int" from ty);exact{typeIs_int s i t,λ_ e=>nomatch e})|ref p=>(cases r;rcases ty with⟨rfl,xs,hq⟩|⟨rfl,o,hk,hc,hd⟩|⟨rfl,hk⟩|⟨rfl,S,n,hk⟩;obtain⟨au,_,pl,_⟩:=I.list hq;refine{pl.isList.typeIs,λa e=>?_};cases e;obtain⟨o,n,e,c,hd,_⟩:=pl;exact⟨o,e,hd⟩;refine{{o,I.oi p o hk,hc},λa e=>?_};cases e;exact{o,I.oi _ o hk,hd};have z:∃o,s.heap.get? p=some o/\o.ExactDict:=(by rcases hk with⟨kvs,hk⟩|⟨kvs,hk⟩;obtain⟨_,_,_,_,o,_,_,e,ex,_⟩:=I.aM p _ hk;exact⟨o,e,ex⟩;exact False.elim<|I.aM p _ hk);obtain⟨o,e,ex⟩:=z;refine{⟨o,e,ex.1⟩,λa e2=>?_};cases e2;exact⟨o,e,ex.2.1⟩;obtain⟨o,_,_,_,e,ex,_⟩:=I.aM p _ hk;refine{⟨o,e,ex.1⟩,λa e2=>?_};cases e2;exact⟨o,e,ex.2.1⟩)|_=>exact False.elim ty
def Xe(K:Frag)(T:String)(r:V->List V->Hp->VK->Prop)(to:TE):TE:=λσ H Q=>to σ H λx H1=>VI K T x H1/\r x [] H1 Q
def tBM(K:Frag)(T:String)(r:V->List V->Hp->VK->Prop)(to:TE)(t:TA):TE:=λσ H Q=>to σ H λx H1=>VI K T x H1/\t σ H1 λxs H2=>r x xs H2 Q
variable{o e:Expr}{es:List Expr}{to:TE}{t:TA}{name:Str}{apos aQ:Pos}{T id:String}{r:V->List V->Hp->VK->Prop}
theorem Oi(pa:PlainAttrs T)(slot:Slot T name id)(Oj:typeOf (.builtin id)=pure (.type "method_descriptor"))(hm:Od X id r)(ho:PE X o to) (lJ:autoParam (attributeBase o name X.env (eval o X.env)=eval o X.env) qQJ) (p_:autoParam ((apos.endLine==aQ.line)=true) qQJ):PE X (.Call (.Attribute o name apos) [] [] aQ) (Xe X.K T r to):=by intro pins s σ H Q I h;refine wpAny_Call_method0_late lJ p_<|bf (ho pins s σ H _ I h) λv s1 ⟨x,H1,I1,r1,ty,q1⟩=>?_;obtain⟨h1,h2⟩:=Gy I1 r1 ty;exact{T,id,pa,slot,Oj,h1,h2,Calls.callWith_builtin rfl<|PySem.evalArgs_none<|hm pins s1 σ H1 x [] v [] Q I1 r1 .nil q1}
theorem R6(pa:PlainAttrs T)(slot:Slot T name id)(Oj:typeOf (.builtin id)=pure (.type "method_descriptor"))(hm:Od X id r)(ho:PE X o to)(ha:PA X (e::es) t) (lJ:autoParam (attributeBase o name X.env (eval o X.env)=eval o X.env) qQJ) (Ol:autoParam (((backTo aQ<|starEach (e::es) X.env).all (λx=>!x.1)&&(backToKw aQ<|keywordEach [] X.env).all (λx=>x.1.isSome)&&decide ((e::es).length+([]:List Keyword).length+(if ([]:List Keyword).isEmpty then 0 else 1)<30))=true) qQJ) (p_:autoParam ((apos.endLine==aQ.line)=true) qQJ) (hs:autoParam (starEach (e::es) X.env=(false,eval e X.env)::starEach es X.env) qQJ) (Aw:autoParam ((backTo aQ<|starEach es X.env).any (·.1)=false) qQJ): PE X (.Call (.Attribute o name apos) (e::es) [] aQ) (tBM X.K T r to t):=by intro pins s σ H Q I h;refine wpAny_Call_method_late lJ Ol p_ rfl<|bf (ho pins s σ H _ I h) λv s1 ⟨x,H1,I1,r1,ty,q1⟩=>?_;obtain⟨h1,h2⟩:=Gy I1 r1 ty;refine{T,id,pa,slot,Oj,h1,h2,?_};have hA:=ha aQ pins s1 σ H1 _ I1 q1;rw[hs]at hA⊢;refine Calls.callWith_builtin (by show(false||(backTo aQ<|starEach es X.env).any (·.1))=false;rw[Aw]<;>rfl)<|Calls.evalArgs_plain ?_;exact bf hA <| by rintro us s2 ⟨vs,H2,I2,r2,q2⟩;exact hm pins s2 σ H2 x vs v us Q I2 r1 r2 q2
end
def VJ(X:Cx)(id:String)(r:V->List V->Hp->VK->Prop):Prop:=∀(pins:List (Addr×Obj))(s:Shared)(σ:St)(H:Hp)(x:V)(xs:List V)(v:Value)(us:List Value)(Q:VK),Inv X pins σ H s->RelV x v->Vals xs us->r x xs H Q->wpAny (model X.prog X.w) X.A (call (.builtin id)<|v::us) (EP X pins σ Q) X.xe s
theorem Vals.one:∀{x:V}{us:List Value},Vals [x] us->∃u,us=[u]/\RelV x u:=by intro x us h;cases h with|cons r t=>cases t;exact{_,rfl,r}
theorem Vals.two:∀{x y:V}{us:List Value},Vals [x,y] us->∃u v,us=[u,v]/\RelV x u/\RelV y v:=by intro x y us h;cases h with|cons r t=>obtain⟨_,rfl,q⟩:=Vals.one t;exact{_,_,rfl,r,q}
theorem Vals.zero:∀{us:List Value},Vals [] us->us=[]|_,.nil=>rfl
theorem Vals.dropLast{xs:List V}{us:List Value}(h:Vals xs us):Vals xs.dropLast us.dropLast:=by induction h with|nil=>exact .nil|cons r t ih=>cases t with|nil=>exact .nil|cons q t'=>exact .cons r ih
theorem Vals.eraseIdx:∀{xs:List V}{us:List Value}(i:Nat),Vals xs us->Vals (xs.eraseIdx i) (us.eraseIdx i)|_,_,_,.nil=>.nil|_,_,0,.cons _ t=>t|_,_,i+1,.cons r t=>.cons r<|Vals.eraseIdx i t
theorem Ax{α:Type}(l:List α):l.eraseIdx (l.length-1)=l.dropLast:=by induction l with|nil=>rfl|cons a r ih=>cases r with|nil=>rfl|cons b r=>have e:(a::b::r).length-1=((b::r).length-1)+1:=(by have h1:(a::b::r).length=r.length+2:=rfl;have h2:(b::r).length=r.length+1:=rfl;lia);rw[e,List.eraseIdx_cons_succ,ih];all_goals rfl
theorem tK{α:Type} : ∀(l:List α)(i:Nat),(l.eraseIdx i).length<=l.length|[],_=>zp _|_::_,0=>yN _|_::r,i+1=>Nat.succ_le_succ<|tK r i
section
variable{X:Cx}{pins:List (Addr×Obj)}{σ:St}{H:Hp}{s:Shared}{l:Addr}{xs ys:List V}
theorem Inv.J1{au its':List Value}{n:Nat}{f:Array Value->Array Value}{t':Nat}(I:Inv X pins σ H s)(hH:H l=some (.lst xs)) (e:s.heap.get? l=some {cls:=.type "list",data:=.seq au.toArray n}) (hf:f au.toArray=its'.toArray) (hv:Vals ys its') (hz:ys.length<=sizeLine): Inv X pins σ (upd H l<|.lst ys) {s with heap:=s.heap.update l<|Obj.mapSeq f,toks:=t'}:=by have q:=PySem.IsL.update e f;rw[hf]at q;refine I.write (x:=l) (e:=l) (by rw[hH];exact trivial) (.inl rfl) (λb' u hb hu=>(yp s.heap (Obj.mapSeq f)<|Ne.symm hb).trans hu) {_,q} ?_;exact{hz,its',_,hv,q}
theorem Inv.Xf(I:Inv X pins σ H s)(hv:Vals ys au)(hz:ys.length<=sizeLine): Inv X pins σ (upd H s.heap.objs.size<|.lst ys) {s with heap:=s.heap.push {cls:=.type "list",data:=.seq au.toArray},toks:=t'}:=I.laid (λ_ _ q=>za _ q) (zp _) {hz,au,0,hv,zm _ rfl}
theorem Inv.fresh(I:Inv X pins σ H s):H s.heap.objs.size=none:=I.aM.fresh<|zp _
theorem Inv.Ei(I:Inv X pins σ H s)(hH:H l=some (.lst xs)):xs.length<=sizeLine/\∃(au:List Value)(n:Nat),Vals xs au/\xs.length=au.length/\s.heap.get? l=some {cls:=.type "list",data:=.seq au.toArray n}:=by obtain⟨z,au,n,r,e⟩:=I.aM l _ hH;exact⟨z,au,n,r,r.length,e⟩
theorem Gz{n:Nat}(h:n<=sizeLine):Builtin.List.listTooLong n=false:=by unfold Builtin.List.listTooLong;exact zy<|by lia
end
section
variable{X:Cx}
def J2:V->List V->Hp->VK->Prop:=λx vs H Q=>∃l xs y,x=.ref l/\vs=[y]/\H l=some (.lst xs)/\xs.length<sizeLine/\Q .ax (upd H l<|.lst<|xs++[y])
theorem Ej:VJ X "list.append" J2:=by intro pins s σ H x vs v us Q I rx rv h;obtain⟨l,xs,y,rfl,rfl,hH,hz,q⟩:=h;cases rx;obtain⟨u,rfl,ru⟩:=rv.one;obtain⟨z,au,n,r,hl,e⟩:=I.Ei hH;refine call_meets F.slot_list_append {_,e,rfl} F.entry_list_append (F.args_list_append_2 _ _) (PySem.list_append l au.toArray n u<|by rw[zo];lia) {e,?_};refine{.ax,_,I.J1 (its':=au++[u]) hH e (by simp) (r.append<|.cons ru .nil) ?_,rfl,q};rw[zC,List.length_singleton];lia
def Xg:V->List V->Hp->VK->Prop:=λx vs H Q=>∃l xs y,x=.ref l/\vs=[]/\H l=some (.lst xs)/\xs[xs.length-1]?=some y/\Q y (upd H l<|.lst xs.dropLast)
theorem Om:VJ X "list.pop" Xg:=by
 intro pins s σ H x vs v us Q I rx rv h;obtain⟨l,xs,y,rfl,rfl,hH,hy,q⟩:=h;cases rx;have hus:=rv.zero;subst hus;obtain⟨z,au,n,r,hl,e⟩:=I.Ei hH;obtain⟨u,hu,ru⟩:=r.get hy;have R7:au.toArray[au.toArray.size-1]?=some u:=by show au.toArray[au.length-1]?=some u;rw[<-Array.getElem?_toList,<-hl];exact hu
 refine call_meets F.slot_list_pop {_,e,rfl} F.entry_list_pop (F.args_list_pop_1 _) (MeetsSeq.list_pop_last l au.toArray n u R7<|by rw[zo];lia) {e,?_};refine{y,_,I.J1 (its':=au.dropLast) hH e ?_ r.dropLast ?_,ru,q};show au.toArray.eraseIdxIfInBounds (au.toArray.size-1)=au.dropLast.toArray;rw[zo,List.eraseIdxIfInBounds_toArray,Ax];rw[List.length_dropLast];lia
def Oo:V->List V->Hp->VK->Prop:=λx vs H Q=>∃l xs i k y,x=.ref l/\vs=[.int i]/\H l=some (.lst xs)/\-(2^63)<=i/\i<2^63/\seqIndex? i xs.length=some k/\xs[k]?=some y/\Q y (upd H l<|.lst<|xs.eraseIdx k)
theorem GA:VJ X "list.pop" Oo:=by intro pins s σ H x vs v us Q I rx rv h;obtain⟨l,xs,i,k,y,rfl,rfl,hH,h1,h2,hk,hy,q⟩:=h;cases rx;obtain⟨u,rfl,ru⟩:=rv.one;obtain⟨t,rfl⟩:=ru;obtain⟨z,au,n,r,hl,e⟩:=I.Ei hH;obtain⟨w,hw,p9⟩:=r.get hy;refine call_meets F.slot_list_pop {_,e,rfl} F.entry_list_pop (F.args_list_pop_2 _ _) (MeetsSeq.list_pop_at l au.toArray n i t k w (fitsIndex_both h1 h2) (by rw[zo,<-hl];exact hk) (by rw[<-Array.getElem?_toList];exact hw)<|by rw[zo];lia) {e,?_};refine{y,_,I.J1 (its':=au.eraseIdx k) hH e ?_ (r.eraseIdx k) ?_,p9,q};show au.toArray.eraseIdxIfInBounds k=(au.eraseIdx k).toArray;rw[List.eraseIdxIfInBounds_toArray];have:=tK xs k;lia
def Xh:R2:=λx y H Q=>∃l b xs zs,x=.ref l/\y=.ref b/\H l=some (.lst xs)/\H b=some (.lst zs)/\xs.length+zs.length<=sizeLine/\∀p,H p=none->Q (.ref p) (upd H p<|.lst<|xs++zs)
theorem Oq:gs X (binaryOp .Add) Xh:=by
 intro pins s σ H x y v u Q I rx ry h;obtain⟨l,b,xs,zs,rfl,rfl,hH,hB,hz,q⟩:=h;cases rx;cases ry;obtain⟨z,au,n,r,hl,e⟩:=I.Ei hH;obtain⟨z2,uz,n2,r2,Jp,e2⟩:=I.Ei hB;refine PySem.P.add_list e e2 ?_ (by rw[zo,zo];lia);have ea:au.toArray++uz.toArray=(au++uz).toArray:=by simp
 rw[ea];exact{.ref _,_,I.Xf (t':=s.toks) (r.append r2)<|by rw[zC];lia,rfl,q _ I.fresh}
end
section
variable{κ:Type}[DecidableEq κ]
noncomputable def fB(kvs:List<|κ×V)(k:κ):Option V:=(kvs.find? λkv=>decide<|kv.1=k).map (·.2)
noncomputable def putK(kvs:List<|κ×V)(k:κ)(v:V):List (κ×V):=if (kvs.any λkv=>decide<|kv.1=k)=true then kvs.map (λkv=>if kv.1=k then (kv.1,v) else kv) else kvs++[(k,v)]
noncomputable def oo(kvs:List<|κ×V)(k:κ):List (κ×V):=kvs.filter λkv=>decide<|kv.1≠k
theorem qd{p:κ×V}{r:List<|κ×V}{k:κ}(e:p.1=k):fB (p::r) k=some p.2:=by simp[fB,yb,e]
theorem qf{p:κ×V}{r:List<|κ×V}{k:κ}(e:¬p.1=k):fB (p::r) k=fB r k:=by simp[fB,yb,e]
theorem oq(kvs:List<|κ×V)(k:κ)(v:V):(putK kvs k v).length<=kvs.length+1:=by unfold putK;split;rw[zb];lia;rw[zC,zJ,List.length_nil];lia
theorem fA.gx(r:fA o u):o.isSome=u.isSome:=by cases o with|none=>(cases u with|none=>rfl|some _=>exact(show False from r).elim)|some _=>cases u with|none=>exact(show False from r).elim|some _=>rfl
theorem fA.getD{o:Option V}{u:Option Value}{d:V}{d':Value}(r:fA o u)(rd:RelV d d'):RelV (o.getD d) (u.getD d'):=by cases o with|none=>(cases u with|none=>exact rd|some _=>exact(show False from r).elim)|some _=>cases u with|none=>exact(show False from r).elim|some _=>exact r
theorem KV.val{kvs:List<|κ×V}{vs:List<|κ×Value}(r:KV kvs vs)(k:κ):fA (fB kvs k) (valueAt vs k):=by unfold KV at r;induction r with|nil=>exact True.intro|@cons p q ps qs h t ih=>obtain⟨h1,h2⟩:=h;by_cases e:p.1=k;have e':q.1=k:=h1.symm.trans e;have b:valueAt (q::qs) k=some q.2:=(by simp[valueAt,yb,e']);rw[qd e,b];exact h2;have e':¬q.1=k:=λz=>e<|h1.trans z;have b:valueAt (q::qs) k=valueAt qs k:=(by simp[valueAt,yb,e']);rw[qf e,b];exact ih
theorem KV.any{kvs:List<|κ×V}{vs:List<|κ×Value}(r:KV kvs vs)(k:κ):(kvs.any λkv=>decide<|kv.1=k)=vs.any λkv=>decide (kv.1=k):=by unfold KV at r;induction r with|nil=>rfl|cons h t ih=>rw[yt,yt,ih,h.1]
theorem KV.Ot(r:KV kvs vs)(k:κ)(ry:RelV y u): KV (kvs.map λkv=>if kv.1=k then (kv.1,y) else kv) (vs.map λkv=>if kv.1=k then (kv.1,u) else kv):=by unfold KV at r⊢;induction r with|nil=>exact .nil|@cons p q ps qs h t ih=>rw[zq,zq];refine .cons ?_ ih;obtain⟨h1,h2⟩:=h;by_cases e:p.1=k;rw[if_pos e,if_pos<|h1.symm.trans e];exact⟨h1,ry⟩;rw[if_neg e,if_neg λz=>e<|h1.trans z];exact⟨h1,h2⟩
theorem KV.put(r:KV kvs vs)(k:κ)(ry:RelV y u):KV (putK kvs k y) (stored vs k u):=by unfold putK stored;rw[r.any k];by_cases e:(vs.any λkv=>decide<|kv.1=k)=true;rw[if_pos e,if_pos e];exact r.Ot k ry;rw[if_neg e,if_neg e];exact Paired.snoc r ⟨rfl,ry⟩
theorem KV.drop(r:KV kvs vs)(k:κ):KV (oo kvs k) (without vs k):=by unfold KV at r⊢;unfold oo without;induction r with|nil=>exact .nil|@cons p q ps qs h t ih=>obtain⟨h1,h2⟩:=h;rw[yz,yz];by_cases e:p.1=k;have a:¬decide (p.1≠k)=true:=(by simp[e]);have b:¬decide (q.1≠k)=true:=(by simp[h1.symm.trans e]);rw[if_neg a,if_neg b];exact ih;have e':¬q.1=k:=λz=>e<|h1.trans z;have a:decide (p.1≠k)=true:=(by simp[e]);have b:decide (q.1≠k)=true:=(by simp[e']);rw[if_pos a,if_pos b];exact .cons ⟨h1,h2⟩ ih
theorem KV.length{kvs:List<|κ×V}{vs:List<|κ×Value}(r:KV kvs vs):kvs.length=vs.length:=yT r
theorem GB(kvs:List<|κ×V)(k:κ):(oo kvs k).length<=kvs.length:=List.length_filter_le _ _
end
theorem iV(r:RelV (kV k) u):(aG P w).is k u=true:=by cases k with|inl i=>(obtain⟨t,e⟩:=(show ∃t,u=Value.int i t from r);subst e;exact wk P w i t)|inr x=>obtain⟨t,e⟩:=(show ∃t,u=Value.str x t from r);subst e;exact iR P w x t
theorem tL:∀{ks:List Key}{us:List Value},Vals (ks.map kV) us->ItemsAre (aG P w) ks us|[],_,r=>(by rw[yO]at r;cases r;exact .nil)|k::ks,_,r=>by rw[zq]at r;cases r with|cons h t=>exact .cons (iV h)<|tL t
abbrev KT(H:Hp):List (List Key×V)->List (List Key×Addr×Value)->Prop:=Paired λp q=>p.1=q.1/\H q.2.1=some (.tup<|p.1.map kV)/\RelV p.2 q.2.2
theorem KT.val{H:Hp}{kvs:List<|List Key×V}{xs:List<|List Key×Addr×Value}(r:KT H kvs xs)(k:List Key):fA (fB kvs k) ((atKey xs k).map (·.2)):=by induction r with|nil=>exact True.intro|@cons p q ps qs h t ih=>obtain⟨h1,_,h2⟩:=h;by_cases e:p.1=k;have e':q.1=k:=h1.symm.trans e;have b:atKey (q::qs) k=some q.2:=(by simp[atKey,yb,e']);rw[qd e,b];exact h2;have e':¬q.1=k:=λz=>e<|h1.trans z;have b:atKey (q::qs) k=atKey qs k:=(by simp[atKey,yb,e']);rw[qf e,b];exact ih
section
variable{P:Program}{w:World}{H:Hp}{h:Heap}{a:Addr}
theorem Mr(ok:kC P w H h)(e:Rd H a u):bj P w H h a u:=e.ok ok
theorem lK(ok:kC P w H h)(e:Rd H a<|.dK kvs):kvs.length<=sizeLine/\(a==sysModules)=false/\∃vs,KV kvs vs/\h.DictOf (aG P w) a vs:=show bj P w H h a (.dK kvs) from Mr ok e
theorem Cq(ok:kC P w H h)(e:H a=some (.dK kvs)):kvs.length<=sizeLine/\(a==sysModules)=false/\∃vs,KV kvs vs/\h.DictOf (aG P w) a vs:=lK ok<|.inl e
theorem qg(ok:kC P w H h)(e:H a=some (.tup<|ks.map kV)):(tupleKind<|aG P w).is h ks a:=by obtain⟨_,au,r,o,h1,h2,_,n,h3⟩:=(show bj P w H h a (.tup<|ks.map kV) from ok a _ e);exact{o,au.toArray,n,h1,h2,h3,by simpa using tL r}
theorem qh(ok:kC P w H h)(e:Rd H a<|.dT kvs):kvs.length<=sizeLine/\(a==sysModules)=false/\∃xs,KT H kvs xs/\h.DictOfH (tupleKind<|aG P w) a xs:=by exact False.elim<|show bj P w H h a (.dT kvs) from Mr ok e
end
def m9(H:Hp)(a:Addr)(y:V)(r:Option V):Prop:=(∃kvs k,Rd H a (.dK kvs)/\y=kV k/\r=fB kvs k)\/∃kvs k b,Rd H a (.dT kvs)/\y=.ref b/\H b=some (.tup<|k.map kV)/\r=fB kvs k
def GC(H:Hp)(a:Addr)(y v:V)(H':Hp):Prop:=(∃kvs k,H a=some (.dK kvs)/\y=kV k/\kvs.length<sizeLine/\H'=upd H a (.dK<|putK kvs k v))\/∃kvs k b,H a=some (.dT kvs)/\y=.ref b/\H b=some (.tup<|k.map kV)/\kvs.length<sizeLine/\H'=upd H a (.dT<|putK kvs k v)
theorem m9.k{H:Hp}{a:Addr}{kvs:List<|Key×V}{k:Key}(e:H a=some (.dK kvs)):m9 H a (kV k) (fB kvs k):=.inl {kvs,k,.inl e,rfl,rfl}
theorem GC.k{H:Hp}{a:Addr}{kvs:List<|Key×V}{k:Key}{v:V}(e:H a=some (.dK kvs))(hl:kvs.length<sizeLine):GC H a (kV k) v (upd H a<|.dK<|putK kvs k v):=.inl ⟨kvs,k,e,rfl,hl,rfl⟩
section
variable{X:Cx}{pins:List (Addr×Obj)}{σ:St}{H:Hp}{s:Shared}{a:Addr}{y v:V}{u r:Value}{o:Option V}{A:Around}{E:Value->Shared->Prop}
theorem Inv.big(I:Inv X pins σ H s):sysModules<s.heap.objs.size:=by have h:mainGlobals<s.heap.objs.size:=(I.mod.glob.keeps I.bk).lt;exact Nat.lt_trans (by decide) h
theorem Ek(hu:A.units+1<cLine)(I:Inv X pins σ H s)(g:m9 H a y<|some v)(ry:RelV y u)(h:∀w' s',Inv X pins σ H s'->RelV v w'->Q w' s'): wpAny (model X.prog X.w) A (getItem (.ref a) u) Q E s:=by rcases g with⟨kvs,k,e,ey,l⟩|⟨kvs,k,b,e,ey,eb,l⟩;subst ey;obtain⟨z,hd,vs,rel,dd⟩:=lK I.aM e;obtain⟨w',hw,p9⟩:=fA.some_of (v:=v) (o:=valueAt vs k) (by rw[l];exact rel.val k);exact wpAny_getItem_of (iV ry) dd.mapOf hw<|h w' _ (I.tok _) p9;subst ey;cases (show u=Value.ref b from ry);obtain⟨z,hd,xs,rel,dd⟩:=qh I.aM e;obtain⟨w',hw,p9⟩:=fA.some_of (v:=v) (o:=(atKey xs k).map (·.2)) (by rw[l];exact rel.val k);obtain⟨p,hp,lL⟩:=Option.map_eq_some_iff.mp hw;refine wpAny_getItem_heap (tupleKind_room_in1 hu) (qg I.aM eb) dd hp ?_;rw[lL];exact h w' _ (I.tok _) p9
theorem Xi(hu:A.units+1<cLine)(I:Inv X pins σ H s)(g:m9 H a y o)(ry:RelV y u)(h:∀s',Inv X pins σ H s'->Q (.bool o.isSome) s'): wpAny (model X.prog X.w) A (compareOp .In u<|.ref a) Q E s:=by rcases g with⟨kvs,k,e,ey,l⟩|⟨kvs,k,b,e,ey,eb,l⟩;subst ey;obtain⟨z,hd,vs,rel,dd⟩:=lK I.aM e;refine wpAny_in_of (iV ry) hd dd.mapOf ?_;rw[<-(rel.val k).gx,<-l];exact h _<|I.tok _;subst ey;cases (show u=Value.ref b from ry);obtain⟨z,hd,xs,rel,dd⟩:=qh I.aM e;refine wpAny_in_heap (tupleKind_room_in1 hu) (qg I.aM eb) hd dd ?_;have q:=(rel.val k).gx;rw[Option.isSome_map]at q;rw[<-q,<-l];exact h _<|I.tok _
theorem J3(hu:A.units+1<cLine)(I:Inv X pins σ H s)(g:m9 H a y o)(ry:RelV y u)(h:∀s',Inv X pins σ H s'->Q (.bool<|!o.isSome) s'): wpAny (model X.prog X.w) A (compareOp .NotIn u<|.ref a) Q E s:=by rcases g with⟨kvs,k,e,ey,l⟩|⟨kvs,k,b,e,ey,eb,l⟩;subst ey;obtain⟨z,hd,vs,rel,dd⟩:=lK I.aM e;refine wpAny_notIn_of (iV ry) hd dd.mapOf ?_;rw[<-(rel.val k).gx,<-l];exact h _<|I.tok _;subst ey;cases (show u=Value.ref b from ry);obtain⟨z,hd,xs,rel,dd⟩:=qh I.aM e;refine wpAny_notIn_heap (tupleKind_room_in1 hu) (qg I.aM eb) hd dd ?_;have q:=(rel.val k).gx;rw[Option.isSome_map]at q;rw[<-q,<-l];exact h _<|I.tok _
theorem uA(I:Inv X pins σ H s)(mu:Ro<|H a)(hs:Heap.SameBut a s.heap h')(he:∃q,h'.get? a=some q)(new:bj X.prog X.w (upd H a ob) h' a ob): Inv X pins σ (upd H a ob) {s with heap:=h',toks:=t'}:=I.write (x:=a) (e:=a) mu (.inl rfl) (λb q hb z=>(hs.2 b hb).trans z) he new
theorem Ay(z:kvs.length<=sizeLine)(hd:(a==sysModules)=false)(rel:KV kvs vs)(dd:h'.DictOf (aG P w) a vs): bj P w H' h' a (.dK kvs):=⟨z,hd,vs,rel,dd⟩
theorem El(hu:A.units+1<cLine)(I:Inv X pins σ H s)(g:GC H a y v H')(ry:RelV y u)(rv:RelV v r)(h:∀s',Inv X pins σ H' s'->Q () s'): wpAny (model X.prog X.w) A (setItem (.ref a) u r) Q E s:=by
 rcases g with⟨kvs,k,e,ey,l,eH⟩|⟨kvs,k,b,e,ey,eb,l,eH⟩;subst ey eH;obtain⟨z,hd,vs,rel,dd⟩:=Cq I.aM e;have hz:vs.length<=sizeLine:=by rw[<-rel.length];exact z
 have hl:(putK kvs k v).length<=sizeLine:=by have:=oq kvs k v;lia
 refine wpAny_setItem_pairs (hsz:=hz) (iV ry) dd λh' Ms hs=>h _ ?_;have he:∃q,h'.get? a=some q:=by obtain⟨q,_,_,hq,_⟩:=Ms;exact⟨q,hq⟩
 exact uA I (by rw[e];exact True.intro) hs he<|Ay hl hd (rel.put k rv) Ms;exact False.elim<|I.aM _ _ e
end
section
variable{X:Cx}{pins:List (Addr×Obj)}{σ:St}{H:Hp}{s:Shared}{a:Addr}{kvs:List (Key×V)}{k:Key}{u:Value}{A:Around}{E:Value->Shared->Prop}
theorem R8(I:Inv X pins σ H s)(e:H a=some (.dK kvs))(ry:RelV (kV k) u)(l:fB kvs k=some v)(hm:more=[]\/∃x,more=[x]) (h:∀w' s',Inv X pins σ (upd H a<|.dK<|oo kvs k) s'->RelV v w'->Q w' s'):wpAny (model X.prog X.w) A (call (.builtin "dict.pop")<|.ref a::u::more) Q E s:=by
 obtain⟨z,hd,vs,rel,dd⟩:=Cq I.aM e;obtain⟨w',hw,p9⟩:=fA.some_of (v:=v) (o:=valueAt vs k) (by rw[<-l];exact rel.val k);have hp:(keyPart u).isSome=true:=by cases k with|inl i=>(obtain⟨t,q⟩:=(show ∃t,u=Value.int i t from ry);subst q;rfl)|inr x=>obtain⟨t,q⟩:=(show ∃t,u=Value.str x t from ry);subst q;rfl
 have ha:argsOk "dict.pop" {.ref a::u::more,[]}:=by rcases hm with q|⟨x,q⟩;subst q;exact PySem.F.args_dict_pop_2 _ _;subst q;exact PySem.F.args_dict_pop_3 _ _ _
 refine call_meetsIn PySem.F.slot_dict_pop dd.typeIs PySem.F.entry_dict_pop ha (meets_dict_pop_there (aG X.prog X.w) a (iV ry) more hm hp) {vs,w',dd,by rw[<-rel.length];exact z,hw,λh' Ms hs=>h w' _ ?_ p9};have he:∃q,h'.get? a=some q:=by obtain⟨q,_,_,hq,_⟩:=Ms;exact⟨q,hq⟩
 exact uA I (by rw[e];exact True.intro) hs he<|Ay (zH (GB kvs k) z) hd (rel.drop k) Ms
theorem R9(I:Inv X pins σ H s)(e:Rd H a<|.dK kvs)(h:∀t s',Inv X pins σ H s'->Q (.int kvs.length t) s'):wpAny (model X.prog X.w) A (call (.builtin "len") [.ref a]) Q E s:=by obtain⟨z,hd,vs,rel,dd⟩:=lK I.aM e;refine call_len_dict hd dd (by rw[<-rel.length];rw[ye]at z;lia) ?_;rw[<-rel.length];exact h _ _<|I.tok _
end
theorem wD(I:Inv X pins σ H s)(g:m9 H a y o):s.TypeIs (.ref a) "dict":=by rcases g with⟨kvs,k,e,_,_⟩|⟨kvs,k,b,e,_,_,_⟩;obtain⟨_,_,vs,_,dd⟩:=lK I.aM e;exact dd.typeIs;obtain⟨_,_,xs,_,dd⟩:=qh I.aM e;exact dd.typeIs
def R_(td ty tv:TE):TS:=λD σ H=>tv σ H λv H1=>td σ H1 λx H2=>ty σ H2 λy H3=>∃a H4,x=.ref a/\GC H3 a y v H4/\D.nx σ H4
section
variable{X:Cx}{o i value:Expr}{pos pos':Pos}{td ty tv:TE}
theorem J4(hu:X.A.units+1<cLine)(ho:PE X o td)(hi:PE X i ty)(hv:PE X value tv)(hs:swapsWith value (some<|.Subscript o i pos') pos.line X.env=pure false): PS X (.Assign [.Subscript o i pos'] value pos) (R_ td ty tv):=by intro pins s σ H D I h;refine wpAny_Assign_Subscript (bf (hv pins s σ H _ I h) λr s1 ⟨v,H1,I1,rv,q1⟩=>bf (ho pins s1 σ H1 _ I1 q1) λu s2 ⟨x,H2,I2,rx,q2⟩=>bf (hi pins s2 σ H2 _ I2 q2) λiv s3 ⟨y,H3,I3,ry,a,H4,ex,g,q3⟩=>?_) hs;subst ex;obtain rfl:u=Value.ref a:=rx;exact El hu I3 g ry rv λs4 I4=>⟨σ,H4,I4,q3⟩
end
theorem GD(h:Heap)(hb:sysModules<h.objs.size):bj P w H (h.push {cls:=.type "dict",data:=.dict #[]}) h.objs.size (.dK []):={zZ _,beq_eq_false_iff_ne.mpr<|Ne.symm<|zu hb,[],.nil,Heap.DictOf.new h}
def Ou:TE:=λ_ H Q=>∀p,H p=none->Q (.ref p) (upd H p<|.dK [])
section
variable{X:Cx}{pos:Pos}
theorem GF:PE X (.Dict [] [] pos) Ou:=λpins s σ H Q I h=>wpAny_Dict_empty {.ref s.heap.objs.size,_,I.laid (a:=s.heap.objs.size) (o:=.dK []) (t':=s.toks) (λ_ _ q=>za _ q) (zp _)<|GD s.heap I.big,rfl,h _<|I.aM.fresh<|zp _}
end
structure M1(X:Cx)(o:Expr)(m:Str)(apos:Pos)(e:Expr)(aQ:Pos):Prop where
 base:attributeBase o m X.env (eval o X.env)=eval o X.env
 FP:((backTo aQ<|starEach [e] X.env).all (λx=>!x.1)&&(backToKw aQ<|keywordEach [] X.env).all (λx=>x.1.isSome)
  && decide (([e]:List Expr).length+([]:List Keyword).length+(if ([]:List Keyword).isEmpty then 0 else 1)<30))=true
 line:(apos.endLine==aQ.line)=true
 trees:backTo aQ (starEach [e] X.env)=[(false,eval e X.env)]
structure M2(X:Cx)(o:Expr)(m:Str)(apos:Pos)(e f:Expr)(aQ:Pos):Prop where
 base:attributeBase o m X.env (eval o X.env)=eval o X.env
 FP:((backTo aQ<|starEach [e,f] X.env).all (λx=>!x.1)&&(backToKw aQ<|keywordEach [] X.env).all (λx=>x.1.isSome)
  && decide (([e,f]:List Expr).length+([]:List Keyword).length+(if ([]:List Keyword).isEmpty then 0 else 1)<30))=true
 line:(apos.endLine==aQ.line)=true
 trees:backTo aQ (starEach [e,f] X.env)=[(false,eval e X.env),(false,eval f X.env)]
def QQ(H:Hp)(a:Addr):Prop:=(∃kvs,Rd H a<|.dK kvs)\/∃kvs,Rd H a<|.dT kvs
theorem uB(I:Inv X pins σ H s)(d:QQ H a): s.TypeIs (.ref a) "dict"/\(∀b,Value.ref a=.ref b->∃ob,s.heap.get? b=some ob/\ob.dict=none)/\(a==sysModules)=false:=by rcases d with⟨kvs,e⟩|⟨kvs,e⟩;obtain⟨_,hd,vs,_,dd⟩:=lK I.aM e;refine{dd.typeIs,λb q=>?_,hd};cases q;obtain⟨ob,_,_,h1,h2,_⟩:=dd;exact⟨ob,h1,h2.2.1⟩;obtain⟨_,hd,xs,_,dd⟩:=qh I.aM e;refine{dd.typeIs,λb q=>?_,hd};cases q;obtain⟨ob,_,_,h1,h2,_⟩:=dd;exact⟨ob,h1,h2.2.1⟩
section
variable{X:Cx}{pins:List (Addr×Obj)}{σ:St}{H:Hp}{s:Shared}{a:Addr}{y d:V}{u r:Value}{o:Option V}{A:Around}{E:Value->Shared->Prop}
theorem Ov(hu:A.units+1<cLine)(I:Inv X pins σ H s)(g:m9 H a y o)(ry:RelV y u)(h:∀w' s',Inv X pins σ H s'->RelV (o.getD .ax) w'->Q w' s'): wpAny (model X.prog X.w) A (call (.builtin "dict.get") [.ref a,u]) Q E s:=by rcases g with⟨kvs,k,e,ey,l⟩|⟨kvs,k,b,e,ey,eb,l⟩;subst ey;obtain⟨z,hd,vs,rel,dd⟩:=lK I.aM e;refine call_meetsIn yw dd.typeIs PySem.F.entry_dict_get (PySem.F.args_dict_get_2 _ _) (meets_dict_get (aG X.prog X.w) a (iV ry) hd) {_,dd.mapOf,h _ _ (I.tok _) ?_};rw[l];exact(rel.val k).getD rfl;subst ey;cases (show u=Value.ref b from ry);obtain⟨z,hd,xs,rel,dd⟩:=qh I.aM e;refine call_meetsIn yw dd.typeIs PySem.F.entry_dict_get (PySem.F.args_dict_get_2 _ _) (meetsH_dict_get (tupleKind<|aG X.prog X.w) a b hd) {tupleKind_room_in1 hu,k,xs,qg I.aM eb,dd,h _ _ (I.tok _) ?_};rw[l];exact(rel.val k).getD rfl
theorem Ow(hu:A.units+1<cLine)(I:Inv X pins σ H s)(g:m9 H a y o)(ry:RelV y u)(rd:RelV d r)(h:∀w' s',Inv X pins σ H s'->RelV (o.getD d) w'->Q w' s'): wpAny (model X.prog X.w) A (call (.builtin "dict.get") [.ref a,u,r]) Q E s:=by rcases g with⟨kvs,k,e,ey,l⟩|⟨kvs,k,b,e,ey,eb,l⟩;subst ey;obtain⟨z,hd,vs,rel,dd⟩:=lK I.aM e;refine call_meetsIn yw dd.typeIs PySem.F.entry_dict_get (PySem.F.args_dict_get_3 _ _ _) (meets_dict_get_default (aG X.prog X.w) a (iV ry) hd r) {_,dd.mapOf,h _ _ (I.tok _) ?_};rw[l];exact(rel.val k).getD rd;subst ey;cases (show u=Value.ref b from ry);obtain⟨z,hd,xs,rel,dd⟩:=qh I.aM e;refine call_meetsIn yw dd.typeIs PySem.F.entry_dict_get (PySem.F.args_dict_get_3 _ _ _) (meetsH_dict_get_default (tupleKind<|aG X.prog X.w) a b hd r) {tupleKind_room_in1 hu,k,xs,qg I.aM eb,dd,h _ _ (I.tok _) ?_};rw[l];exact(rel.val k).getD rd
end
def Ox(td ty:TE):TE:=λσ H Q=>td σ H λx H1=>∃a,x=.ref a/\QQ H1 a/\ty σ H1 λy H2=>∃o,m9 H2 a y o/\Q (o.getD .ax) H2
def Oy(td ty tx:TE):TE:=λσ H Q=>td σ H λx H1=>∃a,x=.ref a/\QQ H1 a/\ty σ H1 λy H2=>tx σ H2 λz H3=>∃o,m9 H3 a y o/\Q (o.getD z) H3
def Oz(td ty:TE):TE:=λσ H Q=>td σ H λx H1=>∃a,x=.ref a/\QQ H1 a/\ty σ H1 λy H2=>∃kvs k v,H2 a=some (.dK kvs)/\y=kV k/\fB kvs k=some v/\Q v (upd H2 a<|.dK<|oo kvs k)
section
variable{X:Cx}{o e f:Expr}{apos aQ:Pos}{td ty tx:TE}
theorem GG(hu:X.A.units+1<cLine)(ho:PE X o td)(he:PE X e ty)(m:M1 X o "get" apos e aQ):PE X (.Call (.Attribute o "get" apos) [e] [] aQ) (Ox td ty):=by intro pins s σ H Q I h;refine wpAny_Call_method m.base m.FP m.line PySem.F.plainAttrs_dict yw PySem.F.type_dict_get<|bf (ho pins s σ H _ I h) λu s1 ⟨x,H1,I1,rx,a,ex,d,q1⟩=>?_;subst ex;obtain rfl:u=Value.ref a:=rx;obtain⟨t1,t2,_⟩:=uB I1 d;refine{t1,t2,?_};rw[m.trees];refine Calls.callWith_builtin rfl<|Calls.evalArgs_plain<|yE<|bf (he pins s1 σ H1 _ I1 q1) λiv s2 ⟨y,H2,I2,ry,ov,g,q2⟩=>Calls.spliced_nil ?_;exact Ov hu I2 g ry λw' s3 I3 p9=>{_,H2,I3,p9,q2}
theorem GH(hu:X.A.units+1<cLine)(ho:PE X o td)(he:PE X e ty)(hf:PE X f tx)(m:M2 X o "get" apos e f aQ):PE X (.Call (.Attribute o "get" apos) [e,f] [] aQ) (Oy td ty tx):=by intro pins s σ H Q I h;refine wpAny_Call_method m.base m.FP m.line PySem.F.plainAttrs_dict yw PySem.F.type_dict_get<|bf (ho pins s σ H _ I h) λu s1 ⟨x,H1,I1,rx,a,ex,d,q1⟩=>?_;subst ex;obtain rfl:u=Value.ref a:=rx;obtain⟨t1,t2,_⟩:=uB I1 d;refine{t1,t2,?_};rw[m.trees];refine Calls.callWith_builtin rfl<|Calls.evalArgs_plain<|yE<|bf (he pins s1 σ H1 _ I1 q1) λiv s2 ⟨y,H2,I2,ry,q2⟩=>yE<|bf (hf pins s2 σ H2 _ I2 q2) λfv s3 ⟨z,H3,I3,rz,ov,g,q3⟩=>Calls.spliced_nil ?_;exact Ow hu I3 g ry rz λw' s4 I4 p9=>{_,H3,I4,p9,q3}
theorem GI(ho:PE X o td)(he:PE X e ty)(m:M1 X o "pop" apos e aQ):PE X (.Call (.Attribute o "pop" apos) [e] [] aQ) (Oz td ty):=by intro pins s σ H Q I h;refine wpAny_Call_method m.base m.FP m.line PySem.F.plainAttrs_dict PySem.F.slot_dict_pop PySem.F.type_dict_pop<|bf (ho pins s σ H _ I h) λu s1 ⟨x,H1,I1,rx,a,ex,d,q1⟩=>?_;subst ex;obtain rfl:u=Value.ref a:=rx;obtain⟨t1,t2,_⟩:=uB I1 d;refine{t1,t2,?_};rw[m.trees];refine Calls.callWith_builtin rfl<|Calls.evalArgs_plain<|yE<|bf (he pins s1 σ H1 _ I1 q1) λiv s2 ⟨y,H2,I2,ry,kvs,k,v,ea,ey,l,q2⟩=>Calls.spliced_nil ?_;subst ey;exact R8 I2 ea ry l (.inl rfl) λw' s3 I3 p9=>{v,_,I3,p9,q2}
end
end L2
namespace Att
open PySem PySem.W PySem.Calls PyProof.Rows
theorem pf{P:Params} : ∀(ns:List Int)(vs:List Value),WellAll P h vs (ns.map WData.int)->IntsAre vs ns:=by intro ns;induction ns with|nil=>(intro vs w;rw[yO]at w;cases w;exact .nil)|cons n ns ih=>intro vs w;rw[zq]at w;cases w with|cons a b=>cases a;exact .cons _ _<|ih _ b
theorem Em{l:OpenLaw}{n:Nat}(hn:l.most=some n){P:Params}{h:Heap}{args:List WData}{vals:List Value} (J5:l.row.toRowW.claim.pre args=true) (Xj:WellAll P h vals args): ∃a vs ns,vals=[Value.ref a]/\args=[WData.list<|ns.map WData.int]/\h.get? a=some {cls:=.type "list",data:=.seq vs.toArray}/\IntsAre vs ns/\ns.length<=n:=by
 have hsh:WShape.hasAll [] args [.list .int]=true:=(pre_splitW J5).1;have hc:l.pre.holds [] {args:=args}=true:=(pre_splitW J5).2;obtain⟨d,r,rfl,h1,h2⟩:=hasAllW_cons hsh;obtain rfl:=hasAllW_nil h2;obtain⟨xs,rfl,h3⟩:=hasW_list h1;obtain⟨ns,rfl⟩:=items_int h3;have hlen:ns.length<=n:=by unfold OpenLaw.pre at hc;have h4:(WTm.not<|.lt (.lit<|.int (n:Int))<|.len<|.arg 0).holds [] {args:=[.list<|ns.map .int]}=true:=(by have h4:=(holds_andW hc).1;rw[hn]at h4;exact h4);have h5:=condW_of h4<|w_not<|w_lt w_lit<|w_len_list<|w_arg rfl;rw[zb]at h5;refine Nat.le_of_not_lt λq=>?_;have q':(n:Int)<((ns.length:Nat):Int):=(by lia);first| (rw[zx q']at h5;exact absurd h5<|by decide)| (simp at h5;lia)
 cases Xj with|cons w1 w2=>cases w2;cases w1 with|list ho Xk=>exact{_,_,ns,rfl,rfl,ho,pf ns _ Xk,hlen}
theorem En(l:OpenLaw)(args:List WData):l.row.toRowW.claim.post args (.bool true) args=true:=postW_of (r:=l.row.toRowW) (X:=(true==true)) (show WShape.has [] (.bool true) .bool=true by first|rfl|decide|simp[WShape.has,WShape.arms,WShape.armsAll]) (show(WTm.eq .res<|.lit<|.bool true).value [] {args:=args,res:=some<|.bool true,after:=args}=some (.bool<|true==true) from w_eq_bool (w_res rfl) w_lit) rfl
theorem wF{l:OpenLaw}{n:Nat}{q:Program}{loose:List Str}{XP:(Str->Option Value)->Heap->Prop}{YP:World->Heap->Prop}{d:DefRec} (hn:l.most=some n) (Xl:d.params.defaults=[]) (call:∀(w:World)(cI a_:Shared)(mg mb:Str->Option Value)(fa:Addr)(o:Obj)(pm cd doc:Value)(a:Addr)(vs:List Value)(ns:List Int),Ground q loose [] XP w cI mg mb a_.heap->YP w a_.heap->a_.heap.get? fa=some o->o.data=.func (docDef d.name d.params d.body d.scope pm cd doc)->a_.heap.CodeRec cd d.name->mg d.name=some (.ref fa)->a_.heap.get? a=some {cls:=.type "list",data:=.seq vs.toArray}->IntsAre vs ns->ns.length<=n->a_.gens=#[]->codeAny (model l.prog w) callerA (.call (.ref fa) {[.ref a],[]}) (λr s'=>r=.ok (.ret<|.bool true)/\OldK a_.heap s'.heap/\s'.os=a_.os/\AllBare s'.gens) a_): WalkO q loose XP YP l.row.toRowW d [] (λf vs=>PySem.call f vs):=by intro w cI a_ mg mb G Y fa o pm cd doc dV kV ho hd rW hD OA hg args vals as J5 abq hrd Xj hlo;obtain rfl:dV=.none:=Dflts.none hD Xl;obtain rfl:kV=.none:=Dflts.noKw hD;obtain⟨a,vs,ns,rfl,rfl,OB,hints,hlen⟩:=Em hn J5 Xj;refine enter_call<|yS (call w cI a_ mg mb fa o pm cd doc a vs ns G Y ho (fd_plain hd) rW OA OB hints hlen hg) λr s' hq=>?_;obtain⟨rfl,h2,h3,h4⟩:=hq;exact{.inl {.bool true,.bool true,[],rfl,λ_=>rfl,.bool true,En l _,λ_=>{List.Pairwise.nil,λ_ hm=>(nomatch hm)}},h2,h3,h4}
end Att
namespace L2
open PySem PySem.Spec PyProof.Rows
theorem tM:∀{vs:List Value}{ns:List Int},IntsAre vs ns->Vals (ns.map V.int) vs|_,_,.nil=>.nil|_,_,.cons n t h=>.cons ⟨t,rfl⟩<|tM h
def inClass(s:Stmt)(j:Nat):Stmt:=match s with|.ClassDef _ _ _ body _ _ _ _ _ _ _=>body.getD j (.Pass {0,0,0,0})|_=>.Pass {0,0,0,0}
def ba(s:Stmt):Arguments:=match s with|.FunctionDef _ a _ _ _ _ _ _ _ _=>a|_=>{posonlyargs:=[],args:=[],vararg:=none,kwonlyargs:=[],kw_defaults:=[],kwarg:=none,defaults:=[]}
def aY(s:Stmt):List Stmt:=match s with|.FunctionDef _ _ b _ _ _ _ _ _ _=>b|_=>[]
def ag(s:Stmt):Scope:=match s with|.FunctionDef _ _ _ _ _ _ sc _ _ _=>sc|_=>{kind:=.function,names:=[],isGenerator:=false,isCoroutine:=false}
abbrev VL:Ar:=λ_ _ _ _ _ _=>False
abbrev E0:XK:=λ_ _ _=>False
structure Fun(K:Frag)(x qual:Str)(st:Stmt)(f:Addr)(fd:FuncData):Prop where
 ex:∃(oc:Value)(od:Option Addr)(kV doc pm:Value)(an:Option Addr)(gu ct:Value)(Oc:Array (Option Value)),
  fd=fnOf x qual (ba st) (aY st) (ag st) .none kV doc pm an gu ct/\K.lookup f=some {oc,od,.func fd,Oc}/\codeIn K gu qual=true
 kp:keepIn K (.ref f)=true
theorem jC(h:n<=1000):n<sizeLine:=Nat.lt_of_le_of_lt h<|by decide
section
variable{X:Cx}
theorem Eo:dO X (.builtin "len") (λxs H Q=>∃a kvs,xs=[V.ref a]/\H a=some (.dK kvs)/\Q (.int kvs.length) H):=by intro pins s σ H xs us Q I r h;obtain⟨a,kvs,rfl,ha,q⟩:=h;obtain⟨u,rfl,ru⟩:=vals1 r;cases ru;exact R9 I (.inl ha) λt s' I'=>{.int kvs.length,H,I',⟨t,rfl⟩,q}
end
theorem bh{A B:Prop}(h:B):if false=true then A else B:=by rw[if_neg zd];exact h
theorem du{A B:Prop}(h:A):if true=true then A else B:=by rw[if_pos rfl];exact h
section
variable{κ:Type}[DecidableEq κ]
theorem lM:∀{l:List κ}{k:κ},l.Nodup->¬k∈l->(l++[k]).Nodup|[],k,_,_=>by simp|a::r,k,h,hk=>by obtain⟨h1,h2⟩:=yo.mp h;show(a::(r++[k])).Nodup;refine yo.mpr {λm=>?_,lM h2 λm=>hk<|zh.mpr<|Or.inr m};rcases zN.mp m with q|q;exact h1 q;exact hk<|zh.mpr<|Or.inl (zE.mp q).symm
end
end L2
set_option maxHeartbeats 4000000
namespace L2
open PySem PySem.Spec PyProof.Rows
section
variable{X:Cx}
noncomputable def FQ(i j:Str):Bool:=!decide (j.cps.toList<i.cps.toList)
noncomputable def tN(i j:Str):Bool:=decide<|i.cps.toList<j.cps.toList
def Xm(g:Str->Str->Bool):R2:=λx y H Q=>∃i j,x=.str i/\y=.str j/\Q (.bl<|g i j) H
theorem Ep:gs X (compareOp .LtE) (Xm FQ):=by intro pins s σ H x y v u Q I rx ry h;obtain⟨i,j,rfl,rfl,q⟩:=h;obtain⟨t,rfl⟩:=rx;obtain⟨t',rfl⟩:=ry;exact P.le_str<|aK I q rfl
theorem Er:gs X (compareOp .GtE) (Xm λi j=>FQ j i):=by intro pins s σ H x y v u Q I rx ry h;obtain⟨i,j,rfl,rfl,q⟩:=h;obtain⟨t,rfl⟩:=rx;obtain⟨t',rfl⟩:=ry;exact P.ge_str<|aK I q rfl
theorem Es:gs X (compareOp .Gt) (Xm λi j=>tN j i):=by intro pins s σ H x y v u Q I rx ry h;obtain⟨i,j,rfl,rfl,q⟩:=h;obtain⟨t,rfl⟩:=rx;obtain⟨t',rfl⟩:=ry;exact P.gt_str<|aK I q rfl
def Mt(_ j:Int):Prop:=0<j/\j.natAbs.log2<9000
theorem GJ:gs X (binaryOp .FloorDiv) (rI Mt λi j=>.int<|i/j):=VF λi j _ _ _ _ _ hc q=>by
 have hj:j≠0:=by have:=hc.1;omega
 exact floordiv_int hj (by rw[Int.fdiv_eq_ediv_of_nonneg _<|by have:=hc.1;omega];exact q)<|.inl<|PyProof.noPylong_of_log2 hc.2
end
noncomputable def Xn(x:Str):It:={λi _=>i<x.cps.size,λi H v H'=>H'=H/\∃c,x.cps[i]?=some c/\v=.str ⟨#[c]⟩,λi _=>x.cps.size<=i}
theorem wG{P:Program}{w:World}{K:Frag}{tg:Expr}{T:String}(hT:["enumerate","zip","dict_itemiterator","dict_reverseitemiterator","odict_iterator","itertools.zip_longest","itertools.pairwise"].contains T=false)(it:Addr)(x:Str)(t:Tok)
  (W:∀A':Around,A'.handled=none->Walks P w A' it [it] [it] x.cps.size (SignAt x) (λi h=>h.IsStrIter it T x t i))
  (Xo:∀(A:Around)(s:Shared)(E:Value->Shared->Prop)(i:Nat)(Q:Option Value->Shared->Prop),A.handled=none->s.heap.IsStrIter it T x t i->x.cps[i]?=none->(∀h',Heap.ExtBut it s.heap h'->Q none {s with heap:=h'})->wpAny (model P w) A (pyNext<|.ref it) Q E s)
  (Sa:∀(A:Around)(s:Shared)(E:Value->Shared->Prop)(i:Nat)(Q:Value->Shared->Prop),s.heap.IsStrIter it T x t i->Q (.ref it) s->wpAny (model P w) A (pyIter<|.ref it) Q E s):
  Turn P w K tg (Xn x) [it] it (λi h=>h.IsStrIter it T x t i) where
 mem:=by simp
 obj:=λi h st b hb=>by
  have e:b=it:=by simpa using hb
  subst e
  obtain⟨o,e,c,d⟩:=st
  exact{o,e,λv z=>by rw[d]at z;cases z}
 keep:=λi h h' st k=>by
  obtain⟨o,e,c,d⟩:=st
  exact{o,k it (by simp) o e,c,d}
 item:=by
  intro X hP hw hK hc i pins s σ H E I hf st hg
  subst hP hw hK
  obtain⟨f0,f1,f2,f3,f4,f5⟩:=hf it<|by simp
  refine(W X.A<|I.ok.hd hc).item i s _ _ hg st λv h' tk hv dW kk=>?_
  obtain⟨c,u,Et,rfl⟩:=hv
  have I1:Inv X pins σ H {s with heap:=h',toks:=tk}:=I.turned (λb o hb e=>kk b o (by simpa using hb) e) f0 f1 f3 f4 f5
  obtain⟨o,e,c',d⟩:=id dW
  exact{_,rfl,tq (s:={s with heap:=h',toks:=tk}) e c' d hT {.str ⟨#[c]⟩,H,I1,⟨u,rfl⟩,⟨rfl,c,Et,rfl⟩,dW,λb hb=>(hf b hb).1}}
 done:=by
  intro X hP hw hK hc i pins s σ H E I hf st hg
  subst hP hw hK
  obtain⟨f0,f1,f2,f3,f4,f5⟩:=hf it<|by simp
  have hg:x.cps.size<=i:=hg
  exact Xo X.A s E i _ (I.ok.hd hc) st (by simp;exact hg) λh' eb=>{rfl,I.turned (t':=s.toks) (λb o hb e=>eb b o hb e) f0 f1 f3 f4 f5}
 self:=λA' i s Q E st h=>Sa A' s E i Q st h
section
variable{X:Cx}{tg:Expr}
def Xp(tl:TE):TI:=λσ H R=>tl σ H λx H1=>∃z,x=.str z/\R (Xn z) H1
theorem OC(hl:PE X l tl):PI X tg l (Xp tl):=by
 intro pins s σ H R I h;refine bf (hl pins s σ H _ I h) λv s1 ⟨x,H1,I1,r1,q1⟩=>?_;obtain⟨z,e,q⟩:=q1;subst e;obtain⟨t,rfl⟩:=r1;have fin:∀(T:String)(_:Turn X.prog X.w X.K tg (Xn z) [s1.heap.objs.size] s1.heap.objs.size (λi h=>h.IsStrIter s1.heap.objs.size T z t i)),WV X pins σ tg R (.ref s1.heap.objs.size) {s1 with heap:=s1.heap.push {cls:=.type T,data:=.fields #[.str z t,.int 0 0]}}:=λT tn=>by refine{s1.heap.objs.size,[s1.heap.objs.size],_,_,H1,rfl,I1.kept (t':=s1.toks) λb o e=>za _ e,tn,{_,zm _ rfl,rfl,rfl},λb hb=>?_,q};have e:b=s1.heap.objs.size:=(by simpa using hb);subst e;exact I1.jO (zp _)<|I1.aM.fresh<|zp _
 cases ha:z.cps.all (·<128);exact wpAny_pyIter_wide ha<|fin _<|wG (by decide) _ z t (λA' hA=>Walks.strWide hA _ z t) (λA s E i Q hh st hx hQ=>wpAny_pyNext_wide_end hh st hx hQ) λA s E i Q st hq=>wpAny_pyIter_striter_wide st hq;exact wpAny_pyIter_ascii ha<|fin _<|wG (by decide) _ z t (λA' hA=>Walks.strAscii hA _ z t) (λA s E i Q hh st hx hQ=>wpAny_pyNext_ascii_end hh st hx hQ) λA s E i Q st hq=>wpAny_pyIter_striter_ascii st hq
end
noncomputable def clOf(cells:List<|Str×Addr)(names:List<|Str×NameKind):List (Str×Addr):=names.foldl (λcs p=>if p.2==.free then match cells.lookup p.1 with|some a=>(p.1,a)::cs|none=>cs else cs) []
theorem lN(cells:List<|Str×Addr):∀(names:List (Str×NameKind))(cs:List (Str×Addr)),(∀x c,cs.lookup x=some c->cells.lookup x=some c)->∀x c,(names.foldl (λcs p=>if p.2==.free then match cells.lookup p.1 with|some a=>(p.1,a)::cs|none=>cs else cs) cs).lookup x=some c->cells.lookup x=some c|[],cs,h=>h| (n,k)::r,cs,h=>by rw[yP];refine lN cells r _ λx c e=>?_;dsimp only at e;split at e;split at e;rename_i a ha;rw[yd]at e;split at e;rename_i hx;have:=LawfulBEq.eq_of_beq hx;cases e;rw[this];exact ha;exact h x c e;exact h x c e;exact h x c e
theorem tO(cells:List<|Str×Addr):∀(names:List (Str×NameKind))(cs:List (Str×Addr))(x:Str)(c:Addr),(∀y c,cs.lookup y=some c->cells.lookup y=some c)->cs.lookup x=some c->(names.foldl (λcs p=>if p.2==.free then match cells.lookup p.1 with|some a=>(p.1,a)::cs|none=>cs else cs) cs).lookup x=some c
 |[],cs,x,c,_,h=>h
 | (n,k)::r,cs,x,c,hs,h=>by
  rw[yP];have Mu:∀y c,(if (k==NameKind.free)=true then match cells.lookup n with|some a=>(n,a)::cs|none=>cs else cs).lookup y=some c->cells.lookup y=some c:=by intro y c e;split at e;split at e;rename_i a ha;rw[yd]at e;split at e;rename_i hx;have:=LawfulBEq.eq_of_beq hx;cases e;rw[this];exact ha;exact hs y c e;exact hs y c e;exact hs y c e
  refine tO cells r _ x c Mu ?_;dsimp only;split;split;rename_i a ha;rw[yd];split;rename_i hx;have:=LawfulBEq.eq_of_beq hx;rw[this]at h;have:=hs _ _ h;rw[ha]at this;exact this;exact h;exact h;exact h
theorem eT(cells:List<|Str×Addr):∀(names:List (Str×NameKind))(cs:List (Str×Addr))(x:Str)(c:Addr),(∀y c,cs.lookup y=some c->cells.lookup y=some c)->(x,NameKind.free)∈names->cells.lookup x=some c->(names.foldl (λcs p=>if p.2==.free then match cells.lookup p.1 with|some a=>(p.1,a)::cs|none=>cs else cs) cs).lookup x=some c
 |[],cs,x,c,_,h,_=>nomatch h
 | (n,k)::r,cs,x,c,hs,h,hc=>by
  rw[yP];have Mu:∀y c,(if (k==NameKind.free)=true then match cells.lookup n with|some a=>(n,a)::cs|none=>cs else cs).lookup y=some c->cells.lookup y=some c:=by intro y c e;split at e;split at e;rename_i a ha;rw[yd]at e;split at e;rename_i hx;have:=LawfulBEq.eq_of_beq hx;cases e;rw[this];exact ha;exact hs y c e;exact hs y c e;exact hs y c e
  rcases zh.mp h with e|h;cases e;refine tO cells r _ _ c Mu ?_;dsimp only;rw[if_pos<|show(NameKind.free==NameKind.free)=true by decide,hc];simp[yd];exact eT cells r _ x c Mu h hc
theorem dM{scope:Scope}{env:Env}(h:∀x∈scope.names,x.2=.free->∃c,env.cells.lookup x.1=some c):closureFor scope env=pure (clOf env.cells scope.names):=by
 have go:∀(names:List (Str×NameKind))(cs:List (Str×Addr)),(∀x∈names,x.2=.free->∃c,env.cells.lookup x.1=some c)->(forIn names cs λx r=>match x with|(name,kind)=>if (kind==NameKind.free)=true then do let a <-cellOf env name;pure (ForInStep.yield<|(name,a)::r) else pure (ForInStep.yield r):Sem (List<|Str×Addr))=pure (names.foldl (λcs p=>if p.2==.free then match env.cells.lookup p.1 with|some a=>(p.1,a)::cs|none=>cs else cs) cs):=by intro names;induction names with|nil=>intro cs _;rfl|cons p r ih=>intro cs hp;obtain⟨n,k⟩:=p;rw[List.forIn_cons,yP];by_cases hk:k=.free;subst hk;obtain⟨c,hc⟩:=hp _ zi rfl;have hc:env.cells.lookup n=some c:=hc;have e1:cellOf env n=pure c:=(by unfold cellOf;rw[hc]);have ef:(NameKind.free==NameKind.free)=true:=(by decide);dsimp only;rw[if_pos ef,if_pos ef,e1,hc];exact ih _ λx hx=>hp x<|ze _ hx;have GK:(k==NameKind.free)=false:=(by simpa using hk);dsimp only;rw[GK,if_neg zd,if_neg zd];exact ih _ λx hx=>hp x<|ze _ hx
 have e:=go scope.names [] h;have e2:closureFor scope env=(forIn scope.names [] (λx r=>match x with|(name,kind)=>if (kind==NameKind.free)=true then do let a <-cellOf env name;pure (ForInStep.yield<|(name,a)::r) else pure (ForInStep.yield r)):Sem (List<|Str×Addr)) >>=λcs=>pure cs:=rfl;rw[e2,e];rfl
theorem cX{env:Env}{names:List<|Str×NameKind}{x:Str} : (names.map λ(n,k)=>if (k==NameKind.free&&env.scope.kind==.function&&env.kindOf n==some .cell) then (n,NameKind.cell) else (n,k)).lookup x=(names.lookup x).map λk=>if (k==NameKind.free&&env.scope.kind==.function&&env.kindOf x==some .cell) then NameKind.cell else k:=by induction names with|nil=>rfl|cons p r ih=>obtain⟨n,k⟩:=p;rw[zq,yd];by_cases hc:(k==NameKind.free&&env.scope.kind==.function&&env.kindOf n==some .cell)=true;dsimp only;rw[if_pos hc,yd];(cases hx:x==n with|true=>have:=LawfulBEq.eq_of_beq hx;subst this;dsimp only[Option.map];rw[if_pos hc]|false=>exact ih);dsimp only;rw[if_neg hc,yd];cases hx:x==n with|true=>have:=LawfulBEq.eq_of_beq hx;subst this;dsimp only[Option.map];rw[if_neg hc]|false=>exact ih
noncomputable def iw(X:Cx)(N:List Str)(scope:Scope)(C:Addr)(s:Shared)(H:Hp)(ex:List Addr)(pn:List<|Addr×Obj):Cx:={X with N:=N,cI:=s,so:=H,env:=compEnvC scope (clOf X.env.cells scope.names) C X.env,outer:=X.stack,ex:=ex,fn:=λ_=>false,pn:=pn,xe:=λ_ _=>False}
noncomputable def pick(σ:St)(src:List<|Option Nat):St:=src.map λo=>match o with|some j=>(σ[j]?).join|none=>none
structure bB(X:Cx)(N:List Str)(src:List (Option Nat))(scope:Scope):Prop where
 kind:scope.kind=.function
 fX:∀y∈scope.names,y.2≠.cell
 loc:∀y∈scope.names,y.2=.local->scope.names.lookup y.1=some .local
 tP:∀y∈scope.names,y.2=.free->X.env.kindOf y.1=some .cell\/X.env.kindOf y.1=some .free
 len:src.length=N.length
 src:∀(i j:Nat)(x:Str),src[i]?=some (some j)->N[i]?=some x->X.N[j]?=some x/\scope.names.lookup x=some .free/\Md X.env.scope x
def Ext(σ aJ:St):Prop:=aJ.length=σ.length/\∀(j:Nat) v,σ[j]?=some (some v)->aJ[j]?=some (some v)
def sv(g:TG)(src:List<|Option Nat):Prop:=∀x σ H Q,g x (pick σ src) H Q->g x (pick σ src) H λaJ H'=>Ext (pick σ src) aJ/\Q aJ H'
def Cr(wi:TI)(src:List<|Option Nat)(g:TG)(tc:TT)(te:TE):TE:=λσ H Q=>wi σ H λJ H1=>∃W:Nat->Nat->List V->Hp->Prop,(∃m,W 0 m [] H1)/\∀i m out H',W i m out H'->(J.stop i H'/\∀D,H' D=none->Q (.ref D) (upd H' D<|.lst out))\/(J.go i H'/\out.length<sizeLine/\∀x H2,J.QN i H' x H2->g x (pick σ src) H2 λeM H3=>tc eM H3 λb H4=>if b=true then te eM H4 λv H5=>∃m',m'<m/\W (i+1) m' (out++[v]) H5 else ∃m',m'<m/\W (i+1) m' out H4)
section
variable{X:Cx}{N:List Str}{src:List (Option Nat)}{scope:Scope}{tg iter elt:Expr}{ifs:List Expr}{pos:Pos}{wi:TI}{g:TG}{tc:TT}{te:TE}
def Mv(X:Cx)(ifs:List Expr)(t:TT):Prop:=∀(pins:List (Addr×Obj))(s:Shared)(σ:St)(H:Hp)(Q:Bool->Hp->Prop),Inv X pins σ H s->t σ H Q->wpAny (model X.prog X.w) X.A (forIn ifs true λc r=>if r=true then do let ok <-isTrue c X.env (eval c X.env);pure (ForInStep.yield ok) else pure (ForInStep.yield r)) (TP X pins σ Q) X.xe s
def Sb:TT:=λ_ H Q=>Q true H
theorem J6:Mv X [] Sb:=λpins s σ H Q I h=>wpAny_tests_nil ⟨H,I,h⟩
theorem J_{t:TT}(h:PT X c t):Mv X [c] t:=λpins s σ H Q I hw=>wpAny_tests_one<|h pins s σ H Q I hw
theorem d_(QR:∀x s',EE x s'->notedBy (model prog w) A env (λe s'=>R (.error e) s') x s')(I:Nat->Shared->Prop)
  (turn:∀n s,I n s->wpAny (model prog w) A (pyNext it) (λr a_=>match r with
   |none=>R (.ok .next) a_
   |some v=>wpAny (model prog w) A (letOwnedTupleGo target it v) (λ_ Mw=>wpAny (model prog w) A (assign target env v) (λ_ aN =>
     wpAny (model prog w) A (forIn ifs true λc r=>if r=true then do let ok <-isTrue c env (eval c env);pure (ForInStep.yield ok) else pure (ForInStep.yield r)) (λok uv =>
      if ok=true then wpAny (model prog w) A (eval elt env) (λx lO =>
       wpAny (model prog w) A (call (.builtin "list.append") [acc,x]) (λ_ Sd=>∃m,m<n/\I m Sd) EE lO) EE uv
      else ∃m,m<n/\I m uv) EE aN) EE Mw) EE a_) EE s)
  (n:Nat) (h:I n s):
  codeAny (model prog w) A (.compLoop (.ListComp elt [{target,iter,ifs,0}] scope pos) 0 it acc env) R s:=by
 refine codeAny_loop rfl I (λn s hI=>?_) n h
 show wpAny _ A ((compTurn (.ListComp elt [{target,iter,ifs,0}] scope pos) 0 it acc env).onRaise λx=>do noteFrame x env;theTreesLotGoes x) _ _ s
 refine wpAny_noted ?_
 rw[compTurn_list]
 refine zc<|wpAny_standAt<|zc<|yF (turn n s hI) (λr a_ h₁=>?_) QR
 cases r with
 |none=>exact zA h₁
 |some v =>
  refine zc<|yF h₁ (λ_ Mw Se=>?_) QR
  refine zc<|yF Se (λ_ aN Xq=>zc<|yF Xq (λok uv Sf=>?_) QR) QR
  cases ok with
  |false=>exact zA ⟨rfl,Sf⟩
  |true =>
   exact zc<|zc<|yF Sf (λx lO Xr=>zc<|yF Xr (λ_ Sd Xs=>zA<|zA ⟨rfl,Xs⟩) QR) QR
def CompEnd(X:Cx)(pins:List<|Addr×Obj)(σ:St)(Q:VK)(D C:Addr)(s':Shared):Prop:=∃H' m,Inv X pins σ H' s'/\Q (.ref D) H'/\s'.heap.Ns C m/\H' C=none/\C≠X.env.locals/\X.cI.heap.objs.size<=C/\(∀x c,X.env.cells.lookup x=some c->c≠C)/\(∀p∈X.pn++pins,p.1≠C)
theorem tQ{pins:List<|Addr×Obj}{aN:Shared}{σ:St}{cj:Hp}{Q:VK}{it:Addr}{fp:List Addr}{tn:Nat->Heap->Prop}{J:It}{E:Value->Shared->Prop}(S:bB X N src scope)(hc:X.calm=true) (hg:∀C s H ex pn,PG (iw X N scope C s H ex pn) tg g) (hx:sv g src) (hi:∀C s H ex pn,Mv (iw X N scope C s H ex pn) ifs tc) (he:∀C s H ex pn,PE (iw X N scope C s H ex pn) elt te) (I:Inv X pins σ cj aN) (T:Turn X.prog X.w X.K tg J fp it tn) (st:tn 0 aN.heap) (ff:∀b∈fp,oY X pins cj b) (W:Nat->Nat->List V->Hp->Prop) (w0:∃m,W 0 m [] cj) (turn:∀i m out H',W i m out H'->(J.stop i H'/\∀D,H' D=none->Q (.ref D) (upd H' D<|.lst out))\/(J.go i H'/\out.length<sizeLine/\∀x H2,J.QN i H' x H2->g x (pick σ src) H2 λeM H3=>tc eM H3 λb H4=>if b=true then te eM H4 λv H5=>∃m',m'<m/\W (i+1) m' (out++[v]) H5 else ∃m',m'<m/\W (i+1) m' out H4)) {RR:Value->Addr->Result->Shared->Prop} (Xt:∀D C s',CompEnd X pins σ Q D C s'->RR (.ref D) C (.ok .next) s'): wpAny (model X.prog X.w) X.A (newList []) (λacc uv=>wpAny (model X.prog X.w) X.A (newFunctionEnv scope X.env.globals (clOf X.env.cells scope.names) [] X.env.qual none .none<|some X.env) (λGL lO=>codeAny (model X.prog X.w) X.A (.compStart (.ListComp elt [{tg,iter,ifs,0}] scope pos) 0 (.ref it) acc {GL with scope:=relabel scope X.env}) (RR acc GL.locals) lO) E uv) E aN:=by
 refine yA<|wpAny_newFunctionEnv S.fX (by intro y hy;simp at hy) (λh₁ gT fY=>?_) S.kind;dsimp only at gT fY⊢;generalize OD:aN.heap.push {cls:=.type "list",dict:=none,data:=.seq ([]:List Value).toArray}=G2 at gT fY⊢;have hC:G2.objs.size=aN.heap.objs.size+1:=by rw[<-OD,zR]
 have FR:aN.heap.objs.size≠G2.objs.size:=by rw[hC];exact zu<|yI _
 have wH:aN.heap.objs.size<=G2.objs.size:=by rw[hC];exact yN _
 have old:∀b o,aN.heap.get? b=some o->h₁.get? b=some o:=λb o e=>fY.extBut b o (zu<|zg (zr e) wH)<|za _<|OD ▸ za _ e;have lP:h₁.get? aN.heap.objs.size=some {cls:=.type "list",dict:=none,data:=.seq ([]:List Value).toArray}:=fY.extBut _ _ FR<|za _<|OD ▸ zm _ rfl;generalize hCC:G2.objs.size=C at hC FR wH gT fY⊢;have cn:aN.heap.objs.size<=C:=wH;generalize hD:aN.heap.objs.size=D at hC FR wH lP⊢;have cT:∀x c,(clOf X.env.cells scope.names).lookup x=some c->X.env.cells.lookup x=some c:=lN X.env.cells scope.names [] (by intro x c h;simp at h);have qj:∀x c,X.env.cells.lookup x=some c->c<aN.heap.objs.size:=λx c e=>by obtain⟨v,q⟩:=I.cell x c e;exact q.lt
 have uC:∀b∈fp,b<aN.heap.objs.size:=λb hb=>by obtain⟨o,e,_⟩:=T.obj _ _ st b hb;exact zr e
 have ok:(iw X N scope C aN cj fp<|X.pn++pins).Ok:=by refine{I.ok.mod,S.kind,I.ok.glob,I.ok.blt,cn,λx y c h1 h2=>I.ok.inj x y c (cT _ _ h1)<|cT _ _ h2,λx hk=>?_,λx c h=>(nomatch h),I.ok.hd,I.ok.frames,.inl rfl,λb hb=>{?_,λx c h=>?_},I.bs,zH I.ok.Gb I.sz,λb o e hb=>?_,λb hb hf=>?_,I.stack,I.lE};have hk:(relabel scope X.env).names.lookup x=some .cell\/(relabel scope X.env).names.lookup x=some .free:=hk;unfold relabel at hk;dsimp only at hk;rw[cX]at hk;(cases hl:scope.names.lookup x with|none=>(rw[hl]at hk;rcases hk with z|z<;>cases z)|some k=>rw[hl]at hk;have hm:=zV hl;have Ka:k=.free:=(by by_cases Ka:k=.free;exact Ka;exfalso;have e1:(k==NameKind.free)=false:=(by simpa using Ka);simp only[Option.map,e1,zU,Bool.false_eq_true,if_false]at hk;rcases hk with z|z;exact S.fX _ hm<|zO z;exact Ka<|zO z);subst Ka;obtain⟨c,Et⟩:=I.ok.has x<|S.tP _ hm rfl;exact{c,eT X.env.cells scope.names [] x c (by intro x c h;simp at h) hm Et});exact zu<|zg (uC b hb) cn;exact(ff b hb).2.2.2.2.1 x c<|cT _ _ h;have q:b∈X.ex\/X.cI.heap.objs.size<=b:=(ff b hb).2.2.2.1;rcases q with q|q;exact I.ok.JG b o e q;exact absurd (zg (zr e)<|zH I.ok.Gb q)<|yj _;rcases zh.mp (I.fW b hf) with z|z;exact(ff b hb).2.1 z;exact(ff b hb).2.2.1 z
 have GN:∀p∈X.pn++pins,p.1∉kE X.stack:=λp hp z=>by obtain⟨_,_,ne,nf,_⟩:=I.pin p hp;rcases zh.mp (I.fW _ z) with q|q;exact ne q;exact nf q
 have qk:∀p∈X.pn++pins,p.1<aN.heap.objs.size:=λp hp=>zr (I.pin p hp).1;have GO:∀b∈kE X.stack,b<aN.heap.objs.size:=λb hb=>by rcases zh.mp (I.fW b hb) with z|z;rw[z];exact I.lt;obtain⟨_,o,ho,_⟩:=I.ok.mX.mem z;exact zg (zr ho) I.sz
 have OE:∀(i:Nat)(x:Str)(v:V),N[i]?=some x->(pick σ src)[i]?=some (some v)->∃u c,RelV v u/\(clOf X.env.cells scope.names).lookup x=some c/\aN.heap.IsCell c (some u)/\scope.names.lookup x=some .free:=λi x v e1 e2=>by unfold pick at e2;rw[zw]at e2;cases es:src[i]? with|none=>(rw[es]at e2;cases e2)|some o=>rw[es]at e2;cases o with|none=>(cases e2)|some j=>have e3:(σ[j]?).join=some v:=zO e2;have e4:σ[j]?=some (some v):=(by cases q:σ[j]? with|none=>(rw[q]at e3;cases e3)|some z=>rw[q]at e3;exact congrArg some e3);obtain⟨a1,a2,a3⟩:=S.src i j x es e1;obtain⟨m0,_,hl⟩:=I.loc;obtain⟨u,r,l⟩:=hl j x v a1 e4 a3;have hm:=zV a2;have hk:=S.tP _ hm rfl;rcases l with⟨k,_⟩|⟨_,c,Et,z⟩;rcases hk with hk|hk<;>(rw[k]at hk;cases hk);exact{u,c,r,eT X.env.cells scope.names [] x c (by intro x c h;simp at h) hm Et,z,a2}
 have kinds:∀x,scope.names.lookup x=some .free->(compEnvC scope (clOf X.env.cells scope.names) C X.env).kindOf x=some .cell\/(compEnvC scope (clOf X.env.cells scope.names) C X.env).kindOf x=some .free:=λx hx=>by show(relabel scope X.env).names.lookup x=some .cell\/(relabel scope X.env).names.lookup x=some .free;unfold relabel;dsimp only;rw[cX,hx];dsimp only[Option.map];split;exact .inl rfl;exact .inr rfl
 have Ic:Inv (iw X N scope C aN cj fp<|X.pn++pins) [] (pick σ src) cj {aN with heap:=h₁,toks:=aN.toks+([]:List (Str×Value)).length}:=by refine{ok,rfl,I.bare,Un.kept old,{_,gT,λi x v e1 e2 e3=>?_},λx c e=>?_,I.aM.fresh cn,λx c e=>I.eR x c<|cT x c e,λp hp=>?_,I.aM.kept old,?_};obtain⟨u,c,r,e5,⟨o,ho,hd⟩,hf⟩:=OE i x v e1 e2;exact{u,r,.inr {kinds x hf,c,e5,{o,old _ _ ho,hd}}};obtain⟨v,o,ho,hd⟩:=I.cell x c<|cT x c e;exact{v,o,old _ _ ho,hd};have hp:p∈X.pn++pins:=(by simpa [iw]using hp);obtain⟨e,n,_,_,d⟩:=I.pin p hp;exact{old _ _ e,n,zu<|zg (qk p hp) cn,GN p hp,d};show(pick σ src).length=N.length;unfold pick;rw[zb,S.len]
 have iW:aN.heap.objs.size<=D:=Nat.le_of_eq hD;have Az:D∉kE X.stack:=λz=>absurd (zg (GO D z) iW)<|yj _;have wI:D∉fp:=λz=>absurd (zg (uC D z) iW)<|yj _;have jO:∀{pl:List (Addr×Obj)}{H':Hp},(∀b∈fp,H' b=none)->(∀p∈pl,p.1∉fp)->∀b∈fp,oY (iw X N scope C aN cj fp<|X.pn++pins) pl H' b:=λ{pl H'} hn dr b hb=>by obtain⟨f0,f1,f2,f3,f4,f5⟩:=ff b hb;refine{hn b hb,zu<|zg (uC b hb) cn,λz=>?_,.inl hb,λx c e=>f4 x c<|cT x c e,λp hp=>?_};rcases zh.mp (I.fW b z) with q|q;exact f1 q;exact f2 q;have hp:p∈(X.pn++pins)++pl:=hp;rcases zN.mp hp with hp|hp;exact f5 p hp;exact λz=>dr p hp<|z ▸ hb
 have back:∀{s':Shared}{H':Hp}{out:List V}{au:List Value}{nn:Nat}{aJ:St},Inv (iw X N scope C aN cj fp<|X.pn++pins) [] aJ H' s'->H' D=none->out.length<=sizeLine->Vals out au->s'.heap.get? D=some {cls:=.type "list",data:=.seq au.toArray nn}->(∀D,H' D=none->Q (.ref D) (upd H' D<|.lst out))->CompEnd X pins σ Q D C s':=λ{s' H' out au nn aJ} I' hn hl hv ho q=>by obtain⟨m,hm,_⟩:=I'.loc;have un:Un (kE X.stack) fp cj H' aN.heap s'.heap:=I'.base;have Xu:∀b o,aN.heap.get? b=some o->b≠D:=λb o e=>zu<|zg (zr e) iW;have fD:cj D=none:=I.aM.fresh iW;refine{upd H' D<|.lst out,m,?_,q D hn,hm,by rw[aq<|Ne.symm FR];exact I'.free,yg<|zg I.lt cn,zH I.sz cn,λx c e=>zu<|zg (qj x c e) cn,λp hp=>zu<|zg (qk p hp) cn};refine I.Mg (ch:=fp) I'.os {un.keep,un.slot,λb o e n hb=>?_,un.there,λb xs e=>?_,λb o u e=>?_,λb ps e=>?_} (λb o e=>?_) I'.bare λb hb=>?_;rw[aq<|Xu b o e];exact un.free b o e n hb;rw[aq<|ay e fD];exact un.kD b xs e;rw[aq<|ay e fD];exact un.jM b o u e;rw[aq<|ay e fD];exact un.jN b ps e;by_cases hb:b=D;subst hb;rw[aD]at e;cases e;exact⟨hl,au,nn,hv,ho⟩;rw[aq hb]at e;refine(I'.aM b o e).mW (λc v _ q=>q) (λc q=>?_) λc xs q=>?_;rw[aq<|ay q hn];exact q;rw[aq<|ay q hn];exact q;obtain⟨f0,f1,f2,f3,f4,f5⟩:=ff b hb;exact⟨f3,f1,f4,f5⟩
 obtain⟨m0,w0⟩:=w0;have loop:∀lO:Shared,lO={aN with heap:=h₁,toks:=aN.toks+([]:List (Str×Value)).length}->codeAny (model X.prog X.w) X.A (.compLoop (.ListComp elt [{tg,iter,ifs,0}] scope pos) 0 (.ref it) (.ref D)<|compEnvC scope (clOf X.env.cells scope.names) C X.env) (RR (.ref D) C) lO:=by rintro lO rfl;refine d_ (EE:=λ_ _=>False) (λ_ _ f=>f.elim) (λn s'=>∃i out au nn H',Inv (iw X N scope C aN cj fp<|X.pn++pins) [] (pick σ src) H' s'/\H' D=none/\out.length<=sizeLine/\Vals out au/\s'.heap.get? D=some {cls:=.type "list",data:=.seq au.toArray nn}/\tn i s'.heap/\(∀b∈fp,H' b=none)/\W i n out H') ?_ m0 {0,[],[],0,cj,Ic,I.aM.fresh iW,zZ _,.nil,lP,T.keep _ _ _ st λb hb o e=>old b o e,λb hb=>(ff b hb).1,w0};rintro n s3 ⟨i,out,au,nn,H3,I3,Sh,OF,Kb,Xv,Ml,Mm,w3⟩;have AA:∀(au:List Value) (nn:Nat) (v:Option Value),({cls:=.type "list",data:=.seq au.toArray nn} : Obj).data≠.cell v:=λ_ _ _ z=>nomatch z;have Si:Inv (iw X N scope C aN cj fp<|X.pn++pins) [(D,{cls:=.type "list",data:=.seq au.toArray nn})] (pick σ src) H3 s3:=I3.fC λp hp=>(by have e:p=(D,{cls:=.type "list",data:=.seq au.toArray nn}):=(by simpa using hp);subst e;exact{Xv,Sh,FR,Az,AA au nn});have OH:∀p∈[((D,{cls:=.type "list",data:=.seq au.toArray nn}):Addr×Obj)],p.1∉fp:=λp hp=>(by have e:p=(D,{cls:=.type "list",data:=.seq au.toArray nn}):=(by simpa using hp);subst e;exact wI);rcases turn i n out H3 w3 with⟨stop,qn⟩|⟨go,eN,step⟩;refine bf (T.done (iw X N scope C aN cj fp<|X.pn++pins) rfl rfl rfl hc i _ s3 _ H3 _ Si (jO Mm OH) Ml stop) λr s4 ⟨hr,I4⟩=>?_;subst hr;have p4:=(I4.pin (D,{cls:=.type "list",data:=.seq au.toArray nn})<|zt _<|by simp).1;exact Xt D C s4<|back (I4.fC (pins':=[]) λp hp=>nomatch hp) Sh OF Kb p4 qn;refine bf (T.item (iw X N scope C aN cj fp<|X.pn++pins) rfl rfl rfl hc i _ s3 _ H3 _ Si (jO Mm OH) Ml go) λr s4 ⟨u,hr,h4⟩=>?_;subst hr;refine bf h4 λ_ s5 ⟨x,H5,I5,r5,y5,st5,fr5⟩=>?_;have RL:=I5.pinned (jO fr5 OH)<|T.obj _ _ st5;refine bf (hg _ _ _ _ _ _ s5 _ H5 x u _ RL r5<|hx x σ H5 _<|step x H5 y5) λ_ s6 ⟨JP,H6,I6,e6,q6⟩=>?_;have fin:∀{s7:Shared}{H7:Hp},Inv (iw X N scope C aN cj fp<|X.pn++pins) ([(D,{cls:=.type "list",data:=.seq au.toArray nn})]++mZ fp s5.heap) JP H7 s7->Inv (iw X N scope C aN cj fp<|X.pn++pins) [] (pick σ src) H7 s7/\H7 D=none/\s7.heap.get? D=some {cls:=.type "list",data:=.seq au.toArray nn}/\tn (i+1) s7.heap/\∀b∈fp,H7 b=none:=λ{s7 H7} I7=>(by have pD:=I7.pin (D,{cls:=.type "list",data:=.seq au.toArray nn})<|zt _ (by simp);refine{(I7.fC (pins':=[]) λp hp=>nomatch hp).weak e6.1.symm e6.2,pD.2.1,pD.1,T.keep _ _ _ st5 λb hb o e=>(I7.pin (b,o)<|zt _<|zt _<|dA hb e).1,λb hb=>?_};obtain⟨o,e,d⟩:=T.obj _ _ st5 b hb;exact(I7.pin (b,o)<|zt _<|zt _<|dA hb e).2.1);refine bf (hi _ _ _ _ _ _ s6 JP H6 _ I6 q6) λb s7 ⟨H7,I7,q7⟩=>?_;cases b with|false=>(rw[if_neg zd]at q7⊢;obtain⟨m',hm,w7⟩:=q7;obtain⟨J7,d7,o7,t7,f7⟩:=fin I7;exact{m',hm,i+1,out,au,nn,H7,J7,d7,OF,Kb,o7,t7,f7,w7})|true=>rw[if_pos rfl]at q7⊢;refine bf (he _ _ _ _ _ _ s7 JP H7 _ I7 q7) λv s8 ⟨y,H8,I8,r8,m',hm,w8⟩=>?_;obtain⟨J8,d8,o8,t8,f8⟩:=fin I8;have hsz:au.toArray.size<=sizeLine:=(by rw[zo,<-Kb.length];exact OF);refine wpAny_list_append_plain (items:=au.toArray) (hsz:=hsz) ⟨nn,o8⟩ λh9 ⟨n9,e9⟩ sb=>?_;have J9:Inv (iw X N scope C aN cj fp<|X.pn++pins) [] (pick σ src) H8 {s8 with heap:=h9}:=J8.turned (t':=s8.toks) (it:=D) (λb o hb e=>(sb.2 b hb).trans e) d8 FR (.inr iW) (λx c e=>zu<|zg (qj x c<|cT x c e) iW) λp hp=>(by have hp:p∈X.pn++pins:=(by simpa [iw]using hp);exact zu<|zg (qk p hp) iW);refine{m',hm,i+1,out++[y],au++[v],n9,H8,J9,d8,?_,Kb.append<|.cons r8 .nil,?_,T.keep _ _ _ t8 λb hb o e=>(sb.2 b λz=>wI<|z ▸ hb).trans e,f8,w8};rw[zC];exact eN;rw[e9];simp
 exact codeAny_compStart_list (loop _ rfl)<|T.self _ _ _ _ _ (T.keep _ _ _ st λb hb o e=>old b o e)<|loop _ rfl
theorem Kc(S:bB X N src scope)(hc:X.calm=true)(hit:PI X tg iter wi) (hg:∀C s H ex pn,PG (iw X N scope C s H ex pn) tg g) (hx:sv g src) (hi:∀C s H ex pn,Mv (iw X N scope C s H ex pn) ifs tc) (he:∀C s H ex pn,PE (iw X N scope C s H ex pn) elt te) (hs:autoParam (∀x,foldedSetIterable iter X.env x=pure x) qQ0):PE X (.ListComp elt [{tg,iter,ifs,0}] scope pos) (Cr wi src g tc te):=by intro pins s σ H Q I h;rw[eval_ListComp];have Cs:closureFor scope X.env=pure (clOf X.env.cells scope.names):=dM λy hy hf=>I.ok.has y.1<|S.tP y hy hf;refine wpAny_comprehension_free (use:=none) rfl hs Cs S.kind S.loc<|bf (hit pins s σ H _ I h) λv s1 h1=>bf h1 λRF s2 h2=>?_;obtain⟨it,fp,tn,J,H2,e,I2,T,p5,f2,W,w0,turn⟩:=h2;subst e;refine tQ (RR:=λacc C=>compPost (model X.prog X.w) X.A X.xe none (EP X pins σ Q) acc C) S hc hg hx hi he I2 T p5 f2 W w0 turn λD C s' ⟨H',m,I',q,hm,hn,h1,h2,h3,h4⟩=>?_;exact{m,hm,λh' sb=>{.ref D,H',I'.turned (t':=s'.toks) (it:=C) (λb o hb e=>(sb.2 b hb).trans e) hn h1 (.inr h2) h3 h4,rfl,q}}
theorem AB{i:Nat}{x:Str}{pos' Ke:Pos}(hN:X.N.Nodup)(Xw:X.N[i]?=some x)(VM:X.env.scope.names.lookup x=some .local) (S:bB X N src scope) (hc:X.calm=true) (hit:PI X tg iter wi) (hg:∀C s H ex pn,PG (iw X N scope C s H ex pn) tg g) (hx:sv g src) (hi:∀C s H ex pn,Mv (iw X N scope C s H ex pn) ifs tc) (he:∀C s H ex pn,PE (iw X N scope C s H ex pn) elt te) (Xx:autoParam (swapsWith (.ListComp elt [{tg,iter,ifs,0}] scope pos) (some<|.Name x pos') Ke.line X.env=pure true) qQJ) (hs:autoParam (∀x,foldedSetIterable iter X.env x=pure x) qQ0):PS X (.Assign [.Name x pos'] (.ListComp elt [{tg,iter,ifs,0}] scope pos) Ke) (NP (Cr wi src g tc te)<|gr i):=by
 intro pins s σ H D I h;rw[exec_Assign_Name_used _ _ _ _ Xx];refine zc<|wpAny_standAt<|zc ?_;have Cs:closureFor scope X.env=pure (clOf X.env.cells scope.names):=dM λy hy hf=>I.ok.has y.1<|S.tP y hy hf;show wpAny _ X.A (do let _ <-comprehension (.ListComp elt [⟨tg,iter,ifs,0⟩] scope pos) scope X.env _ (newList []) false (eval iter X.env) (some (assign (.Name x pos') X.env))) _ _ s;refine zc<|yF (wpAny_comprehension_free (use:=some<|assign (.Name x pos') X.env) (Q:=λ_ s'=>∃aJ H',Inv X pins aJ H' s'/\D.nx aJ H') rfl hs Cs S.kind S.loc<|bf (hit pins s σ H _ I h) λv s1 h1=>bf h1 λRF s2 h2=>?_) (λ_ s' hq=>zA<|zA hq) λ_ _ e=>e;obtain⟨it,fp,tn,J,H2,e,I2,T,p5,f2,W,w0,turn⟩:=h2;subst e;refine tQ (Q:=λv H1=>D.nx (σ.set i<|some v) H1) (RR:=λacc C=>compPost (model X.prog X.w) X.A X.xe (some<|assign (.Name x pos') X.env) (λ_ s'=>∃aJ H',Inv X pins aJ H' s'/\D.nx aJ H') acc C) S hc hg hx hi he I2 T p5 f2 W w0 turn λD' C s' ⟨H',m,I',q,hm,hn,h1,h2,h3,h4⟩=>?_;show wpAny _ X.A (assign (.Name x pos') X.env<|.ref D') _ _ _;refine wpAny_assign_Name<|tm I' hN Xw (.inl VM) (v:=.ref D') rfl (λAs I'' ⟨a,sb,ha⟩=>?_)<|.inr VM;have hCa:C≠a:=by rcases ha with ha|ha;rw[ha];exact h1;exact Ne.symm<|h3 _ _ ha
 refine{m,hm.sameBut sb hCa,λh'' Eu=>{_,H',I''.turned (t':=As.toks) (it:=C) (λb o hb e=>(Eu.2 b hb).trans e) hn h1 (.inr h2) h3 h4,q}}
end
theorem m_{σ:St}{src:List<|Option Nat}{i:Nat}(h:src[i]?=some none):(pick σ src)[i]?=some none:=by unfold pick;rw[zw,h];rfl
theorem Ext.set(h:σ0[i]?=some none)(e:Ext σ0 σ):Ext σ0 (σ.set i<|some v):=by
 refine{by rw[List.length_set];exact e.1,λj w hj=>?_};have:i≠j:=by rintro rfl;rw[h]at hj;cases hj
 rw[List.getElem?_set_ne this];exact e.2 j w hj
theorem Ext.refl(σ:St):Ext σ σ:={rfl,λ_ _ h=>h}
theorem aR{src:List<|Option Nat}{i:Nat}(h:src[i]?=some none):sv (gr i) src:=λx σ H Q q=>{(Ext.refl _).set<|m_ h,q}
theorem pN{K:Frag}{n:Nat}{src:List<|Option Nat}{i j:Nat}(h:src[i]?=some none)(h':src[j]?=some none):sv (JN K n<|pX (gr i)<|pX (gr j) JM) src:=λx σ H Q q=>by obtain⟨a,xs,e1,hs,hl,v,r,e2,v2,r2,e3,e4,q⟩:=q;exact{a,xs,e1,hs,hl,v,r,e2,v2,r2,e3,e4,((Ext.refl _).set<|m_ h).set<|m_ h',q}
theorem all_bools{xs:List V}{au:List Value}{bs:List Bool}(hv:Vals xs au)(hb:xs=bs.map V.bl):∀(i:Nat)(v:Value),au.toArray[i]?=some v->v=Value.bool ((bs[i]?).getD false):=by
 subst hb;intro i v h;have h':au[i]?=some v:=by simpa using h
 have hl:=hv.length;rw[zb]at hl;have hi:i<au.length:=(zk.mp h').1;have hb:bs[i]?=some (bs[i]'(by lia)):=by simp
 obtain⟨u,hu,r⟩:=hv.get (i:=i) (x:=V.bl<|bs[i]'(by lia)) (by rw[zw,hb];rfl);rw[h']at hu;cases hu;rw[hb];exact r
theorem range_all{bs:List Bool} : (List.range bs.length).all (λi=>(bs[i]?).getD false)=bs.all id:=by rw[yk,ya,ya];constructor;intro h b hb;obtain⟨i,hi,rfl⟩:=List.mem_iff_getElem.mp hb;have:=h i<|zT.mpr hi;simpa [hi]using this;intro h i hi;have hi:=zT.mp hi;simpa [hi]using h _ (List.getElem_mem hi)
theorem range_any{bs:List Bool} : (List.range bs.length).any (λi=>(bs[i]?).getD false)=bs.any id:=by rw[yk,ym,ym];constructor;rintro⟨i,hi,h⟩;have hi:=zT.mp hi;exact{bs[i],List.getElem_mem hi,by simpa [hi]using h};rintro⟨b,hb,h⟩;obtain⟨i,hi,rfl⟩:=List.mem_iff_getElem.mp hb;exact{i,zT.mpr hi,by simpa [hi]using h}
section
variable{X:Cx}
theorem sx(hc:X.calm=true):dO X (.builtin "all") (λxs H Q=>∃(a:Addr)(bs:List Bool),xs=[.ref a]/\iQ X.K H a (bs.map V.bl)/\Q (.bl<|bs.all id) H):=by
 intro pins s σ H xs us Q I r h;obtain⟨a,bs,rfl,hq,q⟩:=h;obtain⟨u,rfl,ru⟩:=vals1 r;cases ru;obtain⟨au,rv,p,hz⟩:=I.list hq;have hl:=rv.length;rw[zb]at hl;refine call_all_walk<|wpAny_pyIter_list p.isList ?_;refine{s.heap.objs.size,_,_,_,_,_,λi=>(bs[i]?).getD false,rfl,Walks.list (A:=X.A.in1) (I.ok.hd hc) s.heap.objs.size a (zu p.lt) au.toArray,{{_,zm _ rfl,rfl,rfl},p.isList.at λo e=>za _ e},?_,λh' tk hk=>?_};intro i v s' Q' E' hv hQ;rw[all_bools rv rfl i v hv];exact yr hQ;have e:au.toArray.size=bs.length:=by rw[zo,<-hl]
 rw[e,range_all];exact{.bl<|bs.all id,H,I.kept (h':=h') (t':=tk) λb o e=>hk b o (by simpa using zu (zr e))<|za _ e,rfl,q}
theorem sy(hc:X.calm=true):dO X (.builtin "any") (λxs H Q=>∃(a:Addr)(bs:List Bool),xs=[.ref a]/\iQ X.K H a (bs.map V.bl)/\Q (.bl<|bs.any id) H):=by
 intro pins s σ H xs us Q I r h;obtain⟨a,bs,rfl,hq,q⟩:=h;obtain⟨u,rfl,ru⟩:=vals1 r;cases ru;obtain⟨au,rv,p,hz⟩:=I.list hq;have hl:=rv.length;rw[zb]at hl;refine call_any_walk<|wpAny_pyIter_list p.isList ?_;refine{s.heap.objs.size,_,_,_,_,_,λi=>(bs[i]?).getD false,rfl,Walks.list (A:=X.A.in1) (I.ok.hd hc) s.heap.objs.size a (zu p.lt) au.toArray,{{_,zm _ rfl,rfl,rfl},p.isList.at λo e=>za _ e},?_,λh' tk hk=>?_};intro i v s' Q' E' hv hQ;rw[all_bools rv rfl i v hv];exact yr hQ;have e:au.toArray.size=bs.length:=by rw[zo,<-hl]
 rw[e,range_any];exact{.bl<|bs.any id,H,I.kept (h':=h') (t':=tk) λb o e=>hk b o (by simpa using zu (zr e))<|za _ e,rfl,q}
end
noncomputable def ownOf:HO->Option Addr|.ins _ dx _=>some dx|.kB _ u=>ownOf u|_=>none
structure Fg(H H' G:Hp):Prop where
 sub:∀b o,G b=some o->H' b=some o
 dom:∀b o,H b=some o->∃o',G b=some o'
 own:∀a o dx,G a=some o->ownOf o=some dx->(∃o',H a=some o'/\ownOf o'=some dx)\/∃o',G dx=some o'
theorem aI:bootBuiltins "len"= some (.builtin "len"):=PySem.boot_len
theorem fZ:bootBuiltins "all"= some (.builtin "all"):=boot_all
theorem OI:bootBuiltins "any"= some (.builtin "any"):=boot_any
theorem av:bootBuiltins "isinstance"= some (.builtin "isinstance"):=boot_isinstance
theorem AD:bootBuiltins "int"= some (.type "int"):=PyProof.Rows.boot_int
theorem Kf:bootBuiltins "bool"= some (.type "bool"):=PyProof.Rows.boot_bool
theorem gU:bootBuiltins "str"= some (.type "str"):=PyProof.Rows.boot_str
theorem aW:bootBuiltins "tuple"= some (.type "tuple"):=PyProof.Rows.boot_tuple
theorem Kg:bootBuiltins "list"= some (.type "list"):=PyProof.Rows.boot_list
theorem Ct:bootBuiltins "dict"= some (.type "dict"):=PyProof.Rows.boot_dict
theorem OJ:bootBuiltins "set"= some (.type "set"):=PyProof.Rows.boot_set
set_option genInjectivity true in
set_option genSizeOfSpec true in
inductive Kd where
 |ax|bl|int|str|lst|tup|cU
 deriving DecidableEq
noncomputable def Kd.name:Kd->String|.ax=>"NoneType" |.bl=>"bool" |.int=>"int" |.str=>"str" |.lst=>"list" |.tup=>"tuple" |.cU=>"dict"
inductive ql (H:Hp):V->Kd->Prop where
 |ax:ql H .ax .ax
 |bl (b:Bool):ql H (.bl b) .bl
 |int (i:Int):ql H (.int i) .int
 |str (x:Str):ql H (.str x) .str
 |lst {a:Addr}{xs:List V} (e:H a=some (.lst xs)):ql H (.ref a) .lst
 |tup {a:Addr}{xs:List V} (e:H a=some (.tup xs)):ql H (.ref a) .tup
 |cU {a:Addr}{kvs:List<|Key×V} (e:H a=some (.dK kvs)):ql H (.ref a) .cU
theorem ql.ty{K:Frag}{H:Hp}{x:V}{k:Kd}(h:ql H x k):m7 K H x (.type k.name):=by cases h with|ax=>exact .ax|bl b=>exact .bl b|int i=>exact .int i|str x=>exact .str x|lst e=>exact .lst e|tup e=>exact .tup e|cU e=>exact .dK e
noncomputable def wJ(T:String):Option (Kd->Bool):=if T ="int" then some λk=>match k with|.int=>true|.bl=>true|_=>false else if T ="bool" then some λk=>match k with|.bl=>true|_=>false else if T ="str" then some λk=>match k with|.str=>true|_=>false else if T ="tuple" then some λk=>match k with|.tup=>true|_=>false else if T ="list" then some λk=>match k with|.lst=>true|_=>false else if T ="dict" then some λk=>match k with|.cU=>true|_=>false else none
theorem GP{K:Frag}{T:String}{g:Kd->Bool}(h:wJ T=some g)(k:Kd):kitOne K (.type k.name) (.type T)=some (g k):=by unfold wJ at h;split at h;rename_i e;subst e;cases h;cases k<;>rfl;split at h;rename_i e;subst e;cases h;cases k<;>rfl;split at h;rename_i e;subst e;cases h;cases k<;>rfl;split at h;rename_i e;subst e;cases h;cases k<;>rfl;split at h;rename_i e;subst e;cases h;cases k<;>rfl;split at h;rename_i e;subst e;cases h;cases k<;>rfl;cases h
section
variable{X:Cx}
theorem GQ:dO X (.builtin "isinstance") (λxs H Q=>∃x T k g,xs=[x,.ty T]/\wJ T=some g/\ql H x k/\Q (.bl<|g k) H):=by intro pins s σ H xs us Q I r h;obtain⟨x,T,k,g,rfl,hg,hk,q⟩:=h;obtain⟨v,w',rfl,rv,p9⟩:=vals2 r;cases p9;exact Ee I rv hk.ty (GP hg k) λtk=>{.bl<|g k,H,I.tok tk,rfl,q}
end
mutual
def Dt(K:Frag)(H:Hp):PyData->V->Prop|.none,v=>v=.ax|.bool b,v=>v=.bl b|.int i,v=>v=.int i|.str z,v=>v=.str z|.list ds,v=>∃a xs,v=.ref a/\iQ K H a xs/\DtAll K H ds xs|.tuple ds,v=>∃a xs,v=.ref a/\iu K H a xs/\DtAll K H ds xs|.dict _,_=>False
def DtAll(K:Frag)(H:Hp):List PyData->List V->Prop|[],xs=>xs=[]|d::ds,xs=>∃y ys,xs=y::ys/\Dt K H d y/\DtAll K H ds ys
end
section
variable{X:Cx}{pins:List (Addr×Obj)}{σ:St}{H:Hp}{s:Shared}
mutual
theorem Inv.reads(I:Inv X pins σ H s):∀(d:PyData){x:V}{u:Value},Dt X.K H d x->RelV x u->∃as,Reads s.heap u d as
 |.none,x,u,h,r=>by
  have h:x=.ax:=by simpa only[Dt]using h
  subst h;cases r;exact{_,.none}
 |.bool b,x,u,h,r=>by
  have h:x=.bl b:=by simpa only[Dt]using h
  subst h;cases r;exact{_,.bool b}
 |.int i,x,u,h,r=>by
  have h:x=.int i:=by simpa only[Dt]using h
  subst h;obtain⟨t,rfl⟩:=r;exact{_,.int i t}
 |.str z,x,u,h,r=>by
  have h:x=.str z:=by simpa only[Dt]using h
  subst h;obtain⟨t,rfl⟩:=r;exact{_,.str z t}
 |.list ds,x,u,h,r=>by
  have h:∃a xs,x=.ref a/\iQ X.K H a xs/\DtAll X.K H ds xs:=by simpa only[Dt]using h
  obtain⟨a,xs,rfl,hq,hd⟩:=h;cases r;obtain⟨au,rv,p,_⟩:=I.list hq;obtain⟨as,ra⟩:=Inv.readsAll I ds hd rv;obtain⟨o,e,c,n,d⟩:=p.isList;exact{_,.list e c d<|by simpa using ra}
 |.tuple ds,x,u,h,r=>by
  have h:∃a xs,x=.ref a/\iu X.K H a xs/\DtAll X.K H ds xs:=by simpa only[Dt]using h
  obtain⟨a,xs,rfl,hq,hd⟩:=h;cases r;obtain⟨au,rv,p,_⟩:=I.tuple hq;obtain⟨as,ra⟩:=Inv.readsAll I ds hd rv;obtain⟨o,e,c,n,d⟩:=p;exact{_,.tuple e c d<|by simpa using ra}
 |.dict _,x,u,h,r=>by
  have h:False:=by simpa only[Dt]using h
  exact h.elim
theorem Inv.readsAll(I:Inv X pins σ H s):∀(ds:List PyData){xs:List V}{us:List Value},DtAll X.K H ds xs->Vals xs us->∃as,ReadsAll s.heap us ds as
 |[],xs,us,h,r=>by
  have h:xs=[]:=by simpa only[DtAll]using h
  subst h;cases r;exact{_,.nil}
 |d::ds,xs,us,h,r=>by
  have h:∃y ys,xs=y::ys/\Dt X.K H d y/\DtAll X.K H ds ys:=by simpa only[DtAll]using h
  obtain⟨y,ys,rfl,h1,h2⟩:=h;cases r with|cons r1 r2=>obtain⟨as,ra⟩:=Inv.reads I d h1 r1;obtain⟨bs,rb⟩:=Inv.readsAll I ds h2 r2;exact{_,.cons ra rb}
end
end
def Sj(K:Frag)(neg:Bool):R2:=λx y H Q=>∃d e,Dt K H d x/\Dt K H e y/\d.canLay0=true/\e.canLay0=true/\(d.depth<=64\/e.depth<=64)/\Q (.bl<|if neg then !PyData.eqv d e else PyData.eqv d e) H
section
variable{X:Cx}
theorem GR(hu:X.A.units+64<cLine):gs X (compareOp .Eq) (Sj X.K false):=by intro pins s σ H x y v u Q I rx ry h;obtain⟨d,e,hd,he,cd,ce,dp,q⟩:=h;obtain⟨as,ra⟩:=I.reads d hd rx;obtain⟨bs,rb⟩:=I.reads e he ry;exact SeqAt.compareEq_reads ra rb cd ce (by rcases dp with dp|dp<;>lia)<|aK I q rfl
theorem GS(hu:X.A.units+64<cLine):gs X (compareOp .NotEq) (Sj X.K true):=by intro pins s σ H x y v u Q I rx ry h;obtain⟨d,e,hd,he,cd,ce,dp,q⟩:=h;obtain⟨as,ra⟩:=I.reads d hd rx;obtain⟨bs,rb⟩:=I.reads e he ry;exact SeqAt.compareNe_reads ra rb cd ce (by rcases dp with dp|dp<;>lia)<|aK I q rfl
end
theorem jD(a b:Nat):FQ ⟨#[a]⟩ ⟨#[b]⟩=decide (a<=b):=by
 unfold FQ;have e:([b]<[a])↔b<a:=by rw[List.cons_lt_cons_iff];constructor;rintro (h|⟨_,h⟩);exact h;exact absurd h<|List.not_lt_nil _;exact .inl
 rw[yk];show(!decide ([b]<[a]))=true↔_;rw[Bool.not_eq_true',decide_eq_false_iff_not,e,decide_eq_true_iff];lia
def chkC(sc:Scope)(N0 N:List Str)(src:List<|Option Nat)(scope:Scope):Bool :=
 decide (scope.kind=.function)&&(scope.names.all (λy=>decide (y.2≠.cell)&&(decide (y.2≠.local)||decide (scope.names.lookup y.1=some .local))&&(decide (y.2≠.free)||(decide (sc.names.lookup y.1=some .cell)||decide (sc.names.lookup y.1=some .free)))) &&
  (decide (src.length=N.length)&&(List.range src.length).all λi=>match src[i]?,N[i]? with
   |some (some j),some x=>decide (N0[j]?=some x)&&(decide (scope.names.lookup x=some .free)&&(decide (sc.names.lookup x=some .cell)||decide (sc.names.lookup x=some .free)))
   |_,_=>true))
theorem j7(sc:Scope)(N0:List Str)(hs:X.env.scope=sc)(hN:X.N=N0)(h:chkC sc N0 N src scope=true):bB X N src scope:=by unfold chkC at h;simp only[zK,zX,ya,Bool.or_eq_true]at h;obtain⟨h1,h2,h3,h4⟩:=h;refine{h1,λy hy=>(h2 y hy).1.1,λy hy e=>?_,λy hy e=>?_,h3,λi j x e1 e2=>?_};rcases (h2 y hy).1.2 with z|z;exact absurd e z;exact z;rcases (h2 y hy).2 with z|z;exact absurd e z;show X.env.scope.names.lookup y.1=some .cell\/X.env.scope.names.lookup y.1=some .free;rw[hs];exact z;have hi:i<src.length:=(zk.mp e1).1;have q:=h4 i<|zT.mpr hi;rw[e1,e2]at q;simp only[zK,zX,Bool.or_eq_true]at q;refine{by rw[hN];exact q.1,q.2.1,?_};unfold Md;rw[hs];exact .inr q.2.2
theorem lQ(h0:0<=i)(h1:i<l.length):∃v,tJ l i=some v/\l[i.toNat]?=some v:=by
 obtain⟨j,rfl⟩:=Int.eq_ofNat_of_zero_le h0;have hj:j<l.length:=by lia
 exact{l[j],jB<|by simp[hj],by simp[hj]}
theorem bP{c:Bool}{A B:Prop}(h:c=true->A)(h':c=false->B):if c=true then A else B:=by cases c with|true=>exact h rfl|false=>exact h' rfl
theorem nt(h:(!b)=true):b=false:=by cases b<;>simp_all
theorem nf(h:(!b)=false):b=true:=by cases b<;>simp_all
noncomputable def AE:Kd->Bool|.int=>true|.bl=>true|_=>false
noncomputable def uD:Kd->Bool|.bl=>true|_=>false
noncomputable def AF:Kd->Bool|.str=>true|_=>false
noncomputable def qm:Kd->Bool|.tup=>true|_=>false
theorem Kh:wJ "int"= some AE:=if_pos rfl
theorem GU:wJ "bool"= some uD:=(if_neg<|by decide).trans<|if_pos rfl
theorem cD:wJ "str"= some AF:=(if_neg<|by decide).trans<|(if_neg<|by decide).trans<|if_pos rfl
theorem aX:wJ "tuple"= some qm:=(if_neg<|by decide).trans<|(if_neg<|by decide).trans<|(if_neg<|by decide).trans<|if_pos rfl
theorem len_pos{z:Str}(h:1<=z.cps.size):∃c r,z.cps.toList=c::r:=by cases e:z.cps.toList with|nil=>have:z.cps.toList.length=0:=(by rw[e];rfl);rw[yn]at this;lia|cons c r=>exact⟨c,r,rfl⟩
theorem at0(e:l=c::r):tJ l 0=some c:=by
 have:l[0]?=some c:=by rw[e];rfl
 exact jB (j:=0) this
def isPlain:Expr->Bool|.Starred _ _=>false|_=>true
theorem AG(h:isPlain e=true):starEach (e::es) env=(false,eval e env)::starEach es env:=by cases e<;>first|rfl|exact absurd h zd
theorem Xy{t:TA}(ha:PE X e te)(hr:PA X es t)(hp:autoParam (isPlain e=true) qQJ):PA X (e::es) (Mp te t):=JX ha hr<|AG hp
end L2
namespace HT
open PySem PyProof.Rows
open PySem.SeqAt
open PySem.AutoSeq1 (wpAny_loadPart')
open PySem.MeetsSeq PySem.MeetsSeq2 PySem.MeetsSeq3
end HT
namespace L2
open PySem PySem.Spec PyProof.Rows
def GV(c:Value)(e:Addr)(h:Heap):Prop:=∃o vs,h.get? e=some o/\o.data=.fields vs/\vs[2]?=some c
section
variable{M:Model}{A:Around}{E:Value->Shared->Prop}{s:Shared}{base:Heap}{env:Env}{outer:List Env}{L e:Addr}{a0 c fl:Value}
theorem Sk(we:A.frames=some (env::outer))(hl:s.heap.FunFrames base<|env::outer)(hf:env.frame=some L) (he:s.heap.get? e=some oe) (FT:base.StaysIn s.heap) (y8:base.get? e=none) (hd:oe.data=.fields vs) (h0:vs[0]?=some a0) (h2:vs[2]?=some c) (h:∀h',Heap.NotedW base (env::outer) e oe.cls a0 (rawInt L) s.heap h'->GV c e h'->Q () {s with heap:=h'}): wpAny M A (do let x <-frameOf env;let y <-entryPlaceOf L nx;let z <-EntryCells.newEntry head x .none (rawInt L) .none y;setField (.ref e) 1 z) Q E s:=by
 have hsz:1<vs.size:=by have:=(Array.getElem?_eq_some_iff.mp h2).1;lia
 have nfr:e∉(env::outer).filterMap (·.frame):=λm=>by obtain⟨_,o,q,n⟩:=hl.mem m;rw[he]at q;cases q;exact n vs hd
 refine zc<|wpAny_frameOf_fun we hl hf λg sg=>?_;refine zc<|wpAny_entryPlaceOf λpl dr=>?_;unfold EntryCells.newEntry newFields;refine zc<|yA ?_<|dr.sizeOk5 _ _ _ _ _;have g1:g.get? e=some oe:=(sg.2.1 e nfr).trans he;have kg:base.StaysIn g:=λb o q=>(sg.2.1 b λm=>by rw[(hl.mem m).1]at q;cases q).trans<|FT b o q;have t3:((([head,.ref L,.none,rawInt L,.none]++(if pl.isEmpty then List.replicate 6 Value.none else pl)).toArray:Array Value))[3]?=some (rawInt L):=by rcases dr with rfl|⟨_,_,_,_,_,_,_,rfl⟩<;>simp
 generalize ZX:(([head,.ref L,.none,rawInt L,.none]++(if pl.isEmpty then List.replicate 6 Value.none else pl)).toArray:Array Value)=ts at t3;have g2:=za (h:=g) {cls:=.type "traceback",dict:=none,data:=.fields ts} g1;refine yR g2 hd hsz<|h _ ?_ ?_;have ne:g.objs.size≠e:=yg<|zr g1;have d3:=yx hd (·.setIfInBounds 1 (Value.ref g.objs.size));have e3:=yu (Obj.mapFields (·.setIfInBounds 1 (Value.ref g.objs.size))) g2<|Obj.isFreed_of_fields d3;have T3:=(yp (g.push {cls:=.type "traceback",dict:=none,data:=.fields ts}) (Obj.mapFields (·.setIfInBounds 1 (Value.ref g.objs.size)))<|Ne.symm ne).trans<|zm g rfl;have keep:∀b o,b≠e->g.get? b=some o->((g.push {cls:=.type "traceback",dict:=none,data:=.fields ts}).update e (Obj.mapFields (·.setIfInBounds 1 (Value.ref g.objs.size)))).get? b=some o:=λb o n q=>by rw[yp _ _<|Ne.symm n];exact za _ q
 have wK:∀b o,s.heap.get? b=some o->(∀vs,o.data≠.fields vs)->b≠e:=λb o q n z=>by rw[z,he]at q;cases q;exact n vs hd
 refine{λb o q=>keep b o (λz=>by rw[z,y8]at q;cases q)<|kg b o q,hl.of_keeps λb o q n=>?_,?_,λb o q n=>?_};obtain⟨sl,z⟩:=sg.2.2 b o q;exact{_,keep b _ (wK b o q n) z,rfl};exact{_,_,g.objs.size,_,_,e3,{Obj.cls_mapFields _ _,by rw[Array.getElem?_setIfInBounds_ne<|by decide];exact h0},d3,by simp[hsz],kg.fresh,ne,T3,rfl,t3};obtain⟨sl,z⟩:=sg.2.2 b o q;exact{sl,keep b _ (wK b o q n) z};have d3:=yx hd (·.setIfInBounds 1 (Value.ref g.objs.size));exact{_,_,yu (Obj.mapFields (·.setIfInBounds 1 (Value.ref g.objs.size))) g2<|Obj.isFreed_of_fields d3,d3,by rw[Array.getElem?_setIfInBounds_ne<|by decide];exact h2}
theorem setC(FT:base.StaysIn s.heap)(y8:base.get? e=none)(hl:s.heap.FunFrames base l)(ht:s.heap.TracedAtW base e cls a0 fl)(hc:GV c e s.heap) (h:∀h',Heap.FlyingW base l e cls a0 h'->s.heap.UpToSlots h'->GV c e h'->Q () {s with heap:=h'}):wpAny M A (setFlight (.ref e) none) Q E s:=by
 obtain⟨o,vs,T,oT,ts,q,hk,hd,q1,nT,ne,qT,dT,q3⟩:=ht;obtain⟨o',Xz,q',Ae,q2⟩:=hc;rw[q]at q';cases q';rw[hd]at Ae;cases Ae;have Sl:3<ts.size:=(Array.getElem?_eq_some_iff.mp q3).1;have Ki:∀b,b≠T->(s.heap.update T (Obj.mapFields (·.setIfInBounds 3 ((none:Option Addr).elim Value.none λf=>rawInt f)))).get? b=s.heap.get? b:=λb n=>yp _ _<|Ne.symm n;have wK:∀b o,s.heap.get? b=some o->(∀vs,o.data≠.fields vs)->b≠T:=λb o z n w=>by rw[w,qT]at z;cases z;exact n ts dT
 have qe:=(Ki e<|Ne.symm ne).trans q;unfold setFlight;refine zc<|yf q hd q1 ?_;rw[if_pos<|show(Value.ref T != Value.none)=true by simp];refine yR qT dT Sl<|h _ {λb o z=>(Ki b λw=>by rw[w,nT]at z;cases z).trans<|FT b o z,y8,hl.of_keeps λb o z n=>{o,(Ki b<|wK b o z n).trans z,rfl},?_} (λb o z n=>{o.slots,(Ki b<|wK b o z n).trans z}) ⟨o,vs,qe,hd,q2⟩;exact{o,vs,T,_,_,qe,hk,hd,q1,nT,ne,yu _ qT<|Obj.isFreed_of_fields<|yx dT _,yx dT _,by simp[Sl]}
theorem Sm(we:A.frames=some (env::outer))(hf:env.frame=some L)(FT:base.StaysIn s.heap)(y8:base.get? e=none)(hl:s.heap.FunFrames base<|env::outer)(ht:s.heap.TracedAtW base e cls a0 fl)(hc:GV c e s.heap) (h:∀h',Heap.HeldW base (env::outer) e cls a0 L h'->s.heap.UpToSlots h'->GV c e h'->Q () {s with heap:=h'}):wpAny M A (noteFrame (.ref e) env) Q E s:=by
 by_cases Sn:fl=rawInt L;subst Sn;exact wpAny_noteFrame_againW hf ht<|h s.heap ⟨FT,y8,hl,ht⟩ (.refl _) hc;obtain⟨o,vs,T,oT,ts,q,⟨hk,h0⟩,hd,q1,nT,ne,qT,dT,q3⟩:=ht;obtain⟨o',Xz,q',Ae,q2⟩:=hc;rw[q]at q';cases q';rw[hd]at Ae;cases Ae;subst hk;have Ki:∀b,b≠T->(s.heap.update T (Obj.mapFields (·.setIfInBounds 3 Value.none))).get? b=s.heap.get? b:=λb n=>yp _ _<|Ne.symm n;have wK:∀b o,s.heap.get? b=some o->(∀vs,o.data≠.fields vs)->b≠T:=λb o z n w=>by rw[w,qT]at z;cases z;exact n ts dT
 unfold noteFrame;simp only[hf];refine zc<|yf q hd q1 ?_;rw[if_pos<|show(Value.ref T != Value.none)=true by simp];refine zc<|yf qT dT q3 ?_;rw[if_neg<|show ¬((fl==rawInt L)=true) by simpa using Sn];refine zc<|yR qT dT (Array.getElem?_eq_some_iff.mp q3).1 ?_;refine Sk we (hl.of_keeps λb o z n=>{o,(Ki b<|wK b o z n).trans z,rfl}) hf ((Ki e<|Ne.symm ne).trans q) (λb o z=>(Ki b λw=>by rw[w,nT]at z;cases z).trans<|FT b o z) y8 hd h0 q2 λh' x y=>?_;obtain⟨x1,x2,x3,x4⟩:=x;exact h h' ⟨x1,y8,x2,x3⟩ (λb o z n=>x4 b o ((Ki b<|wK b o z n).trans z) n) y
theorem OL(we:A.frames=some (env::outer))(hf:env.frame=some L)(FT:base.StaysIn s.heap)(y8:base.get? e=none)(hl:s.heap.FunFrames base<|env::outer) (he:s.heap.get? e=some oe) (hd:oe.data=.fields vs) (h0:vs[0]?=some a0) (h1:vs[1]?=some .none) (h2:vs[2]?=some c) (h:∀h',Heap.HeldW base (env::outer) e oe.cls a0 L h'->s.heap.UpToSlots h'->GV c e h'->Q () {s with heap:=h'}):wpAny M A (noteFrame (.ref e) env) Q E s:=by unfold noteFrame;simp only[hf];refine zc<|yf he hd h1 ?_;rw[if_neg<|by decide];refine Sk we hl hf he FT y8 hd h0 h2 λh' x y=>?_;obtain⟨x1,x2,x3,x4⟩:=x;exact h h' ⟨x1,y8,x2,x3⟩ x4 y
theorem OM(we:A.frames=some (env::outer))(hf:env.frame=some L)(FT:base.StaysIn s.heap)(y8:base.get? e=none)(hl:s.heap.FunFrames base<|env::outer)(ht:s.heap.TracedAtW base e cls a0 fl)(hc:GV c e s.heap) (h:∀h',Heap.FlyingW base outer e cls a0 h'->s.heap.UpToSlots h'->GV c e h'->Q () {s with heap:=h'}):wpAny M A (leaving env<|.ref e) Q E s:=by unfold leaving;refine zc<|Sm we hf FT y8 hl ht hc λh' x u y=>?_;obtain⟨x1,x2,x3,x4⟩:=x;refine setC x1 x2 x3 x4 y λh2 z u2 y2=>?_;obtain⟨z1,z2,⟨_,_,z3⟩,z4⟩:=z;exact h h2 ⟨z1,z2,z3,z4⟩ (u.trans u2) y2
theorem Kj(we:A.frames=some (env::outer))(hf:env.frame=some L)(FT:base.StaysIn s.heap)(y8:base.get? e=none)(hl:s.heap.FunFrames base<|env::outer) (he:s.heap.get? e=some oe) (hd:oe.data=.fields vs) (h0:vs[0]?=some a0) (h1:vs[1]?=some .none) (h2:vs[2]?=some c) (h:∀h',Heap.FlyingW base outer e oe.cls a0 h'->s.heap.UpToSlots h'->GV c e h'->Q () {s with heap:=h'}):wpAny M A (leaving env<|.ref e) Q E s:=by unfold leaving;refine zc<|OL we hf FT y8 hl he hd h0 h1 h2 λh' x u y=>?_;obtain⟨x1,x2,x3,x4⟩:=x;refine setC x1 x2 x3 x4 y λh2 z u2 y2=>?_;obtain⟨z1,z2,⟨_,_,z3⟩,z4⟩:=z;exact h h2 ⟨z1,z2,z3,z4⟩ (u.trans u2) y2
end
theorem bj.get(x:bj P w H h a o):∃u,h.get? a=some u:=by cases o with|lst xs=>(obtain⟨_,_,_,_,e⟩:=x;exact{_,e})|tup xs=>(obtain⟨_,_,_,ob,e,_⟩:=x;exact{_,e})|dK kvs=>(obtain⟨_,_,_,_,o,_,_,e,_⟩:=x;exact{_,e})|dT kvs=>exact False.elim x|set S n=>(obtain⟨o,_,_,_,e,_⟩:=x;exact{_,e})|ins C dx fs=>(obtain⟨_,_,_,e,_⟩:=x;exact{_,e})|own y=>(obtain⟨_,e⟩:=x;exact{_,e})|xd fs=>(obtain⟨_,⟨_,_,_,e,_⟩,_⟩:=x;exact{_,e})|Vy lo hi=>(obtain⟨_,_,_,e⟩:=x;exact{_,e})|kB ob u=>(obtain⟨e,_⟩:=x;exact{_,e})|pJ ps=>exact{_,show h.get? a=some _ from x}|met f y=>exact{_,show h.get? a=some _ from x}|ext φ=>obtain⟨_,e,_⟩:=x;exact e
structure XB(P:Program)(w:World)(mg:Str->Option Value)(outer:List Env)(H H':Hp)(h0:Heap)(a:Addr)(cls a0:Value)(B h:Heap):Prop where
 fl:Heap.FlyingW B outer a cls a0 h
 aM:kC P w H' B
 keep:∀b o,h0.get? b=some o->H b=none->b∉kE outer->B.get? b=some o
 there:∀b o,h0.get? b=some o->b∉kE outer->∃o',B.get? b=some o'
 slot:∀b o,h0.get? b=some o->b∈kE outer->∃sl,h.get? b=some {o with slots:=sl}
 free:∀b o,h0.get? b=some o->H b=none->H' b=none
 kD:∀b xs,H b=some (.tup xs)->H' b=some (.tup xs)
 jM:∀b o u,H b=some (.kB o u)->H' b=some (.kB o u)
 jN:∀b ps,H b=some (.pJ ps)->∃more,H' b=some (.pJ<|ps++more)
 cx:GV .none a h\/mg "NoMark"= some cls
def eU(P:Program)(w:World)(mg:Str->Option Value):Ar:=λouter H s E e s'=>∃a cls a0 B H',e=.ref a/\s'.os=s.os/\AllBare s'.gens/\XB P w mg outer H H' s.heap a cls a0 B s'.heap/\E cls none H'
structure cJ(X:Cx)(E:XK):Prop where
 ex:X.ex=[]
 st:X.stack=X.env::X.outer
 fr:X.env.frame=some X.env.locals
 xe:∀e s',wpAny (model X.prog X.w) X.A (leaving X.env e) (λ_ As=>eU X.prog X.w X.mg X.outer X.so X.cI E e As) (λe' As=>eU X.prog X.w X.mg X.outer X.so X.cI E e' As) s'->X.xe e s'
theorem tR{P:Program}{w:World}{K:Frag}{mg:Str->Option Value}{base:Heap}{N:List Str}{qual:Str}{scope:Scope}{f:Addr}{cd:Value}{A:Around}{outer:List Env}{s:Shared}{H:Hp}{E:XK} : cJ (jP (eU P w mg) P w K mg base N qual scope f cd A outer s H E) E:={rfl,rfl,rfl,λ_ _ h=>h}
section
variable{X:Cx}{pins:List (Addr×Obj)}{σ:St}{H H':Hp}{s:Shared}{E E':XK}
theorem cJ.mem(L:cJ X E):b∈kE X.stack↔b=X.env.locals\/b∈X.fs:=by unfold Cx.fs kE;rw[L.st,List.filterMap_cons,L.fr];exact zh
theorem cJ.DZ(L:cJ X E)(I:Inv X pins σ H s)(e:X.cI.heap.get? b=some o)(h:b∉X.fs):b∉kE X.stack:=λz=>by rcases L.mem.mp z with z|z;have:=zr e;have h2:=I.ok.above;rw[z]at this;exact absurd (zg this h2)<|yj _;exact h z
theorem cJ.ZY(L:cJ X E)(I:Inv X pins σ H s)(F:XB X.prog X.w X.mg X.stack H H' s.heap a cls a0 B h)(f2:Heap.FlyingW B X.outer a cls a0 h2)(u2:h.UpToSlots h2)(c2:GV .none a h2\/X.mg "NoMark"= some cls):
  XB X.prog X.w X.mg X.outer X.so H' X.cI.heap a cls a0 B h2 where
 cx:=c2
 fl:=f2
 aM:=F.aM
 keep:=λb o e n hf=>F.keep b o (I.base.keep b o e n hf<|by rw[L.ex];simp) (I.base.free b o e n<|by rw[L.ex];simp)<|L.DZ I e hf
 there:=λb o e hf=>by
  obtain⟨o',q⟩:=I.base.there b o e<|by rw[L.ex];simp
  exact F.there b o' q<|L.DZ I e hf
 slot:=λb o e hf=>by
  obtain⟨sl,q⟩:=I.base.slot b o e (I.ok.Nz b hf) hf<|by rw[L.ex];simp
  obtain⟨sl1,q1⟩:=F.slot b _ q<|L.mem.mpr<|.inr hf
  obtain⟨_,o2,q2,hd⟩:=F.fl.2.2.1.mem<|L.mem.mpr<|.inr hf
  obtain⟨So,q3⟩:=u2 b o2 q2 hd
  rw[q1]at q2;cases q2
  exact⟨So,q3⟩
 free:=λb o e n=>by
  obtain⟨o',q⟩:=I.base.there b o e<|by rw[L.ex];simp
  exact F.free b o' q<|I.base.free b o e n<|by rw[L.ex];simp
 kD:=λb xs e=>F.kD b xs<|I.base.kD b xs e
 jM:=λb o u e=>F.jM b o u<|I.base.jM b o u e
 jN:=λb ps e=>by
  obtain⟨m1,q1⟩:=I.base.jN b ps e
  obtain⟨m2,q2⟩:=F.jN b _ q1
  exact{m1++m2,by rw[q2,Array.append_assoc]}
theorem Sr(L:cJ X E)(hE:∀c d H',E' c d H'->E c d H'):Passes (eU X.prog X.w X.mg) X E':=λpins σ H s e s' I h=>by
 obtain⟨a,cls,a0,B,H',rfl,os,bare,F,q⟩:=h;refine L.xe _ _ ?_;have we:X.A.frames=some (X.env::X.outer):=by rw[I.ok.frames,L.st]
 have fl:Heap.FlyingW B (X.env::X.outer) a cls a0 s'.heap:=by rw[<-L.st];exact F.fl
 rcases F.cx with hc|hc;obtain⟨f1,f2,f3,f4⟩:=fl;exact OM we L.fr f1 f2 f3 f4.at hc λh2 f2 u2 c2=>{a,cls,a0,B,H',rfl,os.trans I.os,bare,L.ZY I F f2 u2<|.inl c2,hE _ _ _ q};exact wpAny_leaves_onW we L.fr fl λh2 f2 u2=>{a,cls,a0,B,H',rfl,os.trans I.os,bare,L.ZY I F f2 u2<|.inr hc,hE _ _ _ q}
theorem ON(I:Inv X pins σ H s):kC X.prog X.w H (hideAll s.heap<|kE X.stack):=λa o e=>(I.aM a o e).mW (λb u hb q=>hideAll_get _ q λz=>by have n:=I.lE b z;rcases hb with rfl|hb;rw[e]at n;cases n;rw[hb]at n;cases n) (λ_ q=>q) λ_ _ q=>q
theorem AH(L:cJ X E)(I:Inv X pins σ H s)(hk:∀b o,s.heap.get? b=some o->h'.get? b=some o)(hn:s.heap.get? a=none)(he:h'.get? a=some oe)(hd:oe.data=.fields vs) (h0:vs[0]?=some a0) (h1:vs[1]?=some .none) (h2:vs[2]?=some c) (hc:c=.none\/X.mg "NoMark"= some oe.cls) (hE:E oe.cls none H):X.xe (.ref a) {s with heap:=h'}:=by
 refine L.xe _ _ ?_;have we:X.A.frames=some (X.env::X.outer):=by rw[I.ok.frames,L.st]
 have Ew:∀env∈X.stack,∀b,env.frame=some b->b∈kE X.stack:=λenv he b hb=>List.mem_filterMap.mpr ⟨env,he,hb⟩;have ff:s.heap.FunFrames (hideAll s.heap<|kE X.stack) (X.env::X.outer):=by rw[<-L.st];exact PySem.W.funFrames_hide I.stack Ew
 have hb:(hideAll s.heap<|kE X.stack).get? a=none:=by cases z:(hideAll s.heap<|kE X.stack).get? a with|none=>rfl|some o=>have:=of_hideAll _ z;rw[hn]at this;cases this
 refine Kj (base:=hideAll s.heap<|kE X.stack) we L.fr (λb o q=>hk b o<|of_hideAll _ q) hb (ff.of_keeps λb o q _=>{o,hk b o q,rfl}) he hd h0 h1 h2 λh2 x1 x4 c2=>?_;refine{a,oe.cls,a0,_,H,rfl,I.os,I.bare,{x1,ON I,λb o e n hf=>?_,λb o e hf=>?_,λb o e hf=>?_,λb o e n=>I.base.free b o e n<|by rw[L.ex];simp,I.base.kD,I.base.jM,I.base.jN,?_},hE};exact hideAll_get _ (I.base.keep b o e n hf<|by rw[L.ex];simp)<|L.DZ I e hf;obtain⟨o',q⟩:=I.base.there b o e (by rw[L.ex];simp);exact{o',hideAll_get _ q<|L.DZ I e hf};obtain⟨sl,q⟩:=I.base.slot b o e (I.ok.Nz b hf) hf (by rw[L.ex];simp);obtain⟨_,o2,q2,hd⟩:=I.mX.mem hf;obtain⟨So,q3⟩:=x4 b o2 (hk _ _ q2) hd;rw[q]at q2;cases q2;exact⟨So,q3⟩;rcases hc with rfl|hc;exact .inl c2;exact .inr hc
theorem ot(L:cJ X E)(I:Inv X pins σ H s)(hx:Heap.MadeExcOf s.heap h' a cls args)(hE:E cls none H):X.xe (.ref a) {s with heap:=h'}:=by obtain⟨t,he,_,_⟩:=hx.there;exact AH L I (λb o q=>hx.keeps b o q) hx.new he rfl rfl rfl rfl (.inl rfl) hE
end
abbrev ng:List Value:=[.type "ValueError",.type "Exception",.type "BaseException",.type "object"]
structure XC(K:Frag)(C:Addr):Prop where
 q:excIn K C ng "ValueError.__new__"= true
def XD(h:Heap)(C:Addr)(bm:List Value):Prop:=∃N nm q bs hdct sn sub ab col dd k0 k1 k2 k3 k5 mN,h.get? C=some (excClassObj nm q C N bs bm hdct sn sub ab col dd k0 k1 k2 k3 k5 "ValueError.__new__")/\h.Ns N mN/\mN "__init__"= none/\OwnTail h ng bm
theorem XC.at{K:Frag}{C:Addr}{h:Heap}(x:XC K C)(X:K.In h):∃bm,XD h C bm:=by have q:=x.q;unfold excIn at q;split at q;rename_i dd cd sl ho;split at q;rename_i C' bm' k0 k1 k2 k3 n k5 hm hs;simp only[zK,beq_iff_eq,Bool.not_eq_true']at q;obtain⟨⟨⟨⟨⟨q1,q2⟩,Ss⟩,ht⟩,aM⟩,VN⟩:=q;subst q1;subst q2;obtain⟨nm,bs,mro,ns,qn,hd,sn,sub,ab,col,del⟩:=cd;dsimp only at hm Ss aM VN;subst hm;subst Ss;obtain⟨sl⟩:=sl;dsimp only at hs;subst hs;exact{bm',ns,nm,qn,bs,hd,sn,sub,ab,col,dd,k0,k1,k2,k3,k5,_,X _ _ ho,.of_isNs<|PySem.W.isNs_of_in X aM,PySem.W.nsMap_none_of_in X aM VN,PySem.W.tail_of_in X ht};cases q;cases q
def XE(a:Addr)(cls:Value):HO:=.ext λh=>∃o vs,h.get? a=some o/\o.cls=cls/\o.data=.fields vs
abbrev TX:=(St->XK)->TS
noncomputable def Ends.less(D:Ends)(i:Nat):Ends:={nx:=λσ H=>D.nx (σ.set i none) H,rt:=D.rt,bk:=λσ H=>D.bk (σ.set i none) H,ct:=λσ H=>D.ct (σ.set i none) H}
structure XA(K:Frag)(C:Addr):Prop where
 ga:findIn K (.ref C) "__getattribute__"= some (some<|.builtin "BaseException.__getattribute__")
 gh:findIn K (.ref C) "__getattr__"= some none
 cl:findIn K (.ref C) "__class__"= some (some<|.builtin "object.__class__")
section
variable{X:Cx}
theorem Mx(L:cJ X E):Passes (eU X.prog X.w X.mg) X E:=Sr L λ_ _ _ h=>h
end
noncomputable def iy(l:List Str):List Str:=l.foldl (λc x=>if x∈c then c else c++[x]) []
theorem wL(l:List Str)(x:Str):iy (l++[x])=if x∈iy l then iy l else iy l++[x]:=by unfold iy;rw[List.foldl_append];rfl
theorem Kk:∀(l:List Str),(iy l).length<=l.length:=λl=>by
 have all:∀(r c:List Str),(r.foldl (λc x=>if x∈c then c else c++[x]) c).length<=c.length+r.length:=by intro r;induction r with|nil=>intro c;simp|cons x r ih=>intro c;rw[yP];refine zH (ih _) ?_;split<;>simp<;>try lia
 simpa [iy]using all l []
section
variable{prog:Program}{w:World}{A:Around}{R:Result->Shared->Prop}{I:Addr}{fp wr:List Addr}{G:Array GenState->Array GenState->Prop}{n:Nat}{P:Nat->Value->Prop}{St:Nat->Shared->Prop}
theorem GW(W:WalksS prog w A.in1 I fp wr G n P St)(S:Addr)(ZZ:S∉fp)(xs:List Str)(hx:xs.length=n)(OO:∀i v,P i v->∃x t,xs[i]?=some x/\v=.str x t)(hb:n+1<scanBound): ∀(k i:Nat)(s:Shared),i+k=n->St i s->s.heap.SetOf (strKind prog w) S (λy=>decide<|y∈iy (xs.take i)) (iy<|xs.take i).length->(∀s',Moved (S::wr) G s s'->s'.heap.SetOf (strKind prog w) S (λy=>decide<|y∈iy xs) (iy xs).length->R (.ok<|.ret .none) s')->codeAny (model prog w) A (.builtin "set.update.loop" {[.ref S,.ref I],[]}) R s:=by have nw:S∉wr:=λh=>ZZ<|W.sub _ h;have up:∀b∈wr,b∈S::wr:=λb hb=>ze _ hb;have mv:∀{i:Nat}{s s':Shared},Moved wr G s s'->s.heap.SetOf (strKind prog w) S (λy=>decide<|y∈iy (xs.take i)) (iy<|xs.take i).length->s'.heap.SetOf (strKind prog w) S (λy=>decide<|y∈iy (xs.take i)) (iy<|xs.take i).length:=λhm ⟨o,es,ep,tb,ho,rest⟩=>{o,es,ep,tb,hm.heap S _ nw ho,rest};intro k;induction k with|zero=>intro i s hk wq hS hR;have e:i=n:=(by lia);subst e;refine yQ F.entry_set_update_loop ?_;rw[Around.under_plainId F.plain_set_update_loop _];show wpAny _ A.in1 (pyNext (.ref I) >>=_) _ _ s;refine zc<|W.done s _ _ wq λs' hm=>?_;show wpAny _ A.in1 (ret Value.none) _ _ s';have q:=mv hm hS;rw[<-hx,yJ]at q;exact zA (hR s' (hm.mono up) q)|succ k ih=>intro i s hk wq hS hR;have lt:i<n:=(by lia);refine yQ F.entry_set_update_loop ?_;rw[Around.under_plainId F.plain_set_update_loop _];show wpAny _ A.in1 (pyNext (.ref I) >>=_) _ _ s;refine zc<|W.item i s _ _ lt wq λv s' hP OP hm=>?_;obtain⟨x,t,ex,rfl⟩:=OO i v hP;have q:=mv hm hS;show wpAny _ A.in1 (holding [Value.str x t] (setAdd S<|.str x t) >>=_) _ _ s';refine zc<|yG ?_;unfold setAdd;refine yG ?_;refine zc<|(strKind prog w).pyHash (k:=x) (strKind_is _ _ _ _) ?_;have room:(iy<|xs.take i).length+1<scanBound:=(by have:=Kk<|xs.take i;rw[yy]at this;lia);refine wpAny_setAddHashed_of (knd:=strKind prog w) (s:={s' with toks:=s'.toks+1}) (strKind_is _ _ _ _) rfl q room λh' Kl q2=>?_;have tk:xs.take (i+1)=xs.take i++[x]:=(by rw[List.take_succ,ex];rfl);have qi:h'.SetOf (strKind prog w) S (λy=>decide<|y∈iy (xs.take<|i+1)) (iy<|xs.take<|i+1).length:=(by refine SetOf_congr q2 (λy=>?_) ?_;rw[tk,wL];by_cases h:x∈iy (xs.take i);rw[if_pos h];by_cases hy:y=x;subst hy;simp[h];simp[hy];rw[if_neg h];simp;rw[tk,wL];by_cases h:x∈iy (xs.take i);rw[if_pos h,if_pos<|by simpa using h];rw[if_neg h,if_neg<|by simpa using h];simp);refine zA {plainId_quiet F.plain_set_update_loop _,ih (i+1) _ (by lia) (W.frame _ s' _ _ OP (yN _) λb hb o e=>?_) qi λAs OQ XH=>?_};rw[Kl.2 b (λh:b=S=>ZZ<|by rw[<-h];exact hb)];exact e;refine hR As (Moved.trans W.gtrans ((hm.mono up).then_heap (yN _) λb o hb e=>?_) OQ) XH;rw[Kl.2 b (λh:b=S=>hb<|by rw[h];exact zi)];exact e
theorem wM(hh:A.handled=none)(hl:s.heap.IsList l items)(hx:xs.length=items.size) (hi:∀(i:Nat)(v:Value),items[i]?=some v->∃x t,xs[i]?=some x/\v=.str x t) (hb:items.size+1<scanBound) (h:∀(h':Heap)(tk:Nat),h'.SetOf (strKind prog w) s.heap.objs.size (λy=>decide<|y∈iy xs) (iy xs).length->(∀b o,b<s.heap.objs.size->s.heap.get? b=some o->h'.get? b=some o)->Q (.ref s.heap.objs.size) {s with heap:=h',toks:=tk}): wpAny (model prog w) A (call (.type "set") [.ref l]) Q E s:=by
 obtain⟨c,tl,m0⟩:=F.called_set.mro;have m1:=F.called_set.made;have m2:=F.called_set.sub;refine wpAny_call<|codeAny_of_tree ?_;show wpAny _ _ (callAny (.type "set") _) _ _ _;refine zA {Code.quiet_builtin _<|by trivial,yQ F.entry_type_call ?_};rw[Around.under_plain (weight_type_call_type "set" [.ref l] []) rfl];have m3:=F.called_set.notType;have m4:=F.called_set.canCreate;have m5:=F.typeCall_set_1<|.ref l;repeat (any_goals (first|assumption|wp_step))
 refine yS (code_set_new_1 (.ref l) (E:=E) (Q₁:=λob s1=>∃led:Bool,ob=.ref s.heap.objs.size/\s1={s with heap:=s.heap.push {cls:=.type "set",dict:=none,data:=.set #[] 0 (.fresh 0 0 led)}}) λled=>⟨led,rfl,rfl⟩) λr s1 hr=>?_
 cases r with
 |error e=>exact hr
 |ok fl =>
  cases fl with
  |ret ob =>
   obtain⟨led,rfl,rfl⟩:=hr;generalize hO:({cls:=.type "set",dict:=none,data:=.set #[] 0 (.fresh 0 0 led)} : Obj)=O;have gS:(s.heap.push O).get? s.heap.objs.size=some O:=zm _ (by rw[<-hO];rfl);have tS:Shared.TypeIs {s with heap:=s.heap.push O} (.ref s.heap.objs.size) "set":={_,gS,by rw[<-hO]};have i1:=F.called_set.init.lookup;have i2:=F.called_set.init.bind<|.ref s.heap.objs.size;(repeat (any_goals (first|assumption|wp_step)));refine yS (codeAny_call_builtin (R:=wants (λr s2=>r=.none/\∃h' tk,s2={s with heap:=h',toks:=tk}/\h'.SetOf (strKind prog w) s.heap.objs.size (λy=>decide<|y∈iy xs) (iy xs).length/\(∀b o,b<s.heap.objs.size->s.heap.get? b=some o->h'.get? b=some o)) E) F.called_set.init.plain F.entry_set_init<|check_set_init_1 tS ?_) λr2 s2 XI=>?_
   ·obtain⟨ol,gl,cl,nl,dl⟩:=hl;obtain⟨abx,Sv,Z1,OR⟩:=ol;simp only at cl dl;subst cl;subst dl;have Sw:(s.heap.push O).get? l=some {cls:=.type "list",dict:=Sv,data:=.seq items nl,slots:=OR}:=za _ gl;have j1:=F.sub_list_set;have j2:=F.sub_list_frozenset;have j3:(Value.type "list"== Value.type "dict")=false:=(by decide);have il:(s.heap.push O).IsList l items:={_,Sw,rfl,nl,rfl};subst hO;unfold Builtin.«set.__init__» noKeywords Builtin.Frozenset.updateFrom;generalize hPI:pyIter=PI;wp_walk;subst hPI;refine wpAny_pyIter_list il ?_;refine zc<|wpAny_runValue ?_;have ll:l<s.heap.objs.size:=zr gl;have h3:A.in1.in1.in1.handled=none:=(by simp[hh]);have ne:l≠(s.heap.push {cls:=.type "set",dict:=none,data:=.set #[] 0 (.fresh 0 0 led)}).objs.size:=(by rw[zR];exact zu<|Nat.lt_succ_of_lt ll);have nf:s.heap.objs.size∉[(s.heap.push {cls:=.type "set",dict:=none,data:=.set #[] 0 (.fresh 0 0 led)}).objs.size,l]:=(by rw[zR];simp only[zh,zE,zI,or_false,not_or];exact{zu<|yI _,yg ll});refine GW ((Walks.list h3 _ l ne items).toS) s.heap.objs.size nf xs hx hi hb (items.size-0) 0 _ (by lia) {{_,zm _ rfl,rfl,rfl},(il.push _)} ?hS0 ?hR
    case hS0 =>
     have gg:=za {cls:=.type "list_iterator",data:=.fields #[.ref l,.int 0 0]} gS
     exact SetOf_congr ((setObjOf_fresh (knd:=strKind prog w) led).setOf gg<|by unfold scanBound;lia) (λ_=>rfl) rfl
    case hR =>
     intro s' hm q
     obtain⟨h',g',d',QS,RY⟩:=s'
     have eg:g'=s.gens:=hm.gens;have ed:d'=s.drawn:=hm.drawn;have eo:RY=s.os:=hm.os
     subst eg;subst ed;subst eo
     show wpAny _ _ _ _ _ _;refine zA ?_;show wpAny _ _ (ret Value.none) _ _ _
     refine zA {rfl,h',QS,rfl,q,λb o hb e=>?_}
     have b2:b≠(s.heap.push {cls:=.type "set",dict:=none,data:=.set #[] 0 (.fresh 0 0 led)}).objs.size:=by rw[zR];exact zu<|Nat.lt_succ_of_lt hb
     refine hm.heap b o ?_<|za _<|za _ e
     simp only[zh,zE,zI,or_false,not_or];exact{zu hb,b2}
   {cases r2 with|error e=>exact XI|ok f2=>cases f2 with|ret r=>(obtain⟨rfl,h',tk,rfl,q,k'⟩:=XI;(repeat (any_goals (first|assumption|wp_step)));exact h _ _ q k')|_=>exact XI.elim}
  |_=>exact hr.elim
end
noncomputable def OS(P:Program)(w:World)(a:Addr)(xs:List Str):HO:=.ext λh=>h.SetOf (strKind P w) a (λy=>decide<|y∈iy xs) (iy xs).length
theorem Km(q:h.SetOf (strKind P w) a (λy=>decide<|y∈iy xs) (iy xs).length):bj P w H h a (OS P w a xs):=by obtain⟨o,es,ep,t,ho,rest⟩:=id q;exact{q,⟨o,ho⟩,by rintro h1 h2 ⟨o,es,ep,t,ho,rest⟩ k;exact{o,es,ep,t,k _ ho,rest}}
theorem wN:∀{xs:List Str}{au:List Value},Vals (xs.map V.str) au->∀(i:Nat)(v:Value),au[i]?=some v->∃x t,xs[i]?=some x/\v=.str x t|[],_,.nil,i,v,e=>by simp at e|x::xs,_,.cons r rs,0,v,e=>(by obtain⟨t,q⟩:=r;simp at e;exact{x,t,rfl,by rw[<-e];exact q})|x::xs,_,.cons r rs,i+1,v,e=>by obtain⟨y,t,e1,e2⟩:=wN rs i v (by simpa using e);exact{y,t,by simpa using e1,e2}
section
variable{X:Cx}
theorem Ey{P:Program}{w:World}{K:Frag}(hP:X.prog=P)(hw:X.w=w)(hK:X.K=K)(hc:X.calm=true): dO X (.type "set") (λvs H Q=>∃p xs,vs=[.ref p]/\iQ K H p (xs.map V.str)/\xs.length<4000/\∀l,H l=none->Q (.ref l) (upd H l<|OS P w l xs)):=by
 subst hP;subst hw;subst hK;intro pins s σ H vs us Q I r h;obtain⟨p,xs,rfl,hq,hz,q⟩:=h;obtain⟨u,rfl,rx⟩:=vals1 r;cases rx;obtain⟨au,r',pl,_⟩:=I.list hq;have hlen:xs.length=au.toArray.size:=by have:=r'.length;simpa using this
 refine wM (I.ok.hd hc) pl.isList hlen (λi v e=>wN r' i v<|by simpa using e) (by rw[<-hlen];unfold scanBound;lia) λh' tk qs kp=>?_;refine{.ref s.heap.objs.size,_,I.laid (t':=tk) (λb o e=>kp b o (zr e) e) (zp _)<|Km qs,rfl,q _<|I.aM.fresh<|zp _}
theorem Ez(hP:X.prog=P)(hw:X.w=w):dO X (.builtin "len") (λvs H Q=>∃a xs,vs=[.ref a]/\H a=some (OS P w a xs)/\Q (.int (iy xs).length) H):=by subst hP;subst hw;intro pins s σ H vs us Q I r h;obtain⟨a,xs,rfl,ha,q⟩:=h;obtain⟨u,rfl,rx⟩:=vals1 r;cases rx;obtain⟨⟨o,es,ep,t,ho,hex,hd,GX,OT,hb,hf,hn⟩,_⟩:=I.aM a _ ha;refine call_len_set ho hex hd hf (by unfold scanBound at hb;lia) ?_;exact{.int (iy xs).length,H,I.tok _,{_,by rw[hn]},q}
end
theorem tT(l:List Str):(iy l).length=l.length↔l.Nodup:=by
 have all:∀(r c:List Str),c.Nodup->((r.foldl (λc x=>if x∈c then c else c++[x]) c).length=c.length+r.length↔(c++r).Nodup):=by intro r;induction r with|nil=>intro c hc;simpa using hc|cons x r ih=>intro c hc;rw[yP];by_cases h:x∈c;{rw[if_pos h];have le:(r.foldl (λc x=>if x∈c then c else c++[x]) c).length<=c.length+r.length:=(by have all2:∀(r c:List Str),(r.foldl (λc x=>if x∈c then c else c++[x]) c).length<=c.length+r.length:=(by intro r;induction r with|nil=>intro c;simp|cons x r ih=>intro c;rw[yP];refine zH (ih _) ?_;split<;>simp<;>try lia);exact all2 r c);refine{λe=>by simp at e;lia,λe=>?_};exact absurd rfl<|(List.nodup_append.mp e).2.2 x h x<|by simp};rw[if_neg h];have FO:(c++[x]).Nodup:=lM hc h;have:=ih (c++[x]) FO;simp only[zC,zJ,List.length_nil,List.append_assoc,List.singleton_append]at this⊢;rw[<-this];constructor<;>intro e<;>lia
 simpa [iy]using all l [] List.nodup_nil
theorem iz:entryFor table "dict.update.loop"= some Builtin.«dict.update.loop»:=entryFor_of_tree<|by kernel_rfl
theorem cN:plainId "dict.update.loop"= true:=by trivial
theorem sA:typeLookup (.type "tuple") "keys"= pure none:=by rw[typeLookup_type,builtinLookup_eq_fast];kernel_rfl
section
variable{prog:Program}{w:World}{A:Around}{E:Value->Shared->Prop}{s:Shared}
theorem sC(hx:s.heap.get? a=some o)(hc:o.cls=.type "tuple")(Sy:o.data=.seq xs k)(hd:o.dict=none)(hA:A.handled=none) (h:∀h' tk,(∀b ob,s.heap.get? b=some ob->h'.get? b=some ob)->Q none {s with heap:=h',toks:=tk}):wpAny (model prog w) A (getAttr? (.ref a) "keys") Q E s:=by
 obtain⟨c,cU,dat,sl⟩:=o;simp only at hc Sy hd;subst hc Sy hd;obtain⟨hp,g,d,tk,os⟩:=s;have hT:∀QS,(⟨hp,g,d,QS,os⟩:Shared).TypeIs (.ref a) "tuple":=λ_=>{_,hx,rfl};have f1:=sub_AttributeError;have f3:=F.slot_tuple_getattribute.lookup;have f4:=F.slot_tuple_getattribute.bind<|.ref a;have f5:=am_tuple_getattr_none;unfold getAttr? getAttrBy? getAttrBy;repeat (any_goals (first|assumption|exact hT _|((with_reducible show wpAny _ _ (call (Value.builtin "tuple.__getattribute__") _ _) _ _ _);refine call_meets F.slot_tuple_getattribute (hT _) am_entry_tuple_getattribute (F.args_tuple_getattribute_2 _ _) (meets_getattribute_miss_tuple a xs k sl "keys" _ sA (by trivial)<|by size_fits) {hx,hA,λh' QS e Sz=>?_})|wp_step))
 obtain⟨t',u',he⟩:=Sz.there;show wpAny _ _ (getattributeRaised _ _ _ _ _ _ _) _ _ _;unfold getattributeRaised;repeat (any_goals (first|assumption|wp_step))
 exact h _ _ Sz.keeps
end
section
variable{prog:Program}{w:World}{A:Around}{R:Result->Shared->Prop}{I:Addr}{fp wr:List Addr}{G:Array GenState->Array GenState->Prop}{n:Nat}{P:Nat->Value->Prop}{St:Nat->Shared->Prop}
theorem EA(W:WalksS prog w A.in1 I fp wr G n P St)(D:Addr)(Z2:D∉fp)(kvs:List<|Key×Value)(hx:kvs.length=n)(base:Heap) (OO:∀i v,P i v->∃(b:Addr) (k:Key) (key val:Value) (o:Obj) (m:Nat),kvs[i]?=some (k,val)/\v=.ref b/\(aG prog w).is k key=true/\base.get? b=some o/\o.cls=.type "tuple"/\o.data=.seq #[key,val] m/\b≠D/\b∉wr) (hb:n<=sizeLine): ∀(k i:Nat) (s:Shared) (c:Int) (t:Tok),i+k=n->St i s->s.heap.DictOf (aG prog w) D (merged []<|kvs.take i)->(∀b o,base.get? b=some o->b≠D->b∉wr->s.heap.get? b=some o)->(∀s',Moved (D::wr) G s s'->s'.heap.DictOf (aG prog w) D (merged [] kvs)->R (.ok<|.ret .none) s')->codeAny (model prog w) A (.builtin "dict.update.loop" {[.ref D,.ref I,.int c t,.none],[]}) R s:=by have nw:D∉wr:=λh=>Z2<|W.sub _ h;have up:∀b∈wr,b∈D::wr:=λb hb=>ze _ hb;intro k;induction k with|zero=>(intro i s c t hk wq hS hB hR;have e:i=n:=(by lia);subst e;refine yQ iz ?_;rw[Around.under_plainId cN _];show wpAny _ A.in1 (pyNext (.ref I) >>=_) _ _ s;refine zc<|W.done s _ _ wq λs' hm=>?_;show wpAny _ A.in1 (Builtin.Dict.addKeywords D [] >>=_) _ _ s';have q:s'.heap.DictOf (aG prog w) D (merged []<|kvs.take i):=(by obtain⟨o,es,ep,ho,rest⟩:=hS;exact{o,es,ep,hm.heap D _ nw ho,rest});rw[<-hx,yJ]at q;exact zc<|zA<|zA<|hR s' (hm.mono up) q)|succ k ih=>intro i s c t hk wq hS hB hR;have lt:i<n:=(by lia);refine yQ iz ?_;rw[Around.under_plainId cN _];show wpAny _ A.in1 (pyNext (.ref I) >>=_) _ _ s;refine zc<|W.item i s _ _ lt wq λv s' hP OP hm=>?_;obtain⟨b,ky,key,val,o,m,ek,rfl,N7,ho,hc,hd,hbD,Z3⟩:=OO i v hP;have q:s'.heap.DictOf (aG prog w) D (merged []<|kvs.take i):=(by obtain⟨o,es,ep,ho,rest⟩:=hS;exact{o,es,ep,hm.heap D _ nw ho,rest});have Z4:s'.heap.get? b=some o:=hm.heap b o Z3<|hB b o ho hbD Z3;have room:(merged []<|kvs.take i).length<=sizeLine:=(by have:=merged_length_le ([]:List (Key×Value))<|kvs.take i;rw[yy]at this;simp at this;lia);have tk:merged [] (kvs.take<|i+1)=stored (merged []<|kvs.take i) ky val:=merged_take_succ [] kvs i (ky,val) ek;refine zc<|yG<|zc<|wpAny_tryCatch ?_;unfold Builtin.Dict.pairItems;refine zc<|wpAny_typeOf (T:="tuple") ⟨o,Z4,hc⟩ ?_;show wpAny _ A.in1 (seqItems? (.ref b) >>=_) _ _ s';refine zc<|wpAny_seqItems Z4 hd<|zA ?_;show wpAny _ A.in1 (holding [key,val]<|dictSet D key val) _ _ s';refine yG<|wpAny_dictSet_pairs N7 q (λh' q2 Kl=>?_) room;rw[<-tk]at q2;refine zA {plainId_quiet cN _,ih (i+1) _ _ _ (by lia) (W.frame _ s' _ _ OP (yN _) λb hb o e=>?_) q2 (λb o e h1 h2=>?_) λAs OQ XH=>?_};rw[Kl.2 b (λh:b=D=>Z2<|by rw[<-h];exact hb)];exact e;rw[Kl.2 b h1];exact hm.heap b o h2<|hB b o e h1 h2;refine hR As (Moved.trans W.gtrans ((hm.mono up).then_heap (yN _) λb o hb e=>?_) OQ) XH;rw[Kl.2 b (λh:b=D=>hb<|by rw[h];exact zi)];exact e
theorem sD(hh:A.handled=none)(gl:s.heap.get? l=some ol)(cl:ol.cls=.type "tuple")(dl:ol.data=.seq items m)(nl:ol.dict=none)(hx:kvs.length=items.size) (hi:∀(i:Nat) (v:Value),items[i]?=some v->∃(b:Addr) (k:Key) (key val:Value) (o:Obj) (m:Nat),kvs[i]?=some (k,val)/\v=.ref b/\(aG prog w).is k key=true/\s.heap.get? b=some o/\o.cls=.type "tuple"/\o.data=.seq #[key,val] m) (hb:items.size<=sizeLine) (h:∀(h':Heap) (tk:Nat),h'.DictOf (aG prog w) s.heap.objs.size (merged [] kvs)->(∀b o,s.heap.get? b=some o->h'.get? b=some o)->Q (.ref s.heap.objs.size) {s with heap:=h',toks:=tk}): wpAny (model prog w) A (call (.type "dict") [.ref l]) Q E s:=by
 refine callType_codes (Q₁:=λobj a_=>obj=.ref s.heap.objs.size/\a_={s with heap:=s.heap.push {cls:=.type "dict",data:=.dict #[]}}) F.kt_called_dict (F.kt_typeCall_dict_1 _) F.entry_dict_init (kt_code_dict_new _ ⟨rfl,rfl⟩) ?_;rintro obj a_ ⟨rfl,rfl⟩;have OU:(s.heap.push {cls:=.type "dict",data:=.dict #[]}).DictOf (aG prog w) s.heap.objs.size []:=Heap.DictOf.new s.heap;have Sw:(s.heap.push {cls:=.type "dict",data:=.dict #[]}).get? l=some ol:=za _ gl;refine{OU.typeIs,F.args_dict_init_2 _ _,?_};unfold Builtin.«dict.__init__»;refine zc ?_;unfold Builtin.Dict.selfAndRest;refine zc<|wpAny_notOrdered_dict OU.typeIs ?_;show wpAny _ _ (pure (s.heap.objs.size,[Value.ref l])) _ _ _;refine zA ?_;show wpAny _ _ (Builtin.Dict.updateFrom "dict.__init__" s.heap.objs.size (.ref l) [] .none) _ _ _;unfold Builtin.Dict.updateFrom;refine zc<|wpAny_typeOf (T:="tuple") ⟨ol,Sw,cl⟩ ?_;rw[if_pos<|by decide];have h3:A.in1.in1.handled=none:=by simp[hh]
 refine zc<|sC Sw cl dl nl h3 λh1 tk1 VO=>?_;have g1:h1.get? l=some ol:=VO _ _ Sw;have d1:h1.DictOf (aG prog w) s.heap.objs.size []:=by obtain⟨o,es,ep,ho,rest⟩:=OU;exact{o,es,ep,VO _ _ ho,rest}
 have lD:s.heap.objs.size<h1.objs.size:=by obtain⟨o,es,ep,ho,rest⟩:=d1;exact zr ho
 have ll:l<s.heap.objs.size:=zr gl;show wpAny _ _ (rule _ >>=_) _ _ _;refine zc<|wpAny_rule ?_;have Z5:h1.IsTuple l items:=⟨ol,g1,cl,m,dl⟩;refine zc<|wpAny_pyIter_tuple (s:=⟨h1,s.gens,s.drawn,tk1,s.os⟩) Z5 ?_;have ne:l≠h1.objs.size:=zu<|Nat.lt_trans ll lD;have nf:s.heap.objs.size∉[h1.objs.size,l]:=by simp only[zh,zE,zI,or_false,not_or];exact{zu lD,yg ll}
 refine zA {plainId_quiet cN _,?_};refine EA ((Walks.tuple h3 _ l ne items).toS) s.heap.objs.size nf kvs hx s.heap (λi v e=>?_) hb (items.size-0) 0 _ _ _ (by lia) {{_,zm _ rfl,rfl,rfl},Z5.push _} ?hS0 ?hB ?hR;obtain⟨b,k,key,val,o,m',e1,e2,e3,e4,e5,e6⟩:=hi i v e;have lb:=zr e4;exact{b,k,key,val,o,m',e1,e2,e3,e4,e5,e6,zu lb,by simp;exact zu<|Nat.lt_trans lb lD};case hS0=>exact d1.push _
 case hB=>exact λb o e EB XJ=>za _<|VO _ _<|za _ e
 case hR =>
  intro s' hm q
  obtain⟨h',g',d',QS,RY⟩:=s'
  have eg:g'=s.gens:=hm.gens;have ed:d'=s.drawn:=hm.drawn;have eo:RY=s.os:=hm.os
  subst eg;subst ed;subst eo
  refine{rfl,h h' QS q λb o e=>?_}
  have lb:=zr e
  refine hm.heap b o ?_<|za _<|VO _ _<|za _ e
  simp only[zh,zE,zI,or_false,not_or];exact{zu lb,zu<|Nat.lt_trans lb lD}
end
noncomputable def Cu(l:List<|Str×V):List (Key×V):=l.foldl (λc p=>putK c (.inr p.1) p.2) []
def Z6(H:Hp)(ps:List V)(kvs:List<|Str×V):Prop:=kvs.length=ps.length/\∀(i:Nat)(x:V)(p:Str×V),ps[i]?=some x->kvs[i]?=some p->∃b,x=.ref b/\H b=some (.tup [.str p.1,p.2])
section
variable{X:Cx}
theorem AI(hc:X.calm=true):dO X (.type "dict") (λvs H Q=>∃p ps kvs,vs=[.ref p]/\H p=some (.tup ps)/\Z6 H ps kvs/\∀l,H l=none->Q (.ref l) (upd H l<|.dK<|Cu kvs)):=by
 intro pins s σ H vs us Q I r h;obtain⟨p,ps,kvs,rfl,hp,⟨hl,hq⟩,q⟩:=h;obtain⟨u,rfl,rx⟩:=vals1 r;cases rx;obtain⟨hz,au,rv,ol,gl,cl,nl,m,dl⟩:=(show bj X.prog X.w H s.heap p (.tup ps) from I.aM p _ hp);have hlen:=rv.length;have each:∀(i:Nat)(x:V)(pr:Str×V),ps[i]?=some x->kvs[i]?=some pr->∃(b:Addr)(key val:Value)(o:Obj)(m:Nat),au[i]?=some (.ref b)/\(aG X.prog X.w).is (.inr pr.1) key=true/\RelV pr.2 val/\s.heap.get? b=some o/\o.cls=.type "tuple"/\o.data=.seq #[key,val] m:=by intro i x pr e1 e2;obtain⟨b,rfl,hb⟩:=hq i x pr e1 e2;obtain⟨u,e3,ru⟩:=rv.get e1;cases ru;obtain⟨_,it2,r2,o,go,co,no,m2,do2⟩:=(show bj X.prog X.w H s.heap b (.tup [.str pr.1,pr.2]) from I.aM b _ hb);obtain⟨k',v',rfl,⟨tk,rfl⟩,rv'⟩:=r2.two;exact{b,_,v',o,m2,e3,iR _ _ _ _,rv',go,co,by simpa using do2}
 have kv:∃vals:List (Key×Value),KV (kvs.map λp=>((.inr p.1:Key),p.2)) vals/\∀(i:Nat)(x:V),ps[i]?=some x->∃(b:Addr)(k:Key)(key val:Value)(o:Obj)(m:Nat),vals[i]?=some (k,val)/\au[i]?=some (.ref b)/\(aG X.prog X.w).is k key=true/\s.heap.get? b=some o/\o.cls=.type "tuple"/\o.data=.seq #[key,val] m:=by clear hp q rv dl hz;induction kvs generalizing ps au with|nil=>refine{[],.nil,λi x e=>?_};have:ps=[]:=List.eq_nil_of_length_eq_zero (by simpa using hl.symm);subst this;simp at e|cons pr r ih=>cases ps with|nil=>simp at hl|cons y ys=>cases au with|nil=>simp at hlen|cons w0 ws=>obtain⟨b,key,val,o,m,e1,e2,e3,e4,e5,e6⟩:=each 0 y pr rfl rfl;obtain⟨vals,k1,k2⟩:=ih ys (by simpa using hl) (λi x p a b=>hq (i+1) x p (by simpa using a)<|by simpa using b) ws (by simpa using hlen) (λi x p a b=>by simpa using each (i+1) x p (by simpa using a) (by simpa using b));refine{(.inr pr.1,val)::vals,.cons ⟨rfl,e3⟩ k1,λi x e=>?_};cases i with|zero=>exact{b,.inr pr.1,key,val,o,m,rfl,e1,e2,e4,e5,e6}|succ i=>simpa using k2 i x (by simpa using e)
 obtain⟨vals,Z7,kv2⟩:=kv;have lv:vals.length=au.length:=by have:=Z7.length;rw[zb]at this;lia
 refine sD (kvs:=vals) (I.ok.hd hc) gl cl dl nl (by simpa using lv) (λi v e=>?_) (by simp;lia) λh' tk qs kp=>?_;have e':au[i]?=some v:=by simpa using e
 have hi:i<au.length:=(zk.mp e').1;obtain⟨b,k,key,val,o,m',e1,e2,e3,e4,e5,e6⟩:=kv2 i (ps[i]'(by lia))<|zj _;rw[e']at e2;exact{b,k,key,val,o,m',e1,zO e2,e3,e4,e5,e6};have rel:KV (Cu kvs) (merged [] vals):=by have all:∀(l:List (Str×V))(vl:List (Key×Value))(c:List (Key×V))(cv:List (Key×Value)),KV (l.map λp=>((.inr p.1:Key),p.2)) vl->KV c cv->KV (l.foldl (λc p=>putK c (.inr p.1) p.2) c) (merged cv vl):=(by intro l;induction l with|nil=>(intro vl c cv h1 h2;cases h1;exact h2)|cons p r ih=>intro vl c cv h1 h2;cases h1 with|@cons _ q _ qs r1 r2=>obtain⟨k,v⟩:=q;obtain⟨rfl,rv⟩:=r1;exact ih qs _ _ r2<|h2.put _ rv);exact all kvs vals [] [] Z7 .nil
 have big:=I.big;refine{.ref s.heap.objs.size,_,I.laid (t':=tk) (λb o e=>kp b o e) (zp _) (o:=.dK<|Cu kvs) {?_,?_,_,rel,qs},rfl,q _<|I.aM.fresh<|zp _};have e1:=rel.length;have e2:=merged_length_le ([]:List (Key×Value)) vals;simp at e2;lia;simp;exact yg big
theorem Z8(h:n<=1000):n<=sizeLine:=yD<|jC h
end
abbrev lR(h:Heap)(T:Addr)(arr:Array Value):Prop:=h.get? T=some {cls:=.type "tuple",data:=.seq arr}
theorem uE(hs:Heap.ExtBut b h h')(n:a≠b)(x:h.IsTupleIter a l i):h'.IsTupleIter a l i:=x.extBut hs n
theorem Mz{h h':Heap}{a l:Addr}{i:Nat}(k:∀o,h.get? a=some o->h'.get? a=some o)(x:h.IsTupleIter a l i):h'.IsTupleIter a l i:=by obtain⟨o,e,r⟩:=x;exact{o,k o e,r}
section
variable{prog:Program}{w:World}{A:Around}{E:Value->Shared->Prop}{s:Shared}
theorem XM(h:n<=3):n<=sizeLine:=Z8<|zH h<|by decide
theorem EC(hT:lR s.heap T arr)(hz:arr.size<=3)(h:∀h',lR h' T (arr.setIfInBounds k x)->Heap.SameBut T s.heap h'->Q () {s with heap:=h'}):wpAny (model prog w) A (updateSeq T (·.setIfInBounds k x)) Q E s:=by refine wpAny_updateSeq hT rfl (h _ ?_<|yB ..) (hz:=XM hz) (_hz':=by have:=XM hz;simp;lia);show Heap.get? _ _=_;rw[yu _ hT rfl];simp[Obj.mapSeq]
theorem AJ(hit:s.heap.IsTupleIter it l i)(hl:s.heap.IsTuple l items)(hx:items[i]?=some x)(hQ:∀h',h'.IsTupleIter it l (i+1)->Heap.SameBut it s.heap h'->Q x {s with heap:=h'}): wpAny (model prog w) A (Builtin.SmallTypes.nextOf<|.ref it) Q E s:=by obtain⟨o,ho,hc,hd⟩:=id hit;obtain⟨ol,XN,_,nl,Ko⟩:=hl;unfold Builtin.SmallTypes.nextOf;refine zc<|wpAny_callSpecial?_slot (name:=Str.ofString "__next__") hit.typeIs F.slot_tuple_iterator_next<|yK F.slot_tuple_iterator_next hit.typeIs F.entry_tuple_iterator_next ?_<|F.args_tuple_iterator_next_1 _;show wpAny _ _ (field (.ref it) 0 >>=_) _ _ s;refine zc<|yf ho hd (x:=.ref l) rfl ?_;show wpAny _ _ (if (Value.ref l==Value.none)=true then _ else _) _ _ s;rw[if_neg<|show ¬((Value.ref l==Value.none)=true) from zd];show wpAny _ _ (field (.ref it) 1 >>=_) _ _ s;refine zc<|yf ho hd (x:=.int i 0) rfl ?_;show wpAny _ _ (seqItems? (.ref l) >>=_) _ _ s;refine zc<|wpAny_seqItems XN Ko ?_;simp only[Int.toNat_natCast,hx];refine zc<|yR ho hd (by simp)<|zA {x,rfl,zA<|hQ _ {_,yu _ ho<|Obj.isFreed_of_fields<|yx hd _,(Obj.cls_mapFields ..).trans hc,by rw[yx hd];simp[rawInt]}<|yB ..}
theorem qo(hh:A.handled=none)(hit:s.heap.IsTupleIter it l i)(hl:s.heap.IsTuple l items)(hx:items[i]?=none) (hE:∀h' e,Heap.ExtBut it s.heap h'->(∃o,h'.get? e=some o/\o.cls=.type "StopIteration")->E (.ref e) {s with heap:=h'}):wpAny (model prog w) A (Builtin.SmallTypes.nextOf<|.ref it) Q E s:=by
 obtain⟨o,ho,hc,hd⟩:=id hit;obtain⟨ol,XN,_,nl,Ko⟩:=hl;unfold Builtin.SmallTypes.nextOf;refine zc<|wpAny_callSpecial?_slot (name:=Str.ofString "__next__") hit.typeIs F.slot_tuple_iterator_next<|yK F.slot_tuple_iterator_next hit.typeIs F.entry_tuple_iterator_next ?_<|F.args_tuple_iterator_next_1 _;show wpAny _ _ (field (.ref it) 0 >>=_) _ _ s;refine zc<|yf ho hd (x:=.ref l) rfl ?_;show wpAny _ _ (if (Value.ref l==Value.none)=true then _ else _) _ _ s;rw[if_neg<|show ¬((Value.ref l==Value.none)=true) from zd];show wpAny _ _ (field (.ref it) 1 >>=_) _ _ s;refine zc<|yf ho hd (x:=.int i 0) rfl ?_;show wpAny _ _ (seqItems? (.ref l) >>=_) _ _ s;refine zc<|wpAny_seqItems XN Ko ?_;simp only[Int.toNat_natCast,hx];refine zc<|wpAny_rule<|zc<|yR ho hd (by simp) ?_;show wpAny _ _ (newExc (.type "StopIteration") [] >>=_) _ _ _;refine zc ?_;simp only[newExc,newTuple];refine zc<|yA ?_ (by size_fits);refine zc (m:=firstArgMember _ _)<|yV (a:=Value.none) (by first|rfl|(simp only[firstArgMember];rfl)) ?_;refine yA ?_ (by size_fits);simp only[raiseNew];refine zc<|wpAny_handled ?_;first|rw[show A.in1.handled=none from hh]|rw[hh]
 refine zc<|zA<|wpAny_throw<|hE _ _ (((yB ..).extBut.push _).push _) {_,zm _ rfl,rfl}
end
def ZS2(n l0 l1:Nat)(i:Nat)(h:Heap):Prop:=IsZip h (n+4) (n+2) (n+3) .none/\lR h (n+2) #[.ref n,.ref<|n+1]/\(∃arr:Array Value,arr.size=2/\lR h (n+3) arr)/\h.IsTupleIter n l0 i/\h.IsTupleIter (n+1) l1 i
section
variable{X:Cx}{pins:List (Addr×Obj)}{σ:St}{H:Hp}{s:Shared}{h':Heap}
theorem Inv.Kq(I:Inv X pins σ H s)(wr:List Addr)(hw:∀b∈wr,oY X pins H b)(k:∀b o,b∉wr->s.heap.get? b=some o->h'.get? b=some o):Inv X pins σ H {s with heap:=h',toks:=t'}:=by refine I.step (g':=s.gens) (d':=s.drawn) (ch:=wr) (λb hb=>by obtain⟨_,a,_,c,d,e⟩:=hw b hb;exact⟨c,a,d,e⟩) (λb o _ _ hc e _=>k b o hc e) (λb o _ _ hc e _=>{o.slots,k b o hc e}) (λ_ _ _ _ n=>n) (λb o hc e=>{o,k b o hc e}) (λ_ _ e=>e) (λ_ _ _ e=>e) (λb ps e=>{#[],by rw[e];simp}) (λm hm=>?_) (λb u e=>?_) I.bare;obtain⟨o,es,ep,ho,r⟩:=hm;exact{o,es,ep,k _ o (λz=>(hw _ z).2.1 rfl) ho,r};refine(I.aM b u e).mW (λc v hc q=>k c v (λz=>?_) q) (λ_ q=>q) λ_ _ q=>q;have n:=(hw c z).1;rcases hc with rfl|hc;rw[n]at e;cases e;rw[n]at hc;cases hc
theorem Inv.Kr(I:Inv X pins σ H s)(wr:List Addr)(hw:∀b∈wr,oY X pins H b)(k:∀b o,b∉wr->s.heap.get? b=some o->h'.get? b=some o)(hT:s.heap.get? T=none)(new:bj X.prog X.w (upd H T o) h' T o): Inv X pins σ (upd H T o) {s with heap:=h',toks:=t'}:=by
 have fr:H T=none:=by cases q:H T with|none=>rfl|some u=>obtain⟨z,e⟩:=(I.aM T u q).get;rw[hT]at e;cases e
 have ne:∀b u,H b=some u->b≠T:=λb u e z=>by rw[z,fr]at e;cases e
 refine I.step (g':=s.gens) (d':=s.drawn) (ch:=wr) (λb hb=>by obtain⟨_,a,_,c,d,e⟩:=hw b hb;exact⟨c,a,d,e⟩) (λb o _ _ hc e _=>k b o hc e) (λb o _ _ hc e _=>{o.slots,k b o hc e}) (λb ob _ e n=>?_) (λb o hc e=>{o,k b o hc e}) (λb xs e=>by rw[aq<|ne b _ e];exact e) (λb ob u e=>by rw[aq<|ne b _ e];exact e) (λb ps e=>{#[],by rw[aq<|ne b _ e,e];simp}) (λm hm=>?_) (λb u e=>?_) I.bare;have:b≠T:=λz=>by rw[z,hT]at e;cases e
 rw[aq this];exact n;obtain⟨o,es,ep,ho,r⟩:=hm;exact{o,es,ep,k _ o (λz=>(hw _ z).2.1 rfl) ho,r};by_cases hb:b=T;subst hb;rw[aD]at e;cases e;exact new;rw[aq hb]at e;refine(I.aM b u e).mW (λc v hc q=>k c v (λz=>?_) q) (λc q=>by rw[aq<|ne c _ q];exact q) λc xs q=>by rw[aq<|ne c _ q];exact q
 have n:=(hw c z).1;rcases hc with rfl|hc;rw[n]at e;cases e;rw[n]at hc;cases hc
end
noncomputable abbrev Ks(h:Heap)(l0:Addr):Heap:=(h).push {cls:=.type "tuple_iterator",data:=.fields #[.ref l0,.int 0 0]}
noncomputable abbrev Kt(h:Heap)(l0 l1:Addr):Heap:=(Ks h l0).push {cls:=.type "tuple_iterator",data:=.fields #[.ref l1,.int 0 0]}
noncomputable abbrev Ku(h:Heap)(l0 l1:Addr):Heap:=(Kt h l0 l1).push {cls:=.type "tuple",data:=.seq #[.ref h.objs.size,.ref (Ks h l0).objs.size]}
noncomputable abbrev Kv(h:Heap)(l0 l1:Addr):Heap:=(Ku h l0 l1).push {cls:=.type "tuple",data:=.seq #[.none,.none]}
noncomputable abbrev AM(h:Heap)(l0 l1:Addr):Heap:=(Kv h l0 l1).push {cls:=.type "zip",data:=.fields #[.none,.bool false,.bool false,.ref (Kt h l0 l1).objs.size,.ref (Ku h l0 l1).objs.size]}
theorem AN(l0 l1:Addr)(AK AL:Array Value):Meets (Builtin.«zip.__new__» {[.type "zip",.ref l0,.ref l1],[]}) (λ_ R s=>s.heap.IsTuple l0 AK/\s.heap.IsTuple l1 AL/\R (.ok<|.ret<|.ref (Kv s.heap l0 l1).objs.size) {s with heap:=AM s.heap l0 l1}):=.of_wp λprog w A R s h=>by obtain⟨hp,g,d,tk,os⟩:=s;obtain⟨t0,t1,h⟩:=h;have wO:=sub_zip;have L0:Heap.IsTuple (Shared.heap ⟨hp,g,d,tk,os⟩) l0 AK:=t0;have L1:Heap.IsTuple (Shared.heap {hp.push {cls:=.type "tuple_iterator",data:=.fields #[.ref l0,.int 0 0]},g,d,tk,os}) l1 AL:=Heap.IsTuple.push (t1) _;wp_walk using wpAny_pyIter_tuple L0,wpAny_pyIter_tuple L1;exact{_,rfl,h}
theorem AO(t0:s.heap.IsTuple l0 AK)(t1:s.heap.IsTuple l1 AL) (h:∀h',ZS2 s.heap.objs.size l0 l1 0 h'->(∀c o,s.heap.get? c=some o->h'.get? c=some o)->Q (.ref<|s.heap.objs.size+4) {s with heap:=h'}):wpAny (model prog w) A (call (.type "zip") [.ref l0,.ref l1]) Q E s:=by
 refine callType_new F.called_zip (by decide) (F.typeCall_zip_2 _ _) (F.newCall_zip_2 _ _) (λobj=>F.args_object_init_3 obj _ _) F.entry_zip_new (AN l0 l1 AK AL) {t0,t1,?_};have z1:(Ks s.heap l0).objs.size=s.heap.objs.size+1:=zR ..;have z2:(Kt s.heap l0 l1).objs.size=s.heap.objs.size+2:=by rw[zR,z1]
 have z3:(Ku s.heap l0 l1).objs.size=s.heap.objs.size+3:=by rw[zR,z2]
 have z4:(Kv s.heap l0 l1).objs.size=s.heap.objs.size+4:=by rw[zR,z3]
 have z5:(AM s.heap l0 l1).objs.size=s.heap.objs.size+5:=by rw[zR,z4]
 have g0:(AM s.heap l0 l1).get? (s.heap).objs.size=some _:=za _<|za _<|za _<|za _<|zm _ rfl;have g1:(AM s.heap l0 l1).get? (Ks s.heap l0).objs.size=some _:=za _<|za _<|za _<|zm _ rfl;have g2:(AM s.heap l0 l1).get? (Kt s.heap l0 l1).objs.size=some _:=za _<|za _<|zm _ rfl;have g3:(AM s.heap l0 l1).get? (Ku s.heap l0 l1).objs.size=some _:=za _<|zm _ rfl;have g4:(AM s.heap l0 l1).get? (Kv s.heap l0 l1).objs.size=some _:=zm _ rfl;show _/\_;rw[z2,z3,z4]at g4;rw[z3]at g3;rw[z1,z2]at g2;rw[z1]at g1;rw[z4];exact{{_,g4,rfl},h _ {g4,g2,!⟨g3⟩,{_,g0,rfl,rfl},{_,g1,rfl,rfl}} λc o x=>za _<|za _<|za _<|za _<|za _ x}
def Kw(K:Frag):V->List V->Hp->VK->Prop:=λx vs H Q=>∃(a:Addr)(xs:List V)(y z:V)(j:Nat),x=.ref a/\vs=[y]/\iQ K H a xs/\gv y=true/\xs.all gv=true/\xs[j]?=some z/\eqV z y=true/\(∀m u,m<j->xs[m]?=some u->eqV u y=false)/\Q (.int j) H
theorem ED:Od X "list.index" (Kw X.K):=by
 intro pins s σ H x vs v us Q I rx rv h;obtain⟨a,xs,y,z,j,rfl,rfl,hq,fy,fx,hj,hit,XO,q⟩:=h;cases rx;obtain⟨u,rfl,ru⟩:=rv.one;obtain⟨au,r,p,hz⟩:=I.list hq;obtain⟨⟨cls,dd,data,sl⟩,ho,hc,n,hd⟩:=p.isList;simp only at hc hd;subst hc hd;have hl:=r.length;have eN:j<xs.length:=(zk.mp hj).1;have fl:∀(m:Nat)(w:V),xs[m]?=some w->gv w=true:=λm w e=>ya.mp fx w<|zG e;have at':∀(m:Nat)(hm:m<au.toArray.size)(w:V),xs[m]?=some w->wC y au.toArray[m]=eqV w y:=λm hm w e=>by obtain⟨u',e',ru'⟩:=r.get e;have:au.toArray[m]=u':=(by have:=zk.mp e';simpa using this.2);rw[this];exact Av ru'<|fl m w e
 have hs:sizeLine=16777216:=ye;refine call_meets PySem.F.slot_list_index {_,ho,rfl} PySem.F.entry_list_index (PySem.F.args_list_index_2 _ _) (SeqAt.list_indexAt a au.toArray n dd sl u (wC y) j (by simp;lia) (by lia) ?_ ?_) {ho,λw hw=>gw ru fy r fx w<|by simpa using hw,{.int j,H,I.tok _,{_,rfl},q}};rw[at' j _ z hj];exact hit;intro m hm hmj;have Z9:m<xs.length:=by lia
 rw[at' m hm _<|zj Z9];exact XO m _ hmj<|zj Z9
def SE:R2:=λx y H Q=>∃z n,x=.str z/\y=.int n/\MulOk z n/\Q (.str<|PySem.Txt.mul z n) H
theorem AQ:gs X (binaryOp .Mult) SE:=by intro pins s σ H x y v u Q I rx ry h;obtain⟨z,n,rfl,rfl,hm,q⟩:=h;obtain⟨t,rfl⟩:=rx;obtain⟨t',rfl⟩:=ry;exact SB.mul hm λt'' k=>{.str _,H,I.tok k,{_,rfl},q}
def Jq(w:World)(K:Frag)(a:Addr)(kvs:List<|Str×V):Prop:=(a==sysModules)=false/\∃(o:Obj)(es:Array DictEntry)(ep:Nat),K.lookup a=some o/\o.ExactDict/\o.data=.dict es ep/\Paired (λ(e:DictEntry)(kv:Str×V)=>e.hash=hashStr w kv.1/\(∃t,e.key=.str kv.1 t)/\RelV kv.2 e.val) es.toList kvs/\(kvs.map Prod.fst).Nodup
theorem qp(z:Str):∀kvs:List (Str×V),fB (kvs.map λp=>((.inr p.1:Key),p.2)) (.inr z)=kvs.lookup z
 |[]=>rfl
 | (x,v)::r=>by
  rw[zq,yd];by_cases e:z=x;subst e;rw[qd rfl];simp;have e1:(z==x)=false:=by simpa using e
  rw[qf λq=>e (yM q).symm,e1];exact qp z r
section
variable{X:Cx}{pins:List (Addr×Obj)}{σ:St}{H:Hp}{s:Shared}{a:Addr}{kvs:List (Str×V)}
theorem AR(I:Inv X pins σ H s)(d:Jq X.w X.K a kvs):(a==sysModules)=false/\∃vs,KV (kvs.map λp=>((.inr p.1:Key),p.2)) vs/\s.heap.DictOf (aG X.prog X.w) a vs:=by
 obtain⟨ns,o,es,ep,hk,hx,hd,hp,hn⟩:=d;have all:∀(es:List DictEntry)(kvs:List (Str×V)),Paired (λ(e:DictEntry)(kv:Str×V)=>e.hash=hashStr X.w kv.1/\(∃t,e.key=.str kv.1 t)/\RelV kv.2 e.val) es kvs->∃vs:List (Key×Value),KV (kvs.map λp=>((.inr p.1:Key),p.2)) vs/\Pairs (aG X.prog X.w) es vs/\vs.map (·.1)=kvs.map (λp=>(.inr p.1:Key))/\∀e∈es,∃k,(aG X.prog X.w).is k e.key=true/\e.hash=(aG X.prog X.w).hash k:=by intro es kvs hp;induction hp with|nil=>exact{[],.nil,.nil,rfl,by simp}|@cons e kv VB kvs' h t ih=>obtain⟨vs,k1,k2,k3,k4⟩:=ih;obtain⟨h1,⟨tk,h2⟩,h3⟩:=h;have hi:(aG X.prog X.w).is (.inr kv.1) e.key=true:=(by rw[h2];exact iR _ _ _ _);refine{(.inr kv.1,e.val)::vs,.cons ⟨rfl,h3⟩ k1,.cons hi rfl k2,by rw[zq,zq,k3],λe' he=>?_};rcases zh.mp he with rfl|he;exact{.inr kv.1,hi,h1};exact k4 e' he
 obtain⟨vs,k1,k2,k3,k4⟩:=all _ _ hp;refine{ns,vs,k1,o,es,ep,I.oi a o hk,hx,hd,λe he=>k4 e<|by simpa using he,k2,?_};rw[k3];have:(kvs.map λp=>(.inr p.1:Key))=(kvs.map Prod.fst).map Sum.inr:=by rw[zD];rfl
 rw[this];exact List.Pairwise.map _ (λx y h q=>h<|yM q) hn
theorem GY{w:World}{K:Frag}(hw:X.w=w)(hK:X.K=K):gs X (compareOp .In) (λx y H Q=>∃z a kvs,x=.str z/\y=.ref a/\Jq w K a kvs/\Q (.bl (kvs.lookup z).isSome) H):=by subst hw hK;intro pins s σ H x y v u Q I rx ry h;obtain⟨z,a,kvs,rfl,rfl,d,q⟩:=h;cases ry;obtain⟨ns,vs,rel,dd⟩:=AR I d;refine wpAny_in_of (iV (k:=.inr z) rx) ns dd.mapOf ?_;rw[<-(rel.val<|.inr z).gx,qp];exact{.bl _,H,I.tok _,rfl,q}
def SF(w:World)(K:Frag):V->List V->Hp->VK->Prop:=λx vs H Q=>∃a z kvs,x=.ref a/\vs=[.str z]/\Jq w K a kvs/\Q ((kvs.lookup z).getD .ax) H
theorem Kx{w:World}{K:Frag}(hw:X.w=w)(hK:X.K=K):Od X "dict.get" (SF w K):=by subst hw hK;intro pins s σ H x vs v us Q I rx rv h;obtain⟨a,z,kvs,rfl,rfl,d,q⟩:=h;cases rx;obtain⟨u,rfl,ru⟩:=rv.one;obtain⟨ns,vs,rel,dd⟩:=AR I d;refine call_meetsIn yw dd.typeIs PySem.F.entry_dict_get (PySem.F.args_dict_get_2 _ _) (meets_dict_get (aG X.prog X.w) a (iV (k:=.inr z) ru) ns) {_,dd.mapOf,_,H,I.tok _,?_,q};rw[<-qp];exact(rel.val<|.inr z).getD rfl
theorem GZ{w:World}{K:Frag}{o e:Expr}{apos aQ:Pos}{td ty:TE}(hw:X.w=w)(hK:X.K=K)(ho:PE X o td)(he:PE X e ty)(m:M1 X o "get" apos e aQ):PE X (.Call (.Attribute o "get" apos) [e] [] aQ) (λσ H Q=>td σ H λx H1=>∃a kvs,x=.ref a/\Jq w K a kvs/\ty σ H1 λy H2=>∃z,y=.str z/\Q ((kvs.lookup z).getD .ax) H2):=by subst hw hK;intro pins s σ H Q I h;refine wpAny_Call_method m.base m.FP m.line PySem.F.plainAttrs_dict yw PySem.F.type_dict_get<|bf (ho pins s σ H _ I h) λu s1 ⟨x,H1,I1,rx,a,kvs,ex,d,q1⟩=>?_;subst ex;obtain rfl:u=Value.ref a:=rx;obtain⟨ns,vs,rel,dd⟩:=AR I1 d;obtain⟨ob,_,_,h1,h2,_⟩:=id dd;refine{dd.typeIs,λb q=>by cases q;exact⟨ob,h1,h2.2.1⟩,?_};rw[m.trees];refine Calls.callWith_builtin rfl<|Calls.evalArgs_plain<|yE<|bf (he pins s1 σ H1 _ I1 q1) λiv s2 ⟨y,H2,I2,ry,z,ey,q2⟩=>Calls.spliced_nil ?_;subst ey;exact Kx rfl rfl pins s2 σ H2 (.ref a) [.str z] _ [iv] Q I2 rfl (.cons ry .nil) ⟨a,z,kvs,rfl,rfl,d,q2⟩
end
theorem OV:bootBuiltins "min"= some (.builtin "min"):=by trivial
def ZS3(n l0 l1 l2:Nat)(i:Nat)(h:Heap):Prop:=IsZip h (n+5) (n+3) (n+4) .none/\lR h (n+3) #[.ref n,.ref<|n+1,.ref<|n+2]/\(∃arr:Array Value,arr.size=3/\lR h (n+4) arr)/\h.IsTupleIter n l0 i/\h.IsTupleIter (n+1) l1 i/\h.IsTupleIter (n+2) l2 i
noncomputable abbrev Ky(h:Heap)(l0:Addr):Heap:=(h).push {cls:=.type "tuple_iterator",data:=.fields #[.ref l0,.int 0 0]}
noncomputable abbrev Kz(h:Heap)(l0 l1:Addr):Heap:=(Ky h l0).push {cls:=.type "tuple_iterator",data:=.fields #[.ref l1,.int 0 0]}
noncomputable abbrev KA(h:Heap)(l0 l1 l2:Addr):Heap:=(Kz h l0 l1).push {cls:=.type "tuple_iterator",data:=.fields #[.ref l2,.int 0 0]}
noncomputable abbrev KC(h:Heap)(l0 l1 l2:Addr):Heap:=(KA h l0 l1 l2).push {cls:=.type "tuple",data:=.seq #[.ref h.objs.size,.ref (Ky h l0).objs.size,.ref (Kz h l0 l1).objs.size]}
noncomputable abbrev KG(h:Heap)(l0 l1 l2:Addr):Heap:=(KC h l0 l1 l2).push {cls:=.type "tuple",data:=.seq #[.none,.none,.none]}
noncomputable abbrev wQ(h:Heap)(l0 l1 l2:Addr):Heap:=(KG h l0 l1 l2).push {cls:=.type "zip",data:=.fields #[.none,.bool false,.bool false,.ref (KA h l0 l1 l2).objs.size,.ref (KC h l0 l1 l2).objs.size]}
theorem AS(l0 l1 l2:Addr)(AK AL QT:Array Value):Meets (Builtin.«zip.__new__» {[.type "zip",.ref l0,.ref l1,.ref l2],[]}) (λ_ R s=>s.heap.IsTuple l0 AK/\s.heap.IsTuple l1 AL/\s.heap.IsTuple l2 QT/\R (.ok<|.ret<|.ref (KG s.heap l0 l1 l2).objs.size) {s with heap:=wQ s.heap l0 l1 l2}):=.of_wp λprog w A R s h=>by obtain⟨hp,g,d,tk,os⟩:=s;obtain⟨t0,t1,t2,h⟩:=h;have wO:=sub_zip;have L0:Heap.IsTuple (Shared.heap ⟨hp,g,d,tk,os⟩) l0 AK:=t0;have L1:Heap.IsTuple (Shared.heap {hp.push {cls:=.type "tuple_iterator",data:=.fields #[.ref l0,.int 0 0]},g,d,tk,os}) l1 AL:=Heap.IsTuple.push (t1) _;have L2:Heap.IsTuple (Shared.heap {(hp.push {cls:=.type "tuple_iterator",data:=.fields #[.ref l0,.int 0 0]}).push {cls:=.type "tuple_iterator",data:=.fields #[.ref l1,.int 0 0]},g,d,tk,os}) l2 QT:=Heap.IsTuple.push (Heap.IsTuple.push (t2) _) _;wp_walk using wpAny_pyIter_tuple L0,wpAny_pyIter_tuple L1,wpAny_pyIter_tuple L2;exact{_,rfl,h}
theorem AU(a0 a1 a2:Value):checkTypeCall "zip" {[a0,a1,a2],[]}=pure ():=by kernel_rfl
theorem AV(a0 a1 a2:Value):checkBuiltinCall "zip.__new__" {[.type "zip",a0,a1,a2],[]}=pure ():=by kernel_rfl
theorem OW(x a0 a1 a2:Value):argsOk "object.__init__" {[x,a0,a1,a2],[]}:=by unfold argsOk;rw[signature?_of (id:="object.__init__") (n:=['_','_','t','i','n','i','_','_']) (o:=['t','c','e','j','b','o']) (by kernel_rfl) F.owner_object];kernel_rfl
theorem AW(t0:s.heap.IsTuple l0 AK)(t1:s.heap.IsTuple l1 AL)(t2:s.heap.IsTuple l2 QT) (h:∀h',ZS3 s.heap.objs.size l0 l1 l2 0 h'->(∀c o,s.heap.get? c=some o->h'.get? c=some o)->Q (.ref<|s.heap.objs.size+5) {s with heap:=h'}):wpAny (model prog w) A (call (.type "zip") [.ref l0,.ref l1,.ref l2]) Q E s:=by
 refine callType_new F.called_zip (by decide) (AU _ _ _) (AV _ _ _) (λobj=>OW obj _ _ _) F.entry_zip_new (AS l0 l1 l2 AK AL QT) {t0,t1,t2,?_};have z1:(Ky s.heap l0).objs.size=s.heap.objs.size+1:=zR ..;have z2:(Kz s.heap l0 l1).objs.size=s.heap.objs.size+2:=by rw[zR,z1]
 have z3:(KA s.heap l0 l1 l2).objs.size=s.heap.objs.size+3:=by rw[zR,z2]
 have z4:(KC s.heap l0 l1 l2).objs.size=s.heap.objs.size+4:=by rw[zR,z3]
 have z5:(KG s.heap l0 l1 l2).objs.size=s.heap.objs.size+5:=by rw[zR,z4]
 have z6:(wQ s.heap l0 l1 l2).objs.size=s.heap.objs.size+6:=by rw[zR,z5]
 have g0:(wQ s.heap l0 l1 l2).get? (s.heap).objs.size=some _:=za _<|za _<|za _<|za _<|za _<|zm _ rfl;have g1:(wQ s.heap l0 l1 l2).get? (Ky s.heap l0).objs.size=some _:=za _<|za _<|za _<|za _<|zm _ rfl;have g2:(wQ s.heap l0 l1 l2).get? (Kz s.heap l0 l1).objs.size=some _:=za _<|za _<|za _<|zm _ rfl;have g3:(wQ s.heap l0 l1 l2).get? (KA s.heap l0 l1 l2).objs.size=some _:=za _<|za _<|zm _ rfl;have g4:(wQ s.heap l0 l1 l2).get? (KC s.heap l0 l1 l2).objs.size=some _:=za _<|zm _ rfl;have g5:(wQ s.heap l0 l1 l2).get? (KG s.heap l0 l1 l2).objs.size=some _:=zm _ rfl;show _/\_;rw[z3,z4,z5]at g5;rw[z4]at g4;rw[z1,z2,z3]at g3;rw[z1]at g1;rw[z2]at g2;rw[z5];exact{{_,g5,rfl},h _ {g5,g3,!⟨g4⟩,{_,g0,rfl,rfl},{_,g1,rfl,rfl},{_,g2,rfl,rfl}} λc o x=>za _<|za _<|za _<|za _<|za _<|za _ x}
theorem Vals.three(h:Vals [x,y,z] us):∃u v w,us=[u,v,w]/\RelV x u/\RelV y v/\RelV z w:=by cases h with|cons r h=>cases h with|cons q h=>cases h with|cons p h=>cases h;exact{_,_,_,rfl,r,q,p}
section
variable{X:Cx}
def KH:V->List V->Hp->VK->Prop:=λx vs H Q=>∃z y,x=.str z/\vs=[.str y]/\Q (.bl<|PySem.Txt.startswith z y) H
theorem sE:Od X "str.startswith" KH:=by intro pins s σ H x vs v us Q I rx rv h;obtain⟨z,y,rfl,rfl,q⟩:=h;obtain⟨t,rfl⟩:=rx;obtain⟨u,rfl,ru⟩:=rv.one;obtain⟨t',rfl⟩:=ru;exact PySem.SC.startswith {.bl _,H,I,rfl,q}
theorem tU:∀{texts:List Str}{us:List Value},Vals (texts.map V.str) us->∃l,us=strValues l/\l.map (·.1)=texts|[],_,.nil=>{[],rfl,rfl}|z::zs,_,.cons r q=>by obtain⟨t,rfl⟩:=r;obtain⟨l,rfl,e⟩:=tU q;exact{(z,t)::l,rfl,by rw[zq,e]}
def rJoin(K:Frag):V->List V->Hp->VK->Prop:=λx vs H Q=>∃z l texts,x=.str z/\vs=[.ref l]/\iQ K H l (texts.map V.str)/\JoinOk z texts=true/\Q (.str<|PySem.Txt.join z texts) H
theorem KJ:Od X "str.join" (rJoin X.K):=by intro pins s σ H x vs v us Q I rx rv h;obtain⟨z,l,texts,rfl,rfl,hl,aM,q⟩:=h;obtain⟨t,rfl⟩:=rx;obtain⟨u,rfl,ru⟩:=rv.one;cases ru;obtain⟨au,r1,p1,_⟩:=I.list hl;obtain⟨ll,rfl,e⟩:=tU r1;exact PySem.SC.join p1.isList e aM λt' k=>{.str _,H,I.tok k,{_,rfl},q}
end
end L2
namespace L2
open PySem PySem.Spec PyProof.Rows PySem.SeqAt
end L2
namespace L2
open PySem PySem.Spec PyProof.Rows
theorem uF(l:Addr)(items:Array Value)(n:Nat)(b:Addr)(qq:Array Value)(n2:Nat)(sl:Array<|Option Value)(QU:¬(!items.isEmpty&&Builtin.List.listTooLong (items.size+qq.size))=true)(hs1:items.size<=sizeLine)(rX:items.size+qq.size<=sizeLine+1): Meets (Builtin.«list.extend» {[.ref l,.ref b],[]}) (λ_ R s=>s.heap.get? l=some {cls:=.type "list",dict:=none,data:=.seq items n,slots:=#[]}/\s.heap.get? b=some {cls:=.type "tuple",dict:=none,data:=.seq qq n2,slots:=sl}/\R (.ok<|.ret Value.none) {s with heap:=s.heap.update l<|Obj.mapSeq λx=>x++qq,toks:=s.toks}):=.of_wp λprog w A R s h=>by
 obtain⟨hp,g,d,tk,os⟩:=s;obtain⟨hl,hb,h⟩:=h;have f1:=AutoSeq1.idx_int;have f2:=AutoSeq1.sub_tuple_tuple;have f3:=AutoSeq1.sub_list_list;have f4:=AutoSeq1.sub_tuple_list;have f5:=AutoSeq1.sub_list_tuple;have XQ:(items++qq).size<=sizeLine+1:=by rw[Array.size_append];exact rX
 wp_walk using (wpAny_updateSeq hl rfl (hz:=hs1) (_hz':=XQ)),AutoSeq1.wpAny_loadPart' hl,AutoSeq1.wpAny_loadPart' hb;exact{_,rfl,h}
section
variable{X:Cx}
def G0:V->List V->Hp->VK->Prop:=λx vs H Q=>∃l b xs zs,x=.ref l/\vs=[.ref b]/\H l=some (.lst xs)/\H b=some (.tup zs)/\xs.length+zs.length<=sizeLine/\Q .ax (upd H l<|.lst<|xs++zs)
theorem AX:VJ X "list.extend" G0:=by
 intro pins s σ H x vs v us Q I rx rv h;obtain⟨l,b,xs,zs,rfl,rfl,hH,hB,hz,q⟩:=h;cases rx;obtain⟨u,rfl,ru⟩:=rv.one;cases ru;obtain⟨z,au,n,r,hl,e⟩:=I.Ei hH;obtain⟨z2,uz,r2,⟨c2,d2,dt2,So⟩,e2,ec,ed,n2,en⟩:=(show bj X.prog X.w H s.heap b (.tup zs) from I.aM b _ hB);dsimp only at ec ed en;subst ec ed en;have Jp:=r2.length;have hsz:au.toArray.size+uz.toArray.size<=sizeLine:=by rw[zo,zo];lia
 have SG:¬(!au.toArray.isEmpty&&Builtin.List.listTooLong (au.toArray.size+uz.toArray.size))=true:=by rw[Gz hsz,Bool.and_false];exact zd
 refine call_meets F.slot_list_extend {_,e,rfl} F.entry_list_extend (F.args_list_extend_2 _ _) (uF l au.toArray n b uz.toArray n2 So SG (by rw[zo];lia)<|by lia) {e,e2,?_};refine{.ax,_,I.J1 (its':=au++uz) hH e (by simp) (r.append r2) ?_,rfl,q};rw[zC];lia
end
set_option genInjectivity true in
set_option genSizeOfSpec true in
inductive D where
 |ax|bl (b:Bool)|int (i:Int)|str (x:Str)|tup (ds:List D)|iX (ds:List D)|kt (ds:List D)|ref (a:Addr)|ty (n:String)
def XR(K:Frag)(a:Addr)(xs:List V):Prop:=∃(o:Obj)(au:Array Value)(n:Nat),K.lookup a=some o/\o.cls=.type "tuple"/\o.data=.seq au n/\au.size<=sizeLine/\Vals xs au.toList
def MA(K:Frag)(H:Hp)(a:Addr)(xs:List V):Prop:=(∃o,H a=some (.kB o<|.lst xs))\/∃(o:Obj)(au:Array Value)(n:Nat),K.lookup a=some o/\o.cls=.type "list"/\o.dict=none/\o.data=.seq au n/\au.size<=sizeLine/\Vals xs au.toList
theorem MA.sq{K:Frag}{H:Hp}{a:Addr}{xs:List V}(h:MA K H a xs):iQ K H a xs:=by rcases h with h|h;exact .inl<|.inr h;exact .inr h
structure Kp(K:Frag)(H H':Hp):Prop where
 t:∀a xs,H a=some (.tup xs)->H' a=some (.tup xs)
 r:∀a xs,MA K H a xs->MA K H' a xs
 f:∀a o u,H a=some (.kB o u)->H' a=some (.kB o u)
theorem Kp.refl{K:Frag}(H:Hp):Kp K H H:={λ_ _ h=>h,λ_ _ h=>h,λ_ _ _ h=>h}
theorem Kp.trans{K:Frag}{H H1 H2:Hp}(a:Kp K H H1)(b:Kp K H1 H2):Kp K H H2:={λp xs h=>b.t p xs<|a.t p xs h,λp xs h=>b.r p xs<|a.r p xs h,λp o u h=>b.f p o u<|a.f p o u h}
theorem Kp.of{K:Frag}{H H':Hp}(h:∀b o,H b=some o->H' b=some o\/(∀xs,o≠.tup xs)/\∀u v,o≠.kB u v):Kp K H H' where
 t:=λa xs q=>(h _ _ q).resolve_right λz=>z.1 _ rfl
 r:=λa xs q=>by
  rcases q with⟨o,q⟩|q
  ·exact .inl {o,(h _ _ q).resolve_right λz=>z.2 _ _ rfl}
  ·exact .inr q
 f:=λa o u q=>(h _ _ q).resolve_right λz=>z.2 _ _ rfl
theorem Kp.new{K:Frag}{H:Hp}{a:Addr}{o:HO}(h:H a=none):Kp K H (upd H a o):=.of λb u e=>.inl<|by rw[aq<|ay e h];exact e
theorem Kp.put{K:Frag}{H:Hp}{a:Addr}{o u:HO}(h:H a=some o)(h1:∀xs,o≠.tup xs)(h2:∀u v,o≠.kB u v):Kp K H (upd H a u):=.of λb v e=>by by_cases q:b=a;subst q;rw[h]at e;cases e;exact .inr ⟨h1,h2⟩;exact .inl<|by rw[aq q];exact e
mutual
def Rv(K:Frag)(H:Hp):D->V->Prop|.ax,v=>v=.ax|.bl b,v=>v=.bl b|.int i,v=>v=.int i|.str z,v=>v=.str z|.tup ds,v=>∃a xs,v=.ref a/\H a=some (.tup xs)/\RvAll K H ds xs|.iX ds,v=>∃a xs,v=.ref a/\MA K H a xs/\RvAll K H ds xs|.kt ds,v=>∃a xs,v=.ref a/\XR K a xs/\RvAll K H ds xs|.ref a,v=>v=.ref a|.ty n,v=>v=.ty n
def RvAll(K:Frag)(H:Hp):List D->List V->Prop|[],xs=>xs=[]|d::ds,xs=>∃y ys,xs=y::ys/\Rv K H d y/\RvAll K H ds ys
end
section
variable{K:Frag}{H H':Hp}
theorem gW:Rv K H .ax .ax:=by simp only[Rv]
theorem bp(b:Bool):Rv K H (.bl b) (.bl b):=by simp only[Rv]
theorem aO(i:Int):Rv K H (.int i) (.int i):=by simp only[Rv]
theorem gX(z:Str):Rv K H (.str z) (.str z):=by simp only[Rv]
theorem gY(a:Addr):Rv K H (.ref a) (.ref a):=by simp only[Rv]
theorem SH(n:String):Rv K H (.ty n) (.ty n):=by simp only[Rv]
theorem MB(h:XR K a xs)(t:RvAll K H ds xs):Rv K H (.kt ds) (.ref a):=by simp only[Rv];exact⟨a,xs,rfl,h,t⟩
theorem nh(h:H a=some (.tup xs))(t:RvAll K H ds xs):Rv K H (.tup ds) (.ref a):=by simp only[Rv];exact⟨a,xs,rfl,h,t⟩
theorem G1(h:MA K H a xs)(t:RvAll K H ds xs):Rv K H (.iX ds) (.ref a):=by simp only[Rv];exact⟨a,xs,rfl,h,t⟩
theorem Rv.ax(h:Rv K H .ax v):v=.ax:=by simpa only[Rv]using h
theorem Rv.bl(h:Rv K H (.bl b) v):v=.bl b:=by simpa only[Rv]using h
theorem Rv.int(h:Rv K H (.int i) v):v=.int i:=by simpa only[Rv]using h
theorem Rv.str(h:Rv K H (.str z) v):v=.str z:=by simpa only[Rv]using h
theorem Rv.ref(h:Rv K H (.ref a) v):v=.ref a:=by simpa only[Rv]using h
theorem Rv.ty(h:Rv K H (.ty n) v):v=.ty n:=by simpa only[Rv]using h
theorem Rv.kt(h:Rv K H (.kt ds) v):∃a xs,v=.ref a/\XR K a xs/\RvAll K H ds xs:=by simpa only[Rv]using h
theorem Rv.tup(h:Rv K H (.tup ds) v):∃a xs,v=.ref a/\H a=some (.tup xs)/\RvAll K H ds xs:=by simpa only[Rv]using h
theorem Rv.iX(h:Rv K H (.iX ds) v):∃a xs,v=.ref a/\MA K H a xs/\RvAll K H ds xs:=by simpa only[Rv]using h
theorem bz:RvAll K H [] []:=by simp only[RvAll]
theorem aS(h:Rv K H d x)(t:RvAll K H ds xs):RvAll K H (d::ds) (x::xs):=by simp only[RvAll];exact⟨x,xs,rfl,h,t⟩
theorem RvAll.nil(h:RvAll K H [] xs):xs=[]:=by simpa only[RvAll]using h
theorem RvAll.cons(h:RvAll K H (d::ds) xs):∃y ys,xs=y::ys/\Rv K H d y/\RvAll K H ds ys:=by simpa only[RvAll]using h
mutual
theorem Rv.ts(s:Kp K H H'):∀(d:D){v:V},Rv K H d v->Rv K H' d v|.ax,v,h=>by simpa only[Rv]using h|.bl b,v,h=>by simpa only[Rv]using h|.int i,v,h=>by simpa only[Rv]using h|.str z,v,h=>by simpa only[Rv]using h|.tup ds,v,h=>(by obtain⟨a,xs,rfl,e,t⟩:=h.tup;exact nh (s.t _ _ e)<|RvAll.ts s ds t)|.iX ds,v,h=>(by obtain⟨a,xs,rfl,e,t⟩:=h.iX;exact G1 (s.r _ _ e)<|RvAll.ts s ds t)|.kt ds,v,h=>(by obtain⟨a,xs,rfl,e,t⟩:=h.kt;exact MB e<|RvAll.ts s ds t)|.ref a,v,h=>by simpa only[Rv]using h|.ty n,v,h=>by simpa only[Rv]using h
theorem RvAll.ts(s:Kp K H H'):∀(ds:List D){xs:List V},RvAll K H ds xs->RvAll K H' ds xs|[],xs,h=>by rw[h.nil];exact bz|d::ds,xs,h=>by obtain⟨y,ys,rfl,h1,h2⟩:=h.cons;exact aS (Rv.ts s d h1)<|RvAll.ts s ds h2
end
theorem RvAll.len:∀{ds:List D}{xs:List V},RvAll K H ds xs->xs.length=ds.length|[],xs,h=>by rw[h.nil];rfl|d::ds,xs,h=>by obtain⟨y,ys,rfl,_,h2⟩:=h.cons;rw[zJ,zJ,h2.len]
theorem RvAll.get:∀{ds:List D}{xs:List V}{i:Nat}{d:D},RvAll K H ds xs->ds[i]?=some d->∃v,xs[i]?=some v/\Rv K H d v|[],xs,i,d,h,e=>by simp at e|d0::ds,xs,0,d,h,e=>(by obtain⟨y,ys,rfl,h1,h2⟩:=h.cons;simp at e;subst e;exact⟨y,rfl,h1⟩)|d0::ds,xs,i+1,d,h,e=>by obtain⟨y,ys,rfl,h1,h2⟩:=h.cons;obtain⟨v,e1,e2⟩:=h2.get (i:=i) (by simpa using e);exact{v,by simpa using e1,e2}
theorem RvAll.app:∀{ds es:List D}{xs ys:List V},RvAll K H ds xs->RvAll K H es ys->RvAll K H (ds++es) (xs++ys)|[],es,xs,ys,h,k=>by rw[h.nil];exact k|d::ds,es,xs,ys,h,k=>by obtain⟨y,zs,rfl,h1,h2⟩:=h.cons;exact aS h1<|h2.app k
theorem RvAll.take:∀{ds:List D}{xs:List V}(n:Nat),RvAll K H ds xs->RvAll K H (ds.take n) (xs.take n)|[],xs,n,h=>by rw[h.nil];simp only[List.take_nil];exact bz|d::ds,xs,0,h=>by simp only[List.take_zero];exact bz|d::ds,xs,n+1,h=>by obtain⟨y,zs,rfl,h1,h2⟩:=h.cons;exact aS h1<|h2.take n
theorem RvAll.drop:∀{ds:List D}{xs:List V}(n:Nat),RvAll K H ds xs->RvAll K H (ds.drop n) (xs.drop n)|[],xs,n,h=>by rw[h.nil];simp only[List.drop_nil];exact bz|d::ds,xs,0,h=>h|d::ds,xs,n+1,h=>by obtain⟨y,zs,rfl,h1,h2⟩:=h.cons;exact h2.drop n
theorem RvAll.set:∀{ds:List D}{xs:List V}{d:D}{v:V}(n:Nat),RvAll K H ds xs->Rv K H d v->RvAll K H (ds.set n d) (xs.set n v)|[],xs,d,v,n,h,r=>by rw[h.nil];exact bz|d0::ds,xs,d,v,0,h,r=>(by obtain⟨y,zs,rfl,h1,h2⟩:=h.cons;exact aS r h2)|d0::ds,xs,d,v,n+1,h,r=>by obtain⟨y,zs,rfl,h1,h2⟩:=h.cons;exact aS h1<|h2.set n r
theorem RvAll.erase:∀{ds:List D}{xs:List V}(n:Nat),RvAll K H ds xs->RvAll K H (ds.eraseIdx n) (xs.eraseIdx n)|[],xs,n,h=>by rw[h.nil];exact bz|d::ds,xs,0,h=>(by obtain⟨y,zs,rfl,h1,h2⟩:=h.cons;exact h2)|d::ds,xs,n+1,h=>by obtain⟨y,zs,rfl,h1,h2⟩:=h.cons;exact aS h1<|h2.erase n
theorem RvAll.dropLast:∀{ds:List D}{xs:List V},RvAll K H ds xs->RvAll K H ds.dropLast xs.dropLast|[],xs,h=>by rw[h.nil];exact bz|[d],xs,h=>(by obtain⟨y,zs,rfl,h1,h2⟩:=h.cons;rw[h2.nil];exact bz)|d::e::ds,xs,h=>by obtain⟨y,zs,rfl,h1,h2⟩:=h.cons;obtain⟨y2,zs2,rfl,h3,h4⟩:=id h2.cons;exact aS h1<|RvAll.dropLast h2
theorem RvAll.bools:∀{bs:List Bool}{xs:List V},RvAll K H (bs.map D.bl) xs->xs=bs.map V.bl|[],xs,h=>h.nil|b::bs,xs,h=>by obtain⟨y,ys,rfl,h1,h2⟩:=h.cons;rw[h1.bl,h2.bools];rfl
theorem RvAll.ints:∀{bs:List Int}{xs:List V},RvAll K H (bs.map D.int) xs->xs=bs.map V.int|[],xs,h=>h.nil|b::bs,xs,h=>by obtain⟨y,ys,rfl,h1,h2⟩:=h.cons;rw[h1.int,h2.ints];rfl
theorem RvAll.strs:∀{bs:List Str}{xs:List V},RvAll K H (bs.map D.str) xs->xs=bs.map V.str|[],xs,h=>h.nil|b::bs,xs,h=>by obtain⟨y,ys,rfl,h1,h2⟩:=h.cons;rw[h1.str,h2.strs];rfl
theorem Cv:∀(bs:List Int),RvAll K H (bs.map D.int) (bs.map V.int)|[]=>bz|b::bs=>aS (aO b)<|Cv bs
theorem uG:∀(bs:List Str),RvAll K H (bs.map D.str) (bs.map V.str)|[]=>bz|b::bs=>aS (gX b)<|uG bs
def bR{κ:Type}(K:Frag)(H:Hp):List (κ×D)->List (κ×V)->Prop:=Paired λp q=>p.1=q.1/\Rv K H p.2 q.2
theorem bR.ts(s:Kp K H H'):∀{ks:List (κ×D)}{vs:List (κ×V)},bR K H ks vs->bR K H' ks vs|_,_,.nil=>.nil|_,_,.cons r t=>.cons {r.1,Rv.ts s _ r.2}<|bR.ts s t
theorem bR.look(h:bR K H ks vs)(f:Str):(∀d,ks.lookup f=some d->∃v,vs.lookup f=some v/\Rv K H d v)/\(ks.lookup f=none->vs.lookup f=none):=by induction h with|nil=>(exact{λd e=>(by cases e),λ_=>rfl})|@cons a b l m r t ih=>obtain⟨k,d⟩:=a;obtain⟨k',v⟩:=b;obtain⟨rfl,r⟩:=r;simp only[yd];cases q:f==k with|true=>(exact{λd' e=>{v,rfl,(by cases e;exact r)},λe=>(by cases e)})|false=>exact ih
end
set_option genInjectivity true in
set_option genSizeOfSpec true in
inductive Ce where
 |lst (ds:List D)|cU (kvs:List<|Key×D)|ins (c:Addr) (fs:List<|Str×D)|well|exc (c:Addr)|tab (q:Str)
def Cw(H:Hp)(q:Str)(ps:Array Value):Prop:=TriplesOk ps.toList/\∀pos cv,codeAmong pos ps.toList=some cv->∃c o vs t,cv=.ref c/\H c=some (.kB o<|.own 0)/\o.data=.fields vs/\vs[1]?=some (.str q t)
abbrev aw:=Addr->Option Ce
noncomputable def aw.set(S:aw)(a:Addr)(c:Ce):aw:=λb=>if b=a then some c else S b
theorem aa{S:aw}{a:Addr}{c:Ce} : S.set a c a=some c:=by unfold aw.set;rw[if_pos rfl]
theorem ae{S:aw}{a b:Addr}{c:Ce}(h:b≠a):S.set a c b=S b:=by unfold aw.set;rw[if_neg h]
theorem eO{S:aw}{a:Addr}{c e:Ce} : (S.set a c).set a e=S.set a e:=by funext b;unfold aw.set;split<;>rfl
theorem eP{S:aw}{a b:Addr}{c:Ce}(h:S a=some c)(h':S b=none):a≠b:=by intro e;subst e;rw[h]at h';cases h'
def Rc(K:Frag)(H:Hp)(a:Addr):Ce->Prop|.lst ds=>∃xs,H a=some (.lst xs)/\RvAll K H ds xs|.cU kvs=>∃vs,H a=some (.dK vs)/\bR K H kvs vs|.ins c fs=>∃dx vs,H a=some (.ins c dx vs)/\bR K H fs vs|.well=>∃x y z:Int,H a=some (.lst [.int x,.int y,.int z])|.exc c=>H a=some (XE a<|.ref c)|.tab q=>∃ps,H a=some (.pJ ps)/\Cw H q ps
def Rs(K:Frag)(S:aw)(H:Hp):Prop:=∀a c,S a=some c->Rc K H a c
section
variable{K:Frag}{H H':Hp}{S:aw}{a b:Addr}{c:Ce}
theorem Rc.has(h:Rc K H a c):∃o,H a=some o/\(∀xs,o≠.tup xs)/\∀u v,o≠.kB u v:=by cases c with|lst ds=>(obtain⟨xs,e,_⟩:=h;exact{_,e,λ_=>nofun,λ_ _=>nofun})|cU ds=>(obtain⟨xs,e,_⟩:=h;exact{_,e,λ_=>nofun,λ_ _=>nofun})|ins c fs=>(obtain⟨dx,vs,e,_⟩:=h;exact{_,e,λ_=>nofun,λ_ _=>nofun})|well=>(obtain⟨x,y,z,e⟩:=h;exact{_,e,λ_=>nofun,λ_ _=>nofun})|exc c=>exact{_,h,λ_=>nofun,λ_ _=>nofun}|tab q=>obtain⟨ps,e,_⟩:=h;exact{_,e,λ_=>nofun,λ_ _=>nofun}
theorem Rc.keep(h:Rc K H a c)(e:∀o,H a=some o->H' a=some o)(s:Kp K H H'):Rc K H' a c:=by cases c with|lst ds=>(obtain⟨xs,e1,r⟩:=h;exact{xs,e _ e1,RvAll.ts s _ r})|cU ds=>(obtain⟨xs,e1,r⟩:=h;exact{xs,e _ e1,r.ts s})|ins c fs=>(obtain⟨dx,vs,e1,r⟩:=h;exact{dx,vs,e _ e1,r.ts s})|well=>(obtain⟨x,y,z,e1⟩:=h;exact{x,y,z,e _ e1})|exc c=>exact e _ h|tab q=>obtain⟨ps,e1,r,r2⟩:=h;exact{ps,e _ e1,r,λpos cv z=>by obtain⟨c,o,vs,t,z1,z2,z3⟩:=r2 pos cv z;exact{c,o,vs,t,z1,s.f _ _ _ z2,z3}}
theorem Rs.fresh(h:Rs K S H)(e:H a=none):S a=none:=by cases q:S a with|none=>rfl|some c=>obtain⟨o,e1,_⟩:=(h a c q).has;rw[e]at e1;cases e1
theorem Rs.new(h:Rs K S H)(e:H a=none){o:HO}(r:Rc K (upd H a o) a c):Rs K (S.set a c) (upd H a o):=λb x hb=>by by_cases q:b=a;subst q;rw[aa]at hb;cases hb;exact r;rw[ae q]at hb;exact(h b x hb).keep (λo e1=>by rw[aq q];exact e1)<|Kp.new e
theorem Rs.grow(h:Rs K S H)(e:H a=none):Rs K S (upd H a o):=λb x hb=>by obtain⟨u,e1,_⟩:=(h b x hb).has;have q:b≠a:=ay e1 e;exact(h b x hb).keep (λo e1=>by rw[aq q];exact e1)<|Kp.new e
theorem Rs.gZ(h:Rs K S H)(ha:S a=some e):Kp K H (upd H a o):=by obtain⟨u,e1,n1,n2⟩:=(h a e ha).has;exact Kp.put e1 n1 n2
theorem Rs.put(h:Rs K S H){e:Ce}(ha:S a=some e){o:HO}(r:Rc K (upd H a o) a c):Rs K (S.set a c) (upd H a o):=λb x hb=>by by_cases q:b=a;subst q;rw[aa]at hb;cases hb;exact r;rw[ae q]at hb;exact(h b x hb).keep (λo e1=>by rw[aq q];exact e1)<|h.gZ ha
theorem Rs.lst(h:Rs K S H)(e:S a=some (.lst ds)):∃xs,H a=some (.lst xs)/\RvAll K H ds xs:=h a _ e
theorem Rs.cU(h:Rs K S H)(e:S a=some (.cU ds)):∃xs,H a=some (.dK xs)/\bR K H ds xs:=h a _ e
theorem Rs.ins{c:Addr}{fs:List<|Str×D}(h:Rs K S H)(e:S a=some (.ins c fs)):∃dx vs,H a=some (.ins c dx vs)/\bR K H fs vs:=h a _ e
end
abbrev KD:=D->aw->Prop
abbrev KX:=Addr->aw->Prop
abbrev SD:=List<|Option D
def g6(K:Frag)(H:Hp):SD->St->Prop:=Paired λ(o:Option D)(u:Option V)=>∀d,o=some d->∃v,u=some v/\Rv K H d v
section
variable{K:Frag}{H H':Hp}
theorem g6.ts(s:Kp K H H'):∀{σ:SD}{τ:St},g6 K H σ τ->g6 K H' σ τ|_,_,.nil=>.nil|_,_,.cons r t=>.cons (λd e=>by obtain⟨v,e1,r1⟩:=r d e;exact{v,e1,Rv.ts s _ r1})<|g6.ts s t
theorem g6.get:∀{σ:SD}{τ:St}{i:Nat}{d:D},g6 K H σ τ->σ[i]?=some (some d)->∃v,τ[i]?=some (some v)/\Rv K H d v|_,_,i,d,.nil,e=>by simp at e|_,_,0,d,.cons r t,e=>(by simp at e;obtain⟨v,e1,r1⟩:=r d e;exact{v,by simp[e1],r1})|_,_,i+1,d,.cons r t,e=>by obtain⟨v,e1,r1⟩:=g6.get (i:=i) t (by simpa using e);exact{v,by simpa using e1,r1}
theorem g6.set:∀{σ:SD}{τ:St}(i:Nat){d:D}{v:V},g6 K H σ τ->Rv K H d v->g6 K H (σ.set i<|some d) (τ.set i<|some v)|_,_,i,d,v,.nil,r=>.nil|_,_,0,d,v,.cons r t,q=>(.cons (λd' e=>by cases e;exact⟨v,rfl,q⟩) t)|_,_,i+1,d,v,.cons r t,q=>.cons r<|g6.set i t q
theorem qr:∀(n:Nat)(τ:St),τ.length=n->g6 K H (List.replicate n none) τ|0,[],_=>.nil|n+1,_::τ,h=>.cons (λd e=>by cases e)<|qr n τ<|by simpa using h
theorem qt:∀{ds:List D}{vs:List V},RvAll K H ds vs->g6 K H (ds.map some) (vs.map some)|[],vs,h=>by rw[h.nil];exact .nil|d::ds,vs,h=>by obtain⟨y,ys,rfl,h1,h2⟩:=h.cons;exact .cons (λd' e=>by cases e;exact⟨y,rfl,h1⟩)<|qt h2
theorem g6.app:∀{σ aJ:SD}{τ QV:St},g6 K H σ τ->g6 K H aJ QV->g6 K H (σ++aJ) (τ++QV)|_,_,_,_,.nil,h=>h|_,_,_,_,.cons r t,h=>.cons r<|g6.app t h
end
structure Rdy(Y:Cx)(E:St->XK)(b:Bool):Prop where
 call:∀p2 τ H s e s',Inv Y p2 τ H s->eU Y.prog Y.w Y.mg Y.stack H s (E τ) e s'->Y.xe e s'
 own:b=true->∀p2 τ H s h' a cls args,Inv Y p2 τ H s->Heap.MadeExcOf s.heap h' a cls args->E τ cls none H->Y.xe (.ref a) {s with heap:=h'}
 loop:b=true->PassesOwn (model Y.prog Y.w) Y.A Y.env Y.xe
structure Ev(X:Cx)(b:Bool) where
 pn:List (Addr×Obj)
 xe:Value->Shared->Prop
 E:St->XK
 ok:Rdy {X with pn:=pn,xe:=xe} E b
noncomputable abbrev Ev.cx{X:Cx}{b:Bool}(y:Ev X b):Cx:={X with pn:=y.pn,xe:=y.xe}
def Cn(K:Frag)(H:Hp)(R:KD)(Q:VK):Prop:=∀d S v H',R d S->Rv K H' d v->Rs K S H'->Kp K H H'->Q v H'
def EF(K:Frag)(H:Hp)(Z:KX)(e:XK):Prop:=∀C S H',Z C S->Rs K S H'->Kp K H H'->e (.ref C) none H'
theorem Cn.kp{K:Frag}{H H1:Hp}{R:KD}{Q:VK}(h:Cn K H R Q)(k:Kp K H H1):Cn K H1 R Q:=λd S v H' r v1 s1 k1=>h d S v H' r v1 s1<|k.trans k1
theorem EF.kp{K:Frag}{H H1:Hp}{Z:KX}{e:XK}(h:EF K H Z e)(k:Kp K H H1):EF K H1 Z e:=λC S H' r s1 k1=>h C S H' r s1<|k.trans k1
abbrev TD:=SD->aw->KD->KX->Prop
def T(K:Frag)(E:St->XK)(t:TD):TE:=λτ H Q=>∃σ S R Z,g6 K H σ τ/\Rs K S H/\t σ S R Z/\Cn K H R Q/\EF K H Z (E τ)
structure DE(K:Frag)(X:Cx)(e:Expr)(t:TD):Prop where
 of:∀{b:Bool}(y:Ev X b),PE y.cx e<|T K y.E t
abbrev j8:=SD->aw->(Bool->aw->Prop)->KX->Prop
def VP(K:Frag)(H:Hp)(R:Bool->aw->Prop)(Q:Bool->Hp->Prop):Prop:=∀b S H',R b S->Rs K S H'->Kp K H H'->Q b H'
theorem VP.kp{K:Frag}{H H1:Hp}{R:Bool->aw->Prop}{Q:Bool->Hp->Prop}(h:VP K H R Q)(k:Kp K H H1):VP K H1 R Q:=λd S H' r s1 k1=>h d S H' r s1<|k.trans k1
def Tt(K:Frag)(E:St->XK)(t:j8):TT:=λτ H Q=>∃σ S R Z,g6 K H σ τ/\Rs K S H/\t σ S R Z/\VP K H R Q/\EF K H Z (E τ)
structure DT(K:Frag)(X:Cx)(e:Expr)(t:j8):Prop where
 of:∀{b:Bool}(y:Ev X b),PT y.cx e<|Tt K y.E t
abbrev g7:=SD->aw->(List D->aw->Prop)->KX->Prop
def CnA(K:Frag)(H:Hp)(R:List D->aw->Prop)(Q:List V->Hp->Prop):Prop:=∀ds S vs H',R ds S->RvAll K H' ds vs->Rs K S H'->Kp K H H'->Q vs H'
def Ta(K:Frag)(E:St->XK)(t:g7):TA:=λτ H Q=>∃σ S R Z,g6 K H σ τ/\Rs K S H/\t σ S R Z/\CnA K H R Q/\EF K H Z (E τ)
structure DA(K:Frag)(X:Cx)(es:List Expr)(t:g7):Prop where
 of:∀{b:Bool}(y:Ev X b),PA y.cx es<|Ta K y.E t
theorem PE.mono{t t':TE}(h:PE X e t)(i:∀τ H Q,t' τ H Q->t τ H Q):PE X e t':=λpins s τ H Q I q=>h pins s τ H Q I<|i τ H Q q
theorem PT.mono{t t':TT}(h:PT X e t)(i:∀τ H Q,t' τ H Q->t τ H Q):PT X e t':=λpins s τ H Q I q=>h pins s τ H Q I<|i τ H Q q
theorem PA.mono{t t':TA}(h:PA X e t)(i:∀τ H Q,t' τ H Q->t τ H Q):PA X e t':=λpos pins s τ H Q I q=>h pos pins s τ H Q I<|i τ H Q q
section
variable{K:Frag}{X:Cx}
inductive SI (i:Nat) (σ:SD) (S:aw) (R:KD):Prop where
 |mk (d:D) (h:σ[i]?=some (some d)) (r:R d S):SI i σ S R
def SJ(i:Nat):TD:=λσ S R _=>SI i σ S R
inductive QW (x:D) (S:aw) (R:Bool->aw->Prop):Prop where
 |mk (b:Bool) (h:x=.bl b) (r:R b S):QW x S R
def dC(d:D):TD:=λ_ S R _=>R d S
theorem dv(i:Nat)(hN:autoParam (X.N[i]?=some x) qQJ)(hv:Md X.env.scope x:=by first|exact Or.inl rfl|exact Or.inr (Or.inl rfl)|exact Or.inr (Or.inr rfl))(hd:autoParam ((x==("__debug__": Str))=false) qQZ) (rW:autoParam ((x==("__classdict__": Str))=false) qQZ):DE K X (.Name x pos) (SJ i):=⟨λy=>(NC (X:=y.cx) hN hv hd rW).mono <| by rintro τ H Q ⟨σ,S,R,Z,aC,hS,⟨d,e,r⟩,hR,_⟩;exact by obtain⟨v,e1,rv⟩:=aC.get e;exact{v,e1,hR d S v H r rv hS<|Kp.refl _}⟩
theorem DE.const(h:∀Y:Cx,Y.env=X.env->Y.mg=X.mg->PE Y e (tC v))(r:∀H,Rv K H d v):DE K X e (dC d):=⟨λy=>(h y.cx rfl rfl).mono <| by rintro τ H Q ⟨σ,S,R,Z,aC,hS,q,hR,_⟩;exact hR d S v H q (r H) hS<|Kp.refl _⟩
theorem di:DE K X (.Constant (.int i) j pos) (dC<|.int i):=.const (λ_ _ _=>ND) λ_=>aO i
theorem ds:DE K X (.Constant (.str i) j pos) (dC<|.str i):=.const (λ_ _ _=>NG) λ_=>gX i
theorem db:DE K X (.Constant (.bool i) j pos) (dC<|.bl i):=.const (λ_ _ _=>Mh) λ_=>bp i
theorem dn:DE K X (.Constant .none j pos) (dC .ax):=.const (λ_ _ _=>NF) λ_=>gW
theorem dg(hm:X.mg x=some u)(r:RelV v u)(rd:∀H,Rv K H d v)(hg:autoParam (Gl X x) qQJ)(hd:autoParam ((x==("__debug__": Str))=false) qQZ):DE K X (.Name x pos) (dC d):=.const (λY e1 e2=>Ca (X:=Y) (u:=u) (show Y.env.kindOf x=_ by rw[e1];exact hg) (by rw[e2];exact hm) r hd) rd
theorem rY(hm:X.mg x=none)(hv:bootBuiltins x=some (.type n))(hg:autoParam (Gl X x) qQJ)(hn:autoParam (x≠"__name__") qQZ)(hd:autoParam ((x==("__debug__": Str))=false) qQZ):DE K X (.Name x pos) (dC<|.ty n):=.const (λY e1 e2=>JH (X:=Y) (v:=.ty n) (show Y.env.kindOf x=_ by rw[e1];exact hg) (by rw[e2];exact hm) hv rfl hn hd) λ_=>SH n
def KL:g7:=λ_ S R _=>R [] S
def MC(t:TD)(u:g7):g7:=λσ S R Z=>t σ S (λd S1=>u σ S1 (λds S2=>R (d::ds) S2) Z) Z
theorem an:DA K X [] KL:=⟨λy=>(Aq (X:=y.cx)).mono <| by rintro τ H Q ⟨σ,S,R,Z,aC,hS,q,hR,_⟩;exact hR [] S [] H q bz hS<|Kp.refl _⟩
theorem ac{t:TD}(h:DE K X e t)(hr:DA K X es u)(hp:autoParam (isPlain e=true) qQJ):DA K X (e::es) (MC t u):=
 ⟨λy=>(Xy (h.of y) (hr.of y) hp).mono <| by rintro τ H Q ⟨σ,S,R,Z,aC,hS,q,hR,hZ⟩;exact
  ⟨σ,S,_,Z,aC,hS,q,λd S1 x H1 r1 v1 s1 k1=>⟨σ,S1,_,Z,aC.ts k1,s1,r1,λds S2 xs H2 r2 v2 s2 k2=>hR (d::ds) S2 (x::xs) H2 r2 (aS (Rv.ts k2 _ v1) v2) s2<|k1.trans k2,hZ.kp k1⟩,hZ⟩⟩
abbrev tV:=D->D->aw->KD->Prop
def Lr(K:Frag)(r:tV):R2:=λx y H Q=>∃d e S R,Rv K H d x/\Rv K H e y/\Rs K S H/\r d e S R/\Cn K H R Q
def mV(K:Frag)(f:Value->Value->Sem Value)(r:tV):Prop:=∀X:Cx,X.K=K->X.A.units+64<cLine->gs X f (Lr K r)
def OX(r:tV)(ta tb:TD):TD:=λσ S R Z=>ta σ S (λx S1=>tb σ S1 (λy S2=>r x y S2 R) Z) Z
theorem T.op(h:T K E (OX r ta tb) τ H Q):QO (Lr K r) (T K E ta) (T K E tb) τ H Q:=by obtain⟨σ,S,R,Z,aC,hS,q,hR,hZ⟩:=h;exact{σ,S,_,Z,aC,hS,q,λd S1 x H1 r1 v1 s1 k1=>{σ,S1,_,Z,aC.ts k1,s1,r1,λe S2 y H2 r2 v2 s2 k2=>{d,e,S2,R,Rv.ts k2 _ v1,v2,s2,r2,hR.kp<|k1.trans k2},hZ.kp k1},hZ}
theorem bo(ho:mV K (binaryOp op) r)(hu:X.A.units+64<cLine)(ha:DE K X a ta)(hb:DE K X b tb)(hK:autoParam (X.K=K) qQJ):DE K X (.BinOp a op b pos) (OX r ta tb):=⟨λy=>(RM (ho y.cx hK hu) (ha.of y)<|hb.of y).mono λ_ _ _ h=>h.op⟩
theorem cm(ho:mV K (compareOp op) r)(hu:X.A.units+64<cLine)(ha:DE K X a ta)(hb:DE K X b tb)(hm:autoParam (behindInMarks op b=false) qQ2)(hK:autoParam (X.K=K) qQJ):DE K X (.Compare a [op] [b] pos) (OX r ta tb):=⟨λy=>(Ci (ho y.cx hK hu) (ha.of y) (hb.of y) hm).mono λ_ _ _ h=>h.op⟩
def dB(t:TD):j8:=λσ S R Z=>t σ S (λx S1=>QW x S1 R) Z
theorem Tt.b{t:TD}(h:Tt K E (dB t) τ H Q):T K E t τ H λx H'=>∃k,x=.bl k/\Q k H':=by obtain⟨σ,S,R,Z,aC,hS,q,hR,hZ⟩:=h;exact{σ,S,_,Z,aC,hS,q,by rintro d S1 x H1 ⟨b,e,r1⟩ v1 s1 k1;exact by subst e;exact{b,v1.bl,hR b S1 H1 r1 s1 k1},hZ}
theorem Tt.bop(h:Tt K E (dB<|OX r ta tb) τ H Q):Gn (QO (Lr K r) (T K E ta)<|T K E tb) τ H Q:=h.b.op
theorem bq(ho:mV K (compareOp op) r)(hu:X.A.units+64<cLine)(ha:DE K X a ta)(hb:DE K X b tb)(hm:autoParam (behindInMarks op b=false) qQ2)(hK:autoParam (X.K=K) qQJ):DT K X (.Compare a [op] [b] pos) (dB<|OX r ta tb):=⟨λy=>(JU (ho y.cx hK hu) (ha.of y) (hb.of y) hm).mono λ_ _ _ h=>h.bop⟩
theorem tv{t:TD}(h:DE K X e t)(he:autoParam (∀whole,isTrue e X.env whole=(do let v <-whole;standAt e.pos;holding [v] (truthy v))) qQ0):DT K X e (dB t):=⟨λy=>(NH (X:=y.cx) (h.of y) he).mono λ_ _ _ h=>h.b⟩
def AY(r r':tV)(ta tb tc:TD):TD:=λσ S R Z=>ta σ S (λx S1=>tb σ S1 (λy S2=>r x y S2 λz S3=>QW z S3 λk S3=>if k=true then tc σ S3 (λw S4=>r' y w S4 R) Z else R (.bl false) S3) Z) Z
theorem T.chain(h:T K E (AY r r' ta tb tc) τ H Q):Ah (Lr K r) (Lr K r') (T K E ta) (T K E tb) (T K E tc) τ H Q:=by obtain⟨σ,S,R,Z,aC,hS,q,hR,hZ⟩:=h;refine{σ,S,_,Z,aC,hS,q,λd S1 x H1 r1 v1 s1 k1=>{σ,S1,_,Z,aC.ts k1,s1,r1,λe S2 y H2 r2 v2 s2 k2=>{d,e,S2,_,Rv.ts k2 _ v1,v2,s2,r2,λz S3 v H3 r3 v3 s3 k3=>?_},hZ.kp k1},hZ};obtain⟨k,rfl,r3⟩:=r3;refine{k,v3.bl,?_};cases k with|true=>rw[if_pos rfl]at r3⊢;exact{σ,S3,_,Z,((aC.ts k1).ts k2).ts k3,s3,r3,λw S4 wv H4 r4 v4 s4 k4=>{e,w,S4,R,Rv.ts (k3.trans k4) _ v2,v4,s4,r4,hR.kp<|((k1.trans k2).trans k3).trans k4},hZ.kp<|(k1.trans k2).trans k3}|false=>rw[if_neg zd]at r3⊢;exact hR _ S3 _ H3 r3 (bp false) s3<|(k1.trans k2).trans k3
theorem cc(ho:mV K (compareOp op) r)(Ad:mV K (compareOp D_) r')(hu:X.A.units+64<cLine)(ha:DE K X a ta)(hb:DE K X b tb)(hc:DE K X c tc) (hm:autoParam (lastMarks [op,D_] [b,c]=false) qQ2) (hK:autoParam (X.K=K) qQJ):DE K X (.Compare a [op,D_] [b,c] pos) (AY r r' ta tb tc):=⟨λy=>(Gq (ho y.cx hK hu) (Ad y.cx hK hu) (ha.of y) (hb.of y) (hc.of y) hm).mono λ_ _ _ h=>h.chain⟩
theorem VQ(ho:mV K (compareOp op) r)(Ad:mV K (compareOp D_) r')(hu:X.A.units+64<cLine)(ha:DE K X a ta)(hb:DE K X b tb)(hc:DE K X c tc) (hm:autoParam (lastMarks [op,D_] [b,c]=false) qQ2) (hK:autoParam (X.K=K) qQJ):DT K X (.Compare a [op,D_] [b,c] pos) (dB<|AY r r' ta tb tc):=⟨λy=>(Gr (ho y.cx hK hu) (Ad y.cx hK hu) (ha.of y) (hb.of y) (hc.of y) hm).mono λ_ _ _ h=>h.b.chain⟩
def SK(ta tb:TD):TD:=λσ S R Z=>ta σ S (λx S1=>QW x S1 λc S1=>if c=true then tb σ S1 R Z else R (.bl false) S1) Z
def XS(ta tb:TD):TD:=λσ S R Z=>ta σ S (λx S1=>QW x S1 λc S1=>if c=true then R (.bl true) S1 else tb σ S1 R Z) Z
def SM(ta:TD):TD:=λσ S R Z=>ta σ S (λx S1=>QW x S1 λc S1=>R (.bl<|!c) S1) Z
theorem Jr{t:TD}(h:DE K X a t):DE K X (.BoolOp op [a] pos) t:=⟨λy=>NJ<|h.of y⟩
theorem sF{a b:Expr}{rest:List Expr}{ta tb:TD}{pos:Pos}(ha:DE K X a ta)(hb:DE K X (.BoolOp .And (b::rest) pos) tb):DE K X (.BoolOp .And (a::b::rest) pos) (SK ta tb):=
 ⟨λy=>(NK (ha.of y)<|hb.of y).mono <| by rintro τ H Q ⟨σ,S,R,Z,aC,hS,q,hR,hZ⟩;exact
  ⟨σ,S,_,Z,aC,hS,q,by
   rintro d S1 x H1 ⟨c,e,r1⟩ v1 s1 k1
   subst e
   refine{c,v1.bl,?_}
   cases c with
   |true=>rw[if_pos rfl]at r1⊢;exact{σ,S1,R,Z,aC.ts k1,s1,r1,hR.kp k1,hZ.kp k1}
   |false=>rw[if_neg zd]at r1⊢;exact hR _ S1 _ H1 r1 (bp false) s1 k1,hZ⟩⟩
theorem eor{a b:Expr}{rest:List Expr}{ta tb:TD}{pos:Pos}(ha:DE K X a ta)(hb:DE K X (.BoolOp .Or (b::rest) pos) tb):DE K X (.BoolOp .Or (a::b::rest) pos) (XS ta tb):=
 ⟨λy=>(Rz (ha.of y)<|hb.of y).mono <| by rintro τ H Q ⟨σ,S,R,Z,aC,hS,q,hR,hZ⟩;exact
  ⟨σ,S,_,Z,aC,hS,q,by
   rintro d S1 x H1 ⟨c,e,r1⟩ v1 s1 k1
   subst e
   refine{c,v1.bl,?_}
   cases c with
   |false=>rw[if_neg zd]at r1⊢;exact{σ,S1,R,Z,aC.ts k1,s1,r1,hR.kp k1,hZ.kp k1}
   |true=>rw[if_pos rfl]at r1⊢;exact hR _ S1 _ H1 r1 (bp true) s1 k1,hZ⟩⟩
theorem OY(ha:DE K X a ta):DE K X (.UnaryOp .Not a pos) (SM ta):=
 ⟨λy=>(NL<|ha.of y).mono <| by rintro τ H Q ⟨σ,S,R,Z,aC,hS,q,hR,hZ⟩;exact
  ⟨σ,S,_,Z,aC,hS,q,by rintro d S1 x H1 ⟨c,e,r1⟩ v1 s1 k1;exact by subst e;exact⟨c,v1.bl,hR _ S1 _ H1 r1 (bp _) s1 k1⟩,hZ⟩⟩
def XT(t:j8):j8:=λσ S R Z=>t σ S (λc S1=>R (!c) S1) Z
def XU(t u:j8):j8:=λσ S R Z=>t σ S (λc S1=>if c=true then u σ S1 R Z else R false S1) Z
def dOr(t u:j8):j8:=λσ S R Z=>t σ S (λc S1=>if c=true then R true S1 else u σ S1 R Z) Z
theorem bY{t:j8}(ha:DT K X a t):DT K X (.UnaryOp .Not a pos) (XT t):=⟨λy=>(NI<|ha.of y).mono <| by rintro τ H Q ⟨σ,S,R,Z,aC,hS,q,hR,hZ⟩;exact{σ,S,_,Z,aC,hS,q,λc S1 H1 r1 s1 k1=>hR _ S1 H1 r1 s1 k1,hZ}⟩
structure DW(K:Frag)(X:Cx)(e:Expr)(t:j8):Prop where
 of:∀{b:Bool}(y:Ev X b),PW y.cx e<|Tt K y.E t
theorem PW.mono{t t':TT}(h:PW X e t)(i:∀τ H Q,t' τ H Q->t τ H Q):PW X e t':=λwh pins s τ H Q I q=>h wh pins s τ H Q I<|i τ H Q q
theorem twd{t:j8}(h:DW K X e t):DT K X e t:=⟨λy=>(h.of y).pt⟩
theorem tw1{t:j8}(h:DT K X a t):DW K X (.BoolOp op [a] pos) t:=⟨λy=>by cases op with|And=>exact pw_and1 (h.of y)|Or=>exact pw_or1<|h.of y⟩
theorem twand{a b:Expr}{rest:List Expr}{t u:j8}{pos:Pos}(ha:DT K X a t)(hb:DW K X (.BoolOp .And (b::rest) pos) u):DW K X (.BoolOp .And (a::b::rest) pos) (XU t u):=
 ⟨λy=>(pw_and (ha.of y)<|hb.of y).mono <| by rintro τ H Q ⟨σ,S,R,Z,aC,hS,q,hR,hZ⟩;exact
  ⟨σ,S,_,Z,aC,hS,q,λc S1 H1 r1 s1 k1=>by
   cases c with
   |true=>rw[if_pos rfl]at r1⊢;exact{σ,S1,R,Z,aC.ts k1,s1,r1,hR.kp k1,hZ.kp k1}
   |false=>rw[if_neg zd]at r1⊢;exact hR _ S1 H1 r1 s1 k1,hZ⟩⟩
theorem twor{a b:Expr}{rest:List Expr}{t u:j8}{pos:Pos}(ha:DT K X a t)(hb:DW K X (.BoolOp .Or (b::rest) pos) u):DW K X (.BoolOp .Or (a::b::rest) pos) (dOr t u):=
 ⟨λy=>(pw_or (ha.of y)<|hb.of y).mono <| by rintro τ H Q ⟨σ,S,R,Z,aC,hS,q,hR,hZ⟩;exact
  ⟨σ,S,_,Z,aC,hS,q,λc S1 H1 r1 s1 k1=>by
   cases c with
   |false=>rw[if_neg zd]at r1⊢;exact{σ,S1,R,Z,aC.ts k1,s1,r1,hR.kp k1,hZ.kp k1}
   |true=>rw[if_pos rfl]at r1⊢;exact hR _ S1 H1 r1 s1 k1,hZ⟩⟩
def XW(t:j8)(ta tb:TD):TD:=λσ S R Z=>t σ S (λc S1=>if c=true then ta σ S1 R Z else tb σ S1 R Z) Z
theorem QX{t:j8}(hc:DT K X c t)(ha:DE K X a ta)(hb:DE K X b tb):DE K X (.IfExp c a b pos) (XW t ta tb):=
 ⟨λy=>(Ge (hc.of y) (ha.of y)<|hb.of y).mono <| by rintro τ H Q ⟨σ,S,R,Z,aC,hS,q,hR,hZ⟩;exact
  ⟨σ,S,_,Z,aC,hS,q,λc S1 H1 r1 s1 k1=>by
   cases c with
   |true=>rw[if_pos rfl]at r1⊢;exact{σ,S1,R,Z,aC.ts k1,s1,r1,hR.kp k1,hZ.kp k1}
   |false=>rw[if_neg zd]at r1⊢;exact{σ,S1,R,Z,aC.ts k1,s1,r1,hR.kp k1,hZ.kp k1},hZ⟩⟩
def XX(t:g7):TD:=λσ S R Z=>t σ S (λds S1=>ds.length<=sizeLine/\∀p,S1 p=none->R (.ref p) (S1.set p<|.lst ds)) Z
def XY(t:g7):TD:=λσ S R Z=>t σ S (λds S1=>ds.length<=sizeLine/\R (.tup ds) S1) Z
theorem cK{t:g7}(h:DA K X es t):DE K X (.List es pos) (XX t):=
 ⟨λy=>(Oa<|h.of y).mono <| by rintro τ H Q ⟨σ,S,R,Z,aC,hS,q,hR,hZ⟩;exact
  ⟨σ,S,_,Z,aC,hS,q,by rintro ds S1 xs H1 ⟨hl,r1⟩ v1 s1 k1;exact⟨by rw[v1.len];exact hl,λp hp=>hR _ _ _ _ (r1 p<|s1.fresh hp) (gY p) (s1.new hp ⟨xs,aD,RvAll.ts (.new hp) _ v1⟩)<|k1.trans<|.new hp⟩,hZ⟩⟩
theorem bw{t:g7}(h:DA K X es t):DE K X (.Tuple es x1 pos) (XY t):=
 ⟨λy=>(N_<|h.of y).mono <| by rintro τ H Q ⟨σ,S,R,Z,aC,hS,q,hR,hZ⟩;exact
  ⟨σ,S,_,Z,aC,hS,q,by rintro ds S1 xs H1 ⟨hl,r1⟩ v1 s1 k1;exact⟨by rw[v1.len];exact hl,λp hp=>hR _ _ _ _ r1 (nh aD<|RvAll.ts (.new hp) _ v1) (s1.grow hp)<|k1.trans<|.new hp⟩,hZ⟩⟩
def XZ:TD:=λ_ S R _=>∀p,S p=none->R (.ref p) (S.set p<|.cU [])
theorem SN:DE K X (.Dict [] [] pos) XZ:=⟨λy=>(GF (X:=y.cx)).mono <| by rintro τ H Q ⟨σ,S,R,Z,aC,hS,q,hR,hZ⟩ p hp;exact hR _ _ _ _ (q p<|hS.fresh hp) (gY p) (hS.new hp {[],aD,.nil})<|.new hp⟩
def Lc(K:Frag)(r:List D->aw->KD->Prop):List V->Hp->VK->Prop:=λxs H Q=>∃ds S R,RvAll K H ds xs/\Rs K S H/\r ds S R/\Cn K H R Q
def fF(K:Frag)(f:Value)(r:List D->aw->KD->Prop):Prop:=∀X:Cx,X.K=K->X.calm=true->dO X f (Lc K r)
def VR(r:List D->aw->KD->Prop)(t:g7):TD:=λσ S R Z=>t σ S (λds S1=>r ds S1 R) Z
theorem T.cb{t:g7}(h:T K E (VR r t) τ H Q):W9 (Lc K r) (Ta K E t) τ H Q:=by obtain⟨σ,S,R,Z,aC,hS,q,hR,hZ⟩:=h;exact{σ,S,_,Z,aC,hS,q,λds S1 xs H1 r1 v1 s1 k1=>{ds,S1,R,v1,s1,r1,hR.kp k1},hZ}
theorem cb{x:Str}{id:String}{r:List D->aw->KD->Prop}{e:Expr}{es:List Expr}{t:g7}{p pos:Pos}(hc:fF K (.builtin id) r)(hm:X.mg x=none)(hv:bootBuiltins x=some (.builtin id))(ha:DA K X (e::es) t)(hg:autoParam (Gl X x) qQJ) (hn:autoParam (x≠"__name__") qQZ) (o_:autoParam ((x==("__debug__": Str))=false) qQZ) (he:autoParam (starEach (e::es) X.env=(false,eval e X.env)::starEach es X.env) qQJ) (dr:autoParam ((backTo pos<|starEach es X.env).any (·.1)=false) qQJ) (hK:autoParam (X.K=K) qQJ) (hC:autoParam (X.calm=true) qQJ): DE K X (.Call (.Name x p) (e::es) [] pos) (VR r t):=⟨λy=>(wA (X:=y.cx) (hc _ hK hC) hg hm hv (ha.of y) hn o_ he dr).mono λ_ _ _ h=>h.cb⟩
theorem ct{x:Str}{id:String}{r:List D->aw->KD->Prop}{e:Expr}{es:List Expr}{t:g7}{p pos:Pos}(hc:fF K (.type id) r)(hm:X.mg x=none)(hv:bootBuiltins x=some (.type id))(ha:DA K X (e::es) t)(hg:autoParam (Gl X x) qQJ) (hn:autoParam (x≠"__name__") qQZ) (o_:autoParam ((x==("__debug__": Str))=false) qQZ) (he:autoParam (starEach (e::es) X.env=(false,eval e X.env)::starEach es X.env) qQJ) (dr:autoParam ((backTo pos<|starEach es X.env).any (·.1)=false) qQJ) (hK:autoParam (X.K=K) qQJ) (hC:autoParam (X.calm=true) qQJ): DE K X (.Call (.Name x p) (e::es) [] pos) (VR r t):=⟨λy=>(tI (X:=y.cx) (hc _ hK hC) hg hm hv (ha.of y) hn o_ he dr).mono λ_ _ _ h=>h.cb⟩
end
section
variable{K:Frag}
theorem Cn.now(h:Cn K H R Q)(hS:Rs K S H)(r:R d S)(rv:Rv K H d v):Q v H:=h d S v H r rv hS<|.refl _
theorem Cn.new{H:Hp}{R:KD}{Q:VK}{S:aw}{p:Addr}{ds:List D}{xs:List V}(h:Cn K H R Q)(hS:Rs K S H)(hp:H p=none)(r:S p=none->R (.ref p) (S.set p<|.lst ds))(rv:RvAll K H ds xs):Q (.ref p) (upd H p<|.lst xs):=h _ _ _ _ (r<|hS.fresh hp) (gY p) (hS.new hp {xs,aD,RvAll.ts (.new hp) _ rv})<|.new hp
theorem Cn.X0{H:Hp}{R:KD}{Q:VK}{S:aw}{p:Addr}{ds:List D}{xs:List V}(h:Cn K H R Q)(hS:Rs K S H)(hp:H p=none)(r:R (.tup ds) S)(rv:RvAll K H ds xs):Q (.ref p) (upd H p<|.tup xs):=h _ _ _ _ r (nh aD<|RvAll.ts (.new hp) _ rv) (hS.grow hp)<|.new hp
theorem Cn.put{H:Hp}{R:KD}{Q:VK}{S:aw}{p:Addr}{ds es:List D}{xs:List V}{d:D}{v:V}(h:Cn K H R Q)(hS:Rs K S H)(hp:S p=some (.lst es))(r:R d<|S.set p<|.lst ds)(rd:Rv K H d v)(rv:RvAll K H ds xs):Q v (upd H p<|.lst xs):=h _ _ _ _ r (Rv.ts (hS.gZ hp) _ rd) (hS.put hp {xs,aD,RvAll.ts (hS.gZ hp) _ rv})<|hS.gZ hp
def wg(S:aw):D->List D->Prop|.ref a,ds=>S a=some (.lst ds)|.iX es,ds=>es=ds|_,_=>False
theorem wg.at{H:Hp}{S:aw}{d:D}{ds:List D}{v:V}(h:wg S d ds)(hS:Rs K S H)(r:Rv K H d v):∃a xs,v=.ref a/\iQ K H a xs/\RvAll K H ds xs:=by cases d with|ref a=>(obtain⟨xs,e,q⟩:=hS.lst h;exact{a,xs,r.ref,.of e,q})|iX es=>(have h:es=ds:=h;subst h;obtain⟨a,xs,e,q,t⟩:=r.iX;exact⟨a,xs,e,q.sq,t⟩)|_=>exact h.elim
def X1:tV:=λx y S R=>match x,y with|.int i,.int j=>R (.int<|i-j) S|_,_=>False
theorem eV:mV K (binaryOp .Sub) X1:=by rintro X hK hu pins s σ H x y v u Q I rx ry ⟨d,e,S,R,r1,r2,hS,h,hR⟩;cases d<;>cases e<;>first|exact False.elim h|exact NZ pins s σ H x y v u Q I rx ry {_,_,r1.int,r2.int,hR.now hS h<|aO _}
def X2:tV:=λx y S R=>match x,y with|.int i,.int j=>JS i j/\R (.int<|i*j) S|.str z,.int n=>MulOk z n/\R (.str<|PySem.Txt.mul z n) S|_,_=>False
theorem lS:mV K (binaryOp .Mult) X2:=by rintro X hK hu pins s σ H x y v u Q I rx ry ⟨d,e,S,R,r1,r2,hS,h,hR⟩;cases d<;>cases e<;>first|exact False.elim h|exact N1 pins s σ H x y v u Q I rx ry {_,_,r1.int,r2.int,h.1,hR.now hS h.2<|aO _}|exact AQ pins s σ H x y v u Q I rx ry {_,_,r1.str,r2.int,h.1,hR.now hS h.2<|gX _}
def X3:tV:=λx y S R=>match x,y with|.int i,.int j=>0<j/\R (.int<|i%j) S|_,_=>False
theorem ou:mV K (binaryOp .Mod) X3:=by rintro X hK hu pins s σ H x y v u Q I rx ry ⟨d,e,S,R,r1,r2,hS,h,hR⟩;cases d<;>cases e<;>first|exact False.elim h|exact N3 pins s σ H x y v u Q I rx ry {_,_,r1.int,r2.int,h.1,hR.now hS h.2<|aO _}
def SO:tV:=λx y S R=>match x,y with|.int i,.int j=>Mt i j/\R (.int<|i/j) S|_,_=>False
theorem qu:mV K (binaryOp .FloorDiv) SO:=by rintro X hK hu pins s σ H x y v u Q I rx ry ⟨d,e,S,R,r1,r2,hS,h,hR⟩;cases d<;>cases e<;>first|exact False.elim h|exact GJ pins s σ H x y v u Q I rx ry {_,_,r1.int,r2.int,h.1,hR.now hS h.2<|aO _}
def X4:tV:=λx y S R=>match x,y with|.int i,.int j=>RP i j/\R (.int<|i^j.toNat) S|_,_=>False
theorem MD:mV K (binaryOp .Pow) X4:=by rintro X hK hu pins s σ H x y v u Q I rx ry ⟨d,e,S,R,r1,r2,hS,h,hR⟩;cases d<;>cases e<;>first|exact False.elim h|exact N4 pins s σ H x y v u Q I rx ry {_,_,r1.int,r2.int,h.1,hR.now hS h.2<|aO _}
def G4(f:Int->Int->Bool)(g:Str->Str->Bool):tV:=λx y S R=>match x,y with|.int i,.int j=>R (.bl<|f i j) S|.str i,.str j=>R (.bl<|g i j) S|_,_=>False
theorem Cy(h1:∀X:Cx,gs X (compareOp op)<|JQ λi j=>.bl<|f i j) (h2:∀X:Cx,gs X (compareOp op) λx y H Q=>∃i j,x=.str i/\y=.str j/\Q (.bl<|g i j) H):mV K (compareOp op) (G4 f g):=by rintro X hK hu pins s σ H x y v u Q I rx ry ⟨d,e,S,R,r1,r2,hS,h,hR⟩;cases d<;>cases e<;>first|exact False.elim h|exact h1 X pins s σ H x y v u Q I rx ry {_,_,r1.int,r2.int,hR.now hS h<|bp _}|exact h2 X pins s σ H x y v u Q I rx ry {_,_,r1.str,r2.str,hR.now hS h<|bp _}
theorem wR:mV K (compareOp .Lt) (G4 (λi j=>decide<|i<j) λi j=>tN i j):=Cy (λ_=>RS) λ_=>D6
theorem iY:mV K (compareOp .LtE) (G4 (λi j=>decide<|i<=j) λi j=>FQ i j):=Cy (λ_=>RT) λ_=>Ep
theorem sG:mV K (compareOp .Gt) (G4 (λi j=>decide<|j<i) λi j=>tN j i):=Cy (λ_=>RU) λ_=>Es
theorem X5:mV K (compareOp .GtE) (G4 (λi j=>decide<|j<=i) λi j=>FQ j i):=Cy (λ_=>RV) λ_=>Er
noncomputable def ah:D->Bool|.ax=>true|_=>false
theorem wU(r:Rv K H d v):decide (v=.ax)=ah d:=by cases d with|ax=>rw[r.ax];rfl|bl b=>rw[r.bl];rfl|int b=>rw[r.int];rfl|str b=>rw[r.str];rfl|ref b=>rw[r.ref];rfl|ty b=>rw[r.ty];rfl|tup b=>(obtain⟨a,xs,rfl,_⟩:=r.tup;rfl)|iX b=>(obtain⟨a,xs,rfl,_⟩:=r.iX;rfl)|kt b=>obtain⟨a,xs,rfl,_⟩:=r.kt;rfl
def X6:tV:=λx y S R=>match y with|.ax=>R (.bl<|ah x) S|_=>False
def SQ:tV:=λx y S R=>match y with|.ax=>R (.bl<|!ah x) S|_=>False
theorem jQ:mV K (compareOp .Is) X6:=by rintro X hK hu pins s σ H x y v u Q I rx ry ⟨d,e,S,R,r1,r2,hS,h,hR⟩;cases e<;>first|exact False.elim h|exact N6 pins s σ H x y v u Q I rx ry {r2.ax,by rw[wU r1];exact hR.now hS h<|bp _}
theorem kF:mV K (compareOp .IsNot) SQ:=by rintro X hK hu pins s σ H x y v u Q I rx ry ⟨d,e,S,R,r1,r2,hS,h,hR⟩;cases e<;>first|exact False.elim h|exact JT pins s σ H x y v u Q I rx ry {r2.ax,by rw[wU r1];exact hR.now hS h<|bp _}
mutual
def Dp(S:aw):D->PyData->Prop|.ax,p=>p=.none|.bl b,p=>p=.bool b|.int i,p=>p=.int i|.str z,p=>p=.str z|.tup ds,p=>∃ps,p=.tuple ps/\DpAll S ds ps|.iX ds,p=>∃ps,p=.list ps/\DpAll S ds ps|.kt _,_=>False|.ref _,_=>False|.ty _,_=>False
def DpAll(S:aw):List D->List PyData->Prop|[],ps=>ps=[]|d::ds,ps=>∃q qs,ps=q::qs/\Dp S d q/\DpAll S ds qs
end
mutual
theorem Dp.dt:∀(d:D){p:PyData}{v:V},Dp S d p->Rv K H d v->Dt K H p v|.ax,p,v,h,r=>by simp only[Dp]at h;subst h;simp only[Dt];exact r.ax|.bl b,p,v,h,r=>by simp only[Dp]at h;subst h;simp only[Dt];exact r.bl|.int b,p,v,h,r=>by simp only[Dp]at h;subst h;simp only[Dt];exact r.int|.str b,p,v,h,r=>by simp only[Dp]at h;subst h;simp only[Dt];exact r.str|.tup ds,p,v,h,r=>(by simp only[Dp]at h;obtain⟨ps,rfl,h⟩:=h;obtain⟨a,xs,rfl,q,t⟩:=r.tup;simp only[Dt];exact{a,xs,rfl,.of q,DpAll.dt ds h t})|.iX ds,p,v,h,r=>(by simp only[Dp]at h;obtain⟨ps,rfl,h⟩:=h;obtain⟨a,xs,rfl,q,t⟩:=r.iX;simp only[Dt];exact{a,xs,rfl,q.sq,DpAll.dt ds h t})|.kt a,p,v,h,r=>by simp only[Dp]at h|.ref a,p,v,h,r=>by simp only[Dp]at h|.ty a,p,v,h,r=>by simp only[Dp]at h
theorem DpAll.dt:∀(ds:List D){ps:List PyData}{vs:List V},DpAll S ds ps->RvAll K H ds vs->DtAll K H ps vs|[],ps,vs,h,r=>by simp only[DpAll]at h;subst h;rw[r.nil];simp only[DtAll]|d::ds,ps,vs,h,r=>by simp only[DpAll]at h;obtain⟨q,qs,rfl,h1,h2⟩:=h;obtain⟨y,ys,rfl,r1,r2⟩:=r.cons;simp only[DtAll];exact{y,ys,rfl,Dp.dt d h1 r1,DpAll.dt ds h2 r2}
end
def Dl(S:aw):D->PyData->Prop|.ref a,p=>∃ds ps,S a=some (.lst ds)/\p=.list ps/\DpAll S ds ps|d,p=>Dp S d p
theorem Dl.dt(h:Dl S d p)(hS:Rs K S H)(r:Rv K H d v):Dt K H p v:=by cases d with|ref a=>(obtain⟨ds,ps,e,rfl,h⟩:=h;obtain⟨xs,e1,t⟩:=hS.lst e;rw[r.ref];simp only[Dt];exact{a,xs,rfl,.of e1,DpAll.dt ds h t})|_=>exact Dp.dt _ h r
def Js(neg:Bool):tV:=λx y S R=>match x,y with|.int i,.int j=>(R (.bl<|if neg then !decide (i=j) else decide (i=j)) S)|.str i,.str j=>(R (.bl<|if neg then !decide (i=j) else decide (i=j)) S)|x,y=>∃p q,Dl S x p/\Dl S y q/\p.canLay0=true/\q.canLay0=true/\(p.depth<=64\/q.depth<=64)/\R (.bl<|if neg then !PyData.eqv p q else PyData.eqv p q) S
theorem G5(h:Js neg x y S R):(∃i j,x=.int i/\y=.int j/\R (.bl<|if neg then !decide (i=j) else decide (i=j)) S)\/(∃i j,x=.str i/\y=.str j/\R (.bl<|if neg then !decide (i=j) else decide (i=j)) S)\/∃p q,Dl S x p/\Dl S y q/\p.canLay0=true/\q.canLay0=true/\(p.depth<=64\/q.depth<=64)/\R (.bl<|if neg then !PyData.eqv p q else PyData.eqv p q) S:=by cases x<;>cases y<;>first|exact .inl {_,_,rfl,rfl,h}|exact .inr (.inl {_,_,rfl,rfl,h})|exact .inr (.inr h)
theorem bH:mV K (compareOp .Eq) (Js false):=by
 rintro X hK hu pins s σ H x y v u Q I rx ry ⟨d,e,S,R,r1,r2,hS,h,hR⟩;subst hK;rcases G5 h with⟨i,j,rfl,rfl,h⟩|⟨i,j,rfl,rfl,h⟩|⟨p,q,h1,h2,c1,c2,dp,h⟩;cases r1.int;cases r2.int;refine Mn pins s σ H _ _ v u Q I rx ry {rfl,?_};have e:decide (V.int i=V.int j)=decide (i=j):=by simp
 rw[e];exact hR.now hS h<|bp _;cases r1.str;cases r2.str;refine Mn pins s σ H _ _ v u Q I rx ry {rfl,?_};have e:decide (V.str i=V.str j)=decide (i=j):=by simp
 rw[e];exact hR.now hS h<|bp _;exact GR hu pins s σ H x y v u Q I rx ry {p,q,h1.dt hS r1,h2.dt hS r2,c1,c2,dp,hR.now hS h<|bp _}
theorem iK:mV K (compareOp .NotEq) (Js true):=by
 rintro X hK hu pins s σ H x y v u Q I rx ry ⟨d,e,S,R,r1,r2,hS,h,hR⟩;subst hK;rcases G5 h with⟨i,j,rfl,rfl,h⟩|⟨i,j,rfl,rfl,h⟩|⟨p,q,h1,h2,c1,c2,dp,h⟩;cases r1.int;cases r2.int;refine Mo pins s σ H _ _ v u Q I rx ry {rfl,?_};have e:decide (V.int i=V.int j)=decide (i=j):=by simp
 rw[e];exact hR.now hS h<|bp _;cases r1.str;cases r2.str;refine Mo pins s σ H _ _ v u Q I rx ry {rfl,?_};have e:decide (V.str i=V.str j)=decide (i=j):=by simp
 rw[e];exact hR.now hS h<|bp _;exact GS hu pins s σ H x y v u Q I rx ry {p,q,h1.dt hS r1,h2.dt hS r2,c1,c2,dp,hR.now hS h<|bp _}
noncomputable def bT(kvs:List<|Key×D)(k:Key):Option D:=(kvs.find? λkv=>decide<|kv.1=k).map (·.2)
noncomputable def dput(kvs:List<|Key×D)(k:Key)(v:D):List (Key×D):=if (kvs.any λkv=>decide<|kv.1=k)=true then kvs.map (λkv=>if kv.1=k then (kv.1,v) else kv) else kvs++[(k,v)]
noncomputable def wV(kvs:List<|Key×D)(k:Key):List (Key×D):=kvs.filter λkv=>decide<|kv.1≠k
theorem bR.val(h:bR K H ks vs)(k:Key):(∀d,bT ks k=some d->∃v,fB vs k=some v/\Rv K H d v)/\(bT ks k=none->fB vs k=none):=by induction h with|nil=>(exact{λd e=>(by cases e),λ_=>rfl})|@cons a b l m r t ih=>obtain⟨k',d⟩:=a;obtain⟨k'',v⟩:=b;obtain⟨e0,r⟩:=r;dsimp only at e0;subst e0;unfold bT fB;simp only[yb];by_cases q:k'=k;rw[zx q];exact{λd' e=>{v,rfl,(by cases e;exact r)},λe=>(by cases e)};rw[zy q];exact ih
theorem bR.any(h:bR K H ks vs)(k:Key):(ks.any λkv=>decide<|kv.1=k)=(vs.any λkv=>decide<|kv.1=k):=by induction h with|nil=>rfl|cons r t ih=>rw[yt,yt,ih,r.1]
theorem bR.len(h:bR K H ks vs):vs.length=ks.length:=(yT h).symm
theorem bR.app:∀{ks ls:List (κ×D)}{vs ws:List (κ×V)},bR K H ks vs->bR K H ls ws->bR K H (ks++ls) (vs++ws)|_,_,_,_,.nil,h=>h|_,_,_,_,.cons r t,h=>.cons r<|bR.app t h
theorem bR.Ot(h:bR K H ks vs)(k:Key)(rd:Rv K H d v):bR K H (ks.map λkv=>if kv.1=k then (kv.1,d) else kv) (vs.map λkv=>if kv.1=k then (kv.1,v) else kv):=by induction h with|nil=>exact .nil|@cons a b l m r t ih=>refine .cons ?_ ih;dsimp only;by_cases q:b.1=k;rw[if_pos q,if_pos<|r.1.trans q];exact⟨r.1,rd⟩;rw[if_neg q,if_neg λz=>q<|r.1.symm.trans z];exact r
theorem bR.put(h:bR K H ks vs)(k:Key)(rd:Rv K H d v):bR K H (dput ks k d) (putK vs k v):=by unfold dput putK;rw[h.any k];split;exact h.Ot k rd;exact h.app<|.cons ⟨rfl,rd⟩ .nil
theorem bR.drop(h:bR K H ks vs)(k:Key):bR K H (wV ks k) (oo vs k):=by unfold wV oo;induction h with|nil=>exact .nil|@cons a b l m r t ih=>rw[yz,yz,r.1];by_cases q:b.1=k;rw[if_neg<|by simp[q],if_neg<|by simp[q]];exact ih;rw[if_pos<|by simp[q],if_pos<|by simp[q]];exact .cons r ih
noncomputable def AZ:D->Option Key|.int i=>some (.inl i)|.str z=>some (.inr z)|_=>none
theorem kG(h:AZ d=some k)(r:Rv K H d v):v=kV k:=by cases d with|int i=>(cases h;exact r.int)|str i=>(cases h;exact r.str)|_=>cases h
noncomputable def j9:D->Bool|.ax=>true|.bl _=>true|.int _=>true|.str _=>true|_=>false
noncomputable def lT:D->V|.ax=>.ax|.bl b=>.bl b|.int i=>.int i|.str z=>.str z|.ref a=>.ref a|.ty n=>.ty n|_=>.ax
theorem iZ(h:j9 d=true)(r:Rv K H d v):v=lT d/\gv v=true:=by cases d with|ax=>(cases r.ax;exact⟨rfl,rfl⟩)|bl b=>(cases r.bl;exact⟨rfl,rfl⟩)|int b=>(cases r.int;exact⟨rfl,rfl⟩)|str b=>(cases r.str;exact⟨rfl,rfl⟩)|_=>cases h
theorem fG:∀{ds:List D}{vs:List V},ds.all j9=true->RvAll K H ds vs->vs=ds.map lT/\vs.all gv=true|[],vs,_,r=>by rw[r.nil];exact⟨rfl,rfl⟩|d::ds,vs,h,r=>by obtain⟨y,ys,rfl,r1,r2⟩:=r.cons;rw[yH,zK]at h;obtain⟨e1,f1⟩:=iZ h.1 r1;obtain⟨e2,f2⟩:=fG h.2 r2;refine{by rw[e1,e2];rfl,?_};rw[yH,f1,f2];rfl
def inD(neg:Bool):tV:=λx y S R=>match y with|.str j=>(∃i,x=.str i/\R (.bl<|if neg then !(!(Builtin.Str.occurrences j i 0 j.length 1).isEmpty) else !(Builtin.Str.occurrences j i 0 j.length 1).isEmpty) S)|.kt ds=>(j9 x=true/\ds.all j9=true/\R (.bl<|if neg then !Eh (lT x) (ds.map lT) else Eh (lT x) (ds.map lT)) S)|.tup ds=>(j9 x=true/\ds.all j9=true/\R (.bl<|if neg then !Eh (lT x) (ds.map lT) else Eh (lT x) (ds.map lT)) S)|.ref a=>((∃ds,S a=some (.lst ds)/\j9 x=true/\ds.all j9=true/\R (.bl<|if neg then !Eh (lT x) (ds.map lT) else Eh (lT x) (ds.map lT)) S)\/∃kvs k,S a=some (.cU kvs)/\AZ x=some k/\R (.bl<|if neg then !(bT kvs k).isSome else (bT kvs k).isSome) S)|_=>False
theorem pO(hS:Rs K S H)(e:S a=some (.cU kvs)):∃o,m9 H a (kV k) o/\o.isSome=(bT kvs k).isSome/\∀d,bT kvs k=some d->∃v,o=some v/\Rv K H d v:=by obtain⟨vs,e1,t⟩:=hS.cU e;refine{_,m9.k e1,?_,λd h=>(t.val k).1 d h};cases q:bT kvs k with|none=>rw[(t.val k).2 q];rfl|some d=>obtain⟨v,e2,_⟩:=(t.val k).1 d q;rw[e2];rfl
theorem G6:mV K (compareOp .In) (inD false):=by rintro X hK hu pins s σ H x y v u Q I rx ry ⟨d,e,S,R,r1,r2,hS,h,hR⟩;subst hK;cases e with|str j=>(obtain⟨i,rfl,h⟩:=h;exact D9 pins s σ H x y v u Q I rx ry {i,j,r1.str,r2.str,hR.now hS h<|bp _})|tup ds=>(obtain⟨f1,f2,h⟩:=h;obtain⟨a,xs,rfl,q,t⟩:=r2.tup;obtain⟨e1,g1⟩:=iZ f1 r1;obtain⟨e2,g2⟩:=fG f2 t;subst e1 e2;exact m8 pins s σ H _ _ v u Q I rx ry {a,_,rfl,.inr<|.of q,g1,g2,hR.now hS h<|bp _})|kt ds=>(obtain⟨f1,f2,h⟩:=h;obtain⟨a,xs,rfl,q,t⟩:=r2.kt;obtain⟨e1,g1⟩:=iZ f1 r1;obtain⟨e2,g2⟩:=fG f2 t;subst e1 e2;exact m8 pins s σ H _ _ v u Q I rx ry {a,_,rfl,.inr<|.inr q,g1,g2,hR.now hS h<|bp _})|ref a=>(cases r2.ref;rcases h with⟨ds,e,f1,f2,h⟩|⟨kvs,k,e,hk,h⟩;obtain⟨xs,e1,t⟩:=hS.lst e;obtain⟨e2,g1⟩:=iZ f1 r1;obtain⟨e3,g2⟩:=fG f2 t;subst e2 e3;exact m8 pins s σ H _ _ v u Q I rx ry {a,_,rfl,.inl<|.of e1,g1,g2,hR.now hS h<|bp _};cases kG hk r1;cases ry;obtain⟨o,g,e1,_⟩:=pO (k:=k) hS e;refine Xi (by lia) I g rx λs' I'=>{.bl o.isSome,H,I',rfl,?_};rw[e1];exact hR.now hS h<|bp _)|_=>exact h.elim
theorem SR:mV K (compareOp .NotIn) (inD true):=by rintro X hK hu pins s σ H x y v u Q I rx ry ⟨d,e,S,R,r1,r2,hS,h,hR⟩;subst hK;cases e with|str j=>(obtain⟨i,rfl,h⟩:=h;exact uw pins s σ H x y v u Q I rx ry {i,j,r1.str,r2.str,hR.now hS h<|bp _})|tup ds=>(obtain⟨f1,f2,h⟩:=h;obtain⟨a,xs,rfl,q,t⟩:=r2.tup;obtain⟨e1,g1⟩:=iZ f1 r1;obtain⟨e2,g2⟩:=fG f2 t;subst e1 e2;exact gR pins s σ H _ _ v u Q I rx ry {a,_,rfl,.inr<|.of q,g1,g2,hR.now hS h<|bp _})|kt ds=>(obtain⟨f1,f2,h⟩:=h;obtain⟨a,xs,rfl,q,t⟩:=r2.kt;obtain⟨e1,g1⟩:=iZ f1 r1;obtain⟨e2,g2⟩:=fG f2 t;subst e1 e2;exact gR pins s σ H _ _ v u Q I rx ry {a,_,rfl,.inr<|.inr q,g1,g2,hR.now hS h<|bp _})|ref a=>(cases r2.ref;rcases h with⟨ds,e,f1,f2,h⟩|⟨kvs,k,e,hk,h⟩;obtain⟨xs,e1,t⟩:=hS.lst e;obtain⟨e2,g1⟩:=iZ f1 r1;obtain⟨e3,g2⟩:=fG f2 t;subst e2 e3;exact gR pins s σ H _ _ v u Q I rx ry {a,_,rfl,.inl<|.of e1,g1,g2,hR.now hS h<|bp _};cases kG hk r1;cases ry;obtain⟨o,g,e1,_⟩:=pO (k:=k) hS e;refine J3 (by lia) I g rx λs' I'=>{.bl<|!o.isSome,H,I',rfl,?_};rw[e1];exact hR.now hS h<|bp _)|_=>exact h.elim
def IxD(K:Frag)(r:tV):Prop:=∀X:Cx,X.K=K->X.A.units+64<cLine->R3 X (Lr K r)
inductive VS (ds:List D) (i:Int) (S:aw) (R:KD):Prop where
 |mk (d:D) (h:tJ ds i=some d) (r:R d S):VS ds i S R
inductive X7 (a:Addr) (i:Int) (S:aw) (R:KD):Prop where
 |mk (ds:List D) (d:D) (e:S a=some (.lst ds)) (h:tJ ds i=some d) (r:R d S):X7 a i S R
def Z_:tV:=λx y S R=>match x,y with|.tup ds,.int i=>VS ds i S R|.kt ds,.int i=>VS ds i S R|.iX ds,.int i=>VS ds i S R|.str z,.int i=>∃c,z.length<=sizeLine/\tJ z.cps.toList i=some c/\R (.str ⟨#[c]⟩) S|.ref a,.int i=>X7 a i S R|.ref a,.str z=>∃kvs d,S a=some (.cU kvs)/\bT kvs (.inr z)=some d/\R d S|_,_=>False
theorem RvAll.at{H:Hp}{ds:List D}{xs:List V}{i:Int}{d:D}(h:RvAll K H ds xs)(e:tJ ds i=some d):∃v,tJ xs i=some v/\Rv K H d v:=by unfold tJ at e⊢;rw[h.len];cases q:Gw ds.length i with|none=>(rw[q]at e;cases e)|some j=>rw[q]at e;exact h.get e
theorem X8:IxD K Z_:=by rintro X hK hu value slice pins s σ H x y v u Q I rx ry ⟨d,e,S,R,r1,r2,hS,h,hR⟩ hs;subst hK;cases d with|tup ds=>(cases e with|int i=>(obtain⟨d,e,h⟩:=h;obtain⟨a,xs,rfl,q,t⟩:=r1.tup;obtain⟨z,e1,r⟩:=t.at e;exact Gx value slice pins s σ H _ _ v u Q I rx ry {a,xs,i,z,rfl,r2.int,.of q,e1,hR.now hS h r} hs)|_=>exact h.elim)|kt ds=>(cases e with|int i=>(obtain⟨d,e,h⟩:=h;obtain⟨a,xs,rfl,q,t⟩:=r1.kt;obtain⟨z,e1,r⟩:=t.at e;exact Gx value slice pins s σ H _ _ v u Q I rx ry {a,xs,i,z,rfl,r2.int,.inr q,e1,hR.now hS h r} hs)|_=>exact h.elim)|iX ds=>(cases e with|int i=>(obtain⟨d,e,h⟩:=h;obtain⟨a,xs,rfl,q,t⟩:=r1.iX;obtain⟨z,e1,r⟩:=t.at e;exact Co value slice pins s σ H _ _ v u Q I rx ry {a,xs,i,z,rfl,r2.int,q.sq,e1,hR.now hS h r} hs)|_=>exact h.elim)|str w=>(cases e with|int i=>(obtain⟨c,e0,e,h⟩:=h;exact Oe value slice pins s σ H _ _ v u Q I rx ry {w,i,c,r1.str,r2.int,e0,e,hR.now hS h<|gX _} hs)|_=>exact h.elim)|ref a=>(cases e with|int i=>(obtain⟨ds,d,e,e1,h⟩:=h;obtain⟨xs,e2,t⟩:=hS.lst e;obtain⟨z,e3,r⟩:=t.at e1;exact Co value slice pins s σ H _ _ v u Q I rx ry {a,xs,i,z,r1.ref,r2.int,.of e2,e3,hR.now hS h r} hs)|str w=>(obtain⟨kvs,d,e,e1,h⟩:=h;cases r1.ref;cases r2.str;cases rx;obtain⟨o,g,_,e2⟩:=pO (k:=.inr w) hS e;obtain⟨z,rfl,r⟩:=e2 d e1;exact tail_any (wD I g) PySem.F.slot_dict_getitem.lookup (Ek (by lia) I g ry λw' s' I' p9=>{z,H,I',p9,hR.now hS h r}) hs)|_=>exact h.elim)|_=>exact h.elim
theorem ix(hu:X.A.units+64<cLine)(ha:DE K X a ta)(hb:DE K X b tb)(hs:Ck b:=by exact λ_ _=>rfl)(hK:autoParam (X.K=K) qQJ):DE K X (.Subscript a b pos) (OX Z_ ta tb):=⟨λy=>(R4 (X8 y.cx hK hu) (ha.of y) (hb.of y) hs).mono λ_ _ _ h=>h.op⟩
end
section
variable{K:Frag}{X:Cx}
abbrev SS:=SD->aw->(Option Int->aw->Prop)->KX->Prop
def To(K:Frag)(E:St->XK)(t:SS):TO:=λτ H Q=>∃σ S R Z,g6 K H σ τ/\Rs K S H/\t σ S R Z/\(∀o S' H',R o S'->Rs K S' H'->Kp K H H'->Q o H')/\EF K H Z (E τ)
structure DO(K:Frag)(X:Cx)(e:Option Expr)(t:SS):Prop where
 of:∀{b:Bool}(y:Ev X b),PO y.cx e<|To K y.E t
theorem PO.mono{t t':TO}(h:PO X e t)(i:∀τ H Q,t' τ H Q->t τ H Q):PO X e t':=λpins s τ H Q I q=>h pins s τ H Q I<|i τ H Q q
inductive SU (d:D) (S:aw) (R:Option Int->aw->Prop):Prop where
 |mk (i:Int) (h:d=.int i) (r:R (some i) S):SU d S R
def SV(t:TD):SS:=λσ S R Z=>t σ S (λd S1=>SU d S1 R) Z
theorem o1{t:TD}(h:DE K X e t):DO K X (some e) (SV t):=⟨λy=>(JZ<|h.of y).mono <| by rintro τ H Q ⟨σ,S,R,Z,aC,hS,q,hR,hZ⟩;exact{σ,S,_,Z,aC,hS,q,by rintro d S1 x H1 ⟨i,e,r1⟩ v1 s1 k1;exact by subst e;exact{i,v1.int,hR _ S1 H1 r1 s1 k1},hZ}⟩
noncomputable def wW{α:Type}(xs:List α)(lo hi:Option Int):List α:=(xs.drop<|HT.sIx xs.length 0 lo).take<|HT.sIx xs.length xs.length hi-HT.sIx xs.length 0 lo
theorem RvAll.cut{H:Hp}{ds:List D}{xs:List V}(h:RvAll K H ds xs)(lo hi:Option Int):RvAll K H (wW ds lo hi) (Eg xs lo hi):=by unfold wW Eg;rw[h.len];exact(h.drop _).take _
def X9(te:TD):TD:=λσ S R Z=>te σ S (λx S1=>∃i,x=.int i/\R (.int (-i)) S1) Z
theorem OZ(he:DE K X e te):DE K X (.UnaryOp .USub e pos) (X9 te):=⟨λy=>(RN N5<|he.of y).mono <| by rintro τ H Q ⟨σ,S,R,Z,aC,hS,q,hR,hZ⟩;exact{σ,S,_,Z,aC,hS,q,by rintro d S1 x H1 ⟨i,e,r1⟩ v1 s1 k1;exact by subst e;exact{i,v1.int,hR _ S1 _ H1 r1 (aO _) s1 k1},hZ}⟩
def X_(T:String)(S:aw):D->Prop|.str _=>T ="str"|.ref a=>T ="list"/\∃ds,S a=some (.lst ds)|.iX _=>T ="list"|_=>False
theorem ME{H:Hp}{S:aw}{T:String}{d:D}{v:V}(h:X_ T S d)(hS:Rs K S H)(r:Rv K H d v):VI K T v H:=by cases d with|str z=>rw[r.str];exact h|ref a=>(obtain⟨e,ds,h⟩:=h;obtain⟨xs,e1,_⟩:=hS.lst h;rw[r.ref];exact .inl {e,xs,.of e1})|iX ds=>(obtain⟨a,xs,rfl,q,_⟩:=r.iX;exact .inl ⟨h,xs,q.sq⟩)|_=>exact h.elim
abbrev EG:=D->List D->aw->KD->Prop
def Lm(K:Frag)(r:EG):V->List V->Hp->VK->Prop:=λx xs H Q=>∃d ds S R,Rv K H d x/\RvAll K H ds xs/\Rs K S H/\r d ds S R/\Cn K H R Q
def KN(K:Frag)(id:String)(r:EG):Prop:=∀X:Cx,X.K=K->Od X id (Lm K r)
def dBM(T:String)(r:EG)(to:TD)(t:g7):TD:=λσ S R Z=>to σ S (λx S1=>X_ T S1 x/\t σ S1 (λds S2=>r x ds S2 R) Z) Z
def Ya(T:String)(r:EG)(to:TD):TD:=λσ S R Z=>to σ S (λx S1=>X_ T S1 x/\r x [] S1 R) Z
theorem bm{o e:Expr}{es:List Expr}{T id:String}{name:Str}{r:EG}{to:TD}{t:g7}{apos aQ:Pos}(pa:PlainAttrs T)(slot:Slot T name id)(Oj:typeOf (.builtin id)=pure (.type "method_descriptor"))(hm:KN K id r)(ho:DE K X o to)(ha:DA K X (e::es) t) (lJ:autoParam (attributeBase o name X.env (eval o X.env)=eval o X.env) qQJ) (Ol:autoParam (((backTo aQ<|starEach (e::es) X.env).all (λx=>!x.1)&&(backToKw aQ<|keywordEach [] X.env).all (λx=>x.1.isSome)&&decide ((e::es).length+([]:List Keyword).length+(if ([]:List Keyword).isEmpty then 0 else 1)<30))=true) qQJ) (p_:autoParam ((apos.endLine==aQ.line)=true) qQJ) (hs:autoParam (starEach (e::es) X.env=(false,eval e X.env)::starEach es X.env) qQJ) (Aw:autoParam ((backTo aQ<|starEach es X.env).any (·.1)=false) qQJ) (hK:autoParam (X.K=K) qQJ): DE K X (.Call (.Attribute o name apos) (e::es) [] aQ) (dBM T r to t):=by
 subst hK
 exact⟨λy=>(R6 (X:=y.cx) pa slot Oj (hm _ rfl) (ho.of y) (ha.of y) lJ Ol p_ hs Aw).mono <| by rintro τ H Q ⟨σ,S,R,Z,aC,hS,q,hR,hZ⟩;exact
  ⟨σ,S,_,Z,aC,hS,q,by rintro d S1 x H1 ⟨h1,r1⟩ v1 s1 k1;exact⟨ME h1 s1 v1,σ,S1,_,Z,aC.ts k1,s1,r1,λds S2 xs H2 r2 v2 s2 k2=>⟨d,ds,S2,R,Rv.ts k2 _ v1,v2,s2,r2,hR.kp<|k1.trans k2⟩,hZ.kp k1⟩,hZ⟩⟩
theorem bm0{o:Expr}{T id:String}{name:Str}{r:EG}{to:TD}{apos aQ:Pos}(pa:PlainAttrs T)(slot:Slot T name id)(Oj:typeOf (.builtin id)=pure (.type "method_descriptor"))(hm:KN K id r)(ho:DE K X o to) (lJ:autoParam (attributeBase o name X.env (eval o X.env)=eval o X.env) qQJ) (p_:autoParam ((apos.endLine==aQ.line)=true) qQJ) (hK:autoParam (X.K=K) qQJ): DE K X (.Call (.Attribute o name apos) [] [] aQ) (Ya T r to):=by
 subst hK
 exact⟨λy=>(Oi (X:=y.cx) pa slot Oj (hm _ rfl) (ho.of y) lJ p_).mono <| by rintro τ H Q ⟨σ,S,R,Z,aC,hS,q,hR,hZ⟩;exact
  ⟨σ,S,_,Z,aC,hS,q,by rintro d S1 x H1 ⟨h1,r1⟩ v1 s1 k1;exact⟨ME h1 s1 v1,d,[],S1,R,v1,bz,s1,r1,hR.kp k1⟩,hZ⟩⟩
theorem RvAll.one(h:RvAll K H [d] xs):∃v,xs=[v]/\Rv K H d v:=by obtain⟨y,ys,rfl,h1,h2⟩:=h.cons;rw[h2.nil];exact⟨y,rfl,h1⟩
inductive SW (x:D) (ds:List D) (S:aw) (R:KD):Prop where
 |mk (a:Addr) (es:List D) (d:D) (e1:x=.ref a) (e2:ds=[d]) (e3:S a=some (.lst es)) (e4:es.length<sizeLine) (r:R .ax<|S.set a<|.lst<|es++[d]):SW x ds S R
def KO:EG:=λx ds S R=>SW x ds S R
theorem cY:KN K "list.append" KO:=by rintro X hK pins s σ H x xs v us Q I rx rs ⟨d,ds,S,R,r1,r2,hS,⟨a,es,y,e1,e2,e3,hl,h⟩,hR⟩;subst e1 e2;obtain⟨w0,rfl,q2⟩:=r2.one;obtain⟨zs,e4,t⟩:=hS.lst e3;exact Ej pins s σ H x _ v us Q I rx rs {a,zs,w0,r1.ref,rfl,e4,by rw[t.len];exact hl,hR.put hS e3 h gW<|t.app<|aS q2 bz}
def Yb:EG:=λx ds S R=>∃a es d,x=.ref a/\ds=[]/\S a=some (.lst es)/\es[es.length-1]?=some d/\R d (S.set a<|.lst es.dropLast)
theorem SX:KN K "list.pop" Yb:=by rintro X hK pins s σ H x xs v us Q I rx rs ⟨d,ds,S,R,r1,r2,hS,⟨a,es,y,e1,e2,e3,hl,h⟩,hR⟩;subst e1 e2;obtain⟨zs,e4,t⟩:=hS.lst e3;obtain⟨w,e5,r⟩:=t.get hl;exact Om pins s σ H x _ v us Q I rx rs {a,zs,w,r1.ref,r2.nil,e4,by rw[t.len];exact e5,hR.put hS e3 h r t.dropLast}
def O0:EG:=λx ds S R=>∃a es i k d,x=.ref a/\ds=[.int i]/\S a=some (.lst es)/\-(2^63)<=i/\i<2^63/\seqIndex? i es.length=some k/\es[k]?=some d/\R d (S.set a<|.lst<|es.eraseIdx k)
theorem Cz:KN K "list.pop" O0:=by rintro X hK pins s σ H x xs v us Q I rx rs ⟨d,ds,S,R,r1,r2,hS,⟨a,es,i,k,y,e1,e2,e3,h1,h2,h3,h4,h⟩,hR⟩;subst e1 e2;obtain⟨w0,rfl,q2⟩:=r2.one;obtain⟨zs,e4,t⟩:=hS.lst e3;obtain⟨w,e5,r⟩:=t.get h4;exact GA pins s σ H x _ v us Q I rx rs {a,zs,i,k,w,r1.ref,by rw[q2.int],e4,h1,h2,by rw[t.len];exact h3,e5,hR.put hS e3 h r<|t.erase k}
def KP:EG:=λx ds S R=>∃(es:List D)(d:D)(j:Nat),ds=[d]/\wg S x es/\j9 d=true/\es.all j9=true/\(∃z,es[j]?=some z/\eqV (lT z) (lT d)=true)/\(∀m u,m<j->es[m]?=some u->eqV (lT u) (lT d)=false)/\R (.int j) S
theorem G7:KN K "list.index" KP:=by rintro X hK pins s σ H x xs v us Q I rx rs ⟨d,ds,S,R,r1,r2,hS,⟨es,y,j,e2,e3,f1,f2,⟨z,e4,e5⟩,h4,h⟩,hR⟩;subst hK e2;obtain⟨w0,rfl,q2⟩:=r2.one;obtain⟨a,zs,rfl,q,t⟩:=e3.at hS r1;obtain⟨g1,g2⟩:=iZ f1 q2;obtain⟨g3,g4⟩:=fG f2 t;subst g1 g3;refine ED pins s σ H _ _ v us Q I rx rs {a,_,_,lT z,j,rfl,rfl,q,g2,g4,by rw[zw,e4];rfl,e5,λm u hm e=>?_,hR.now hS h<|aO _};rw[zw]at e;cases q2:es[m]? with|none=>(rw[q2]at e;cases e)|some u'=>rw[q2]at e;cases e;exact h4 m u' hm q2
def KQ:EG:=λx ds S R=>∃z y,x=.str z/\ds=[.str y]/\R (.bl<|PySem.Txt.startswith z y) S
theorem G8:KN K "str.startswith" KQ:=by rintro X hK pins s σ H x xs v us Q I rx rs ⟨d,ds,S,R,r1,r2,hS,⟨z,y,e1,e2,h⟩,hR⟩;subst e1 e2;obtain⟨w0,rfl,q2⟩:=r2.one;exact sE pins s σ H _ _ v us Q I rx rs {z,y,r1.str,by rw[q2.str],hR.now hS h<|bp _}
def SY(S:aw)(R:KD):D->Prop|.str z=>z.length<=sizeLine/\R (.int z.length) S|.tup es=>R (.int es.length) S|.kt es=>R (.int es.length) S|.iX es=>R (.int es.length) S|.ref a=>(∃es,S a=some (.lst es)/\R (.int es.length) S)\/∃kvs,S a=some (.cU kvs)/\R (.int kvs.length) S|_=>False
inductive S_ (ds:List D) (S:aw) (R:KD):Prop where
 |mk (x:D) (h:ds=[x]) (r:SY S R x):S_ ds S R
def Yc:List D->aw->KD->Prop:=λds S R=>S_ ds S R
theorem aZ:fF K (.builtin "len") Yc:=by rintro X hK hc pins s σ H xs us Q I rx ⟨ds,S,R,r,hS,⟨x,e,h⟩,hR⟩;subst hK e;obtain⟨w,rfl,r'⟩:=r.one;cases x with|str z=>(cases r'.str;exact iT pins s σ H _ us Q I rx {_,_,rfl,⟨h.1,rfl⟩,hR.now hS h.2<|aO _})|tup es=>(obtain⟨a,xs,rfl,q,t⟩:=r'.tup;exact iT pins s σ H _ us Q I rx {_,_,rfl,.inr {xs,.of q,t.len.symm},hR.now hS h<|aO _})|kt es=>(obtain⟨a,xs,rfl,q,t⟩:=r'.kt;exact iT pins s σ H _ us Q I rx {_,_,rfl,.inr {xs,.inr q,t.len.symm},hR.now hS h<|aO _})|iX es=>(obtain⟨a,xs,rfl,q,t⟩:=r'.iX;exact iT pins s σ H _ us Q I rx {_,_,rfl,.inl ⟨xs,q.sq,t.len.symm⟩,hR.now hS h<|aO _})|ref a=>(cases r'.ref;rcases h with⟨es,e,h⟩|⟨kvs,e,h⟩;obtain⟨xs,e1,t⟩:=hS.lst e;exact iT pins s σ H _ us Q I rx {_,_,rfl,.inl {xs,.of e1,t.len.symm},hR.now hS h<|aO _};obtain⟨xs,e1,t⟩:=hS.cU e;exact Eo pins s σ H _ us Q I rx {a,xs,rfl,e1,by rw[t.len];exact hR.now hS h<|aO _})|_=>exact h.elim
def O3(S:aw):D->Kd->Prop|.ax,k=>k=.ax|.bl _,k=>k=.bl|.int _,k=>k=.int|.str _,k=>k=.str|.ref a,k=>(k=.lst/\∃ds,S a=some (.lst ds))\/(k=.cU/\∃ds,S a=some (.cU ds))|.tup _,k=>k=.tup|_,_=>False
theorem Tc(h:O3 S d k)(hS:Rs K S H)(r:Rv K H d v):ql H v k:=by cases d with|ax=>(cases h;rw[r.ax];exact .ax)|bl b=>(cases h;rw[r.bl];exact .bl b)|int b=>(cases h;rw[r.int];exact .int b)|str b=>(cases h;rw[r.str];exact .str b)|tup b=>(cases h;obtain⟨a,xs,rfl,q,_⟩:=r.tup;exact .tup q)|ref a=>(rw[r.ref];rcases h with⟨rfl,ds,h⟩|⟨rfl,ds,h⟩;obtain⟨xs,e,_⟩:=hS.lst h;exact .lst e;obtain⟨xs,e,_⟩:=hS.cU h;exact .cU e)|_=>exact h.elim
inductive Td (ds:List D) (S:aw) (R:KD):Prop where
 |mk (x:D) (n:String) (k:Kd) (g:Kd->Bool) (e:ds=[x,.ty n]) (a:wJ n=some g) (b:O3 S x k) (r:R (.bl<|g k) S):Td ds S R
def Yd:List D->aw->KD->Prop:=λds S R=>Td ds S R
theorem RvAll.two(h:RvAll K H [d,e] xs):∃v u,xs=[v,u]/\Rv K H d v/\Rv K H e u:=by obtain⟨y,ys,rfl,h1,h2⟩:=h.cons;obtain⟨u,rfl,h3⟩:=h2.one;exact⟨y,u,rfl,h1,h3⟩
theorem cH:fF K (.builtin "isinstance") Yd:=by rintro X hK hc pins s σ H xs us Q I rx ⟨ds,S,R,r,hS,⟨x,n,k,g,e,h1,h2,h⟩,hR⟩;subst hK e;obtain⟨v,u,rfl,r1,r2⟩:=r.two;rw[r2.ty]at rx;exact GQ pins s σ H _ us Q I rx {v,n,k,g,rfl,h1,Tc h2 hS r1,hR.now hS h<|bp _}
inductive Te (ds:List D) (S:aw) (f:List Bool->Bool) (R:KD):Prop where
 |mk (x:D) (bs:List Bool) (e:ds=[x]) (h:wg S x<|bs.map D.bl) (r:R (.bl<|f bs) S):Te ds S f R
def Tf:List D->aw->KD->Prop:=λds S R=>Te ds S (λbs=>bs.all id) R
theorem j_:fF K (.builtin "all") Tf:=by rintro X hK hc pins s σ H xs us Q I rx ⟨ds,S,R,r,hS,⟨x,bs,e,h1,h⟩,hR⟩;subst hK e;obtain⟨v,rfl,r1⟩:=r.one;obtain⟨a,zs,rfl,q,t⟩:=h1.at hS r1;rw[t.bools]at q;exact sx hc pins s σ H _ us Q I rx {a,bs,rfl,q,hR.now hS h<|bp _}
def Ye:List D->aw->KD->Prop:=λds S R=>∃(x:D)(bs:List Bool),ds=[x]/\wg S x (bs.map D.bl)/\R (.bl<|bs.any id) S
theorem Th:fF K (.builtin "any") Ye:=by rintro X hK hc pins s σ H xs us Q I rx ⟨ds,S,R,r,hS,⟨x,bs,e,h1,h⟩,hR⟩;subst hK e;obtain⟨v,rfl,r1⟩:=r.one;obtain⟨a,zs,rfl,q,t⟩:=h1.at hS r1;rw[t.bools]at q;exact sy hc pins s σ H _ us Q I rx {a,bs,rfl,q,hR.now hS h<|bp _}
def intD:List D->aw->KD->Prop:=λds S R=>(∃i,ds=[.int i]/\R (.int i) S)\/∃k,ds=[.bl k]/\R (.int<|if k then 1 else 0) S
theorem MF:fF K (.type "int") intD:=by rintro X hK hc pins s σ H xs us Q I rx ⟨ds,S,R,r,hS,h,hR⟩;rcases h with⟨i,rfl,h⟩|⟨k,rfl,h⟩;obtain⟨v,rfl,r1⟩:=r.one;exact tw pins s σ H _ us Q I rx<|.inl {i,by rw[r1.int],hR.now hS h<|aO _};obtain⟨v,rfl,r1⟩:=r.one;exact tw pins s σ H _ us Q I rx<|.inr {k,by rw[r1.bl],hR.now hS h<|aO _}
def Tj:List D->aw->KD->Prop:=λds S R=>∃x es,ds=[x]/\(wg S x es\/x=.tup es)/\∀p,S p=none->R (.ref p) (S.set p<|.lst es)
theorem O4:fF K (.type "list") Tj:=by rintro X hK hc pins s σ H xs us Q I rx ⟨ds,S,R,r,hS,⟨x,es,e,h1,h⟩,hR⟩;subst hK e;obtain⟨v,rfl,r1⟩:=r.one;rcases h1 with h1|rfl;obtain⟨a,zs,rfl,q,t⟩:=h1.at hS r1;exact lI pins s σ H _ us Q I rx {a,zs,rfl,.inl q,λp hp=>hR.new hS hp (h p) t};obtain⟨a,zs,rfl,q,t⟩:=r1.tup;exact lI pins s σ H _ us Q I rx {a,zs,rfl,.inr<|.of q,λp hp=>hR.new hS hp (h p) t}
inductive Tp (ds:List D) (S:aw) (R:KD):Prop where
 |mk (x:D) (es:List D) (e:ds=[x]) (h:wg S x es\/x=.tup es) (r:R (.tup es) S):Tp ds S R
def O5:List D->aw->KD->Prop:=λds S R=>Tp ds S R
theorem fH:fF K (.type "tuple") O5:=by rintro X hK hc pins s σ H xs us Q I rx ⟨ds,S,R,r,hS,⟨x,es,e,h1,h⟩,hR⟩;subst hK e;obtain⟨v,rfl,r1⟩:=r.one;rcases h1 with h1|rfl;obtain⟨a,zs,rfl,q,t⟩:=h1.at hS r1;exact j6 pins s σ H _ us Q I rx {a,zs,rfl,.inl {q,λp hp=>hR.X0 hS hp h t}};obtain⟨a,zs,rfl,q,t⟩:=r1.tup;exact j6 pins s σ H _ us Q I rx {a,zs,rfl,.inr {.of q,hR.now hS h<|nh q t}}
def minD(f:Int->Int->Bool):List D->aw->KD->Prop:=λds S R=>∃i j,ds=[.int i,.int j]/\R (.int<|if f j i then j else i) S
theorem Tq:fF K (.builtin "min") (minD λa b=>decide<|a<b):=by rintro X hK hc pins s σ H xs us Q I rx ⟨ds,S,R,r,hS,⟨i,j,e,h⟩,hR⟩;subst e;obtain⟨v,u,rfl,r1,r2⟩:=r.two;refine Eb hc pins s σ H _ us Q I rx {i,j,by rw[r1.int,r2.int],?_};have:=hR.now hS h<|aO _;simpa using this
theorem MG:fF K (.builtin "max") (minD λa b=>decide<|b<a):=by rintro X hK hc pins s σ H xs us Q I rx ⟨ds,S,R,r,hS,⟨i,j,e,h⟩,hR⟩;subst e;obtain⟨v,u,rfl,r1,r2⟩:=r.two;refine Ea hc pins s σ H _ us Q I rx {i,j,by rw[r1.int,r2.int],?_};have:=hR.now hS h<|aO _;simpa using this
end
abbrev jE:=List D->aw->KD->KX->Prop
def ph(K:Frag)(sp:jE):Sp:=λvs H Q e=>∃ds S R Z,RvAll K H ds vs/\Rs K S H/\sp ds S R Z/\Cn K H R Q/\EF K H Z e
section
variable{K:Frag}{X:Cx}{k:Nat}{f C:Addr}{fd:FuncData}{ps:List Str}{sp:Sp}{oZ:List V}{ds:List Value}{x m:Str}{p pos apos:Pos}{e o:Expr}{es:List Expr}{b:Bool}{y:Ev X b}
theorem uH(F:bG X.prog X.w X.K X.mg X.base (eU X.prog X.w X.mg) k f fd ps sp)(hr:bO k X.A)(hb:Binds X.K fd ps ds)(hd:Vals oZ ds) (I:Inv y.cx p2 σ H s) (r:Vals vs us) (h:sp (vs++oZ) H Q<|y.E σ):wpAny (model X.prog X.w) X.A (call (.ref f) us) (EP y.cx p2 σ Q) y.xe s:=by
 have r2:Vals (vs++oZ) (us++ds):=r.append hd;have hl:(us++ds).length=ps.length:=by rw[<-r2.length];exact F.len _ _ _ _ h
 refine wpAny_call<|yS (F.run X.A X.stack s H {us,[]} (us++ds) (vs++oZ) Q (y.E σ) hr I.RX (hb s us I.oi hl) r2 h) λres s' hq=>?_;cases res with|error e=>exact y.ok.call p2 σ H s e s' I hq|ok fl=>cases fl with|ret u=>exact I.after hq|next=>exact False.elim hq|brk=>exact False.elim hq|cont=>exact False.elim hq
theorem G9{t:TA}(F:bG X.prog X.w X.K X.mg X.base (eU X.prog X.w X.mg) k f fd ps sp)(hr:bO k X.A)(hg:Gl X x)(hm:X.mg x=some (.ref f))(hk:keepIn X.K (.ref f)=true)(hb:Binds X.K fd ps ds)(hd:Vals oZ ds) (ha:PA y.cx (e::es) t) (o_:(x==("__debug__": Str))=false) (he:starEach (e::es) X.env=(false,eval e X.env)::starEach es X.env) (dr:(backTo pos<|starEach es X.env).any (·.1)=false): PE y.cx (.Call (.Name x p) (e::es) [] pos) (λσ H Q=>t σ H λvs H1=>sp (vs++oZ) H1 Q<|y.E σ):=by intro p2 s σ H Q I h;refine wpAny_Call_Name_kw<|pK I hg hm ?_ o_;refine callWith_K (h₀:=X.base) I.ok.mod.QM hk (bf (ha pos p2 s σ H _ I h) λus s1 ⟨vs,H1,I1,r,q⟩=>{I1.oi,?_}) he dr;exact uH F hr hb hd I1 r q
theorem G_{pl:Sem Bool}{ta:TE}{t:TA}(he:PE y.cx o ta)(c:p7 X.K C)(hm:Meth X.K C m f)(F:bG X.prog X.w X.K X.mg X.base (eU X.prog X.w X.mg) k f fd ps sp)(hr:bO k X.A)(hb:Binds X.K fd ps ds)(hd:Vals oZ ds)(ha:PA y.cx (e::es) t)
  (wq:starEach (e::es) X.env=(false,eval e X.env)::starEach es X.env) (dr:(backTo pos<|starEach es X.env).any (·.1)=false)
  (ht:eval (.Call (.Attribute o m apos) (e::es) [] pos) X.env=(do
   let ov <-eval o X.env
   standAt apos.atName
   let (f,first) <-holding [ov] (getMethod ov m pl)
   callWith pos f first (backTo pos<|starEach (e::es) X.env) (backToKw pos<|keywordEach [] X.env))):
  PE y.cx (.Call (.Attribute o m apos) (e::es) [] pos) (λσ H Q=>ta σ H λx H1=>∃a dx fs,x=.ref a/\H1 a=some (.ins C dx fs)/\fs.lookup m=none/\t σ H1 λvs H2=>sp (x::(vs++oZ)) H2 Q<|y.E σ):=by
 intro p2 s σ H Q I h
 refine methodCall_KW (pl:=pl) (bf (he p2 s σ H _ I h) λu s1 ⟨x,H1,I1,rx,a,dx,fs,ex,ea,l,q⟩=>?_) ht
 subst ex
 obtain rfl:u=Value.ref a:=rx
 refine p8 I1 ea c hm l ?_
 refine callWith_K (first:=[.ref a]) (h₀:=X.base) I.ok.mod.QM hm.kp (bf (ha pos p2 s1 σ H1 _ I1 q) λus s2 ⟨vs,H2,I2,r,q2⟩=>{I2.oi,?_}) wq dr
 exact uH (us:=.ref a::us) (vs:=.ref a::vs) F hr hb hd I2 (.cons rfl r) q2
theorem EH(he:PE y.cx o ta)(c:p7 X.K C)(hm:Meth X.K C m f)(F:bG X.prog X.w X.K X.mg X.base (eU X.prog X.w X.mg) k f fd ps sp)(hr:bO k X.A)(hb:Binds X.K fd ps ds)(hd:Vals oZ ds)
  (ht:eval (.Call (.Attribute o m apos) [] [] pos) X.env=(do
   let ov <-eval o X.env
   standAt apos.atName
   let (f,first) <-holding [ov] (getMethod ov m pl)
   callWith pos f first (backTo pos<|starEach [] X.env) (backToKw pos<|keywordEach [] X.env))):
  PE y.cx (.Call (.Attribute o m apos) [] [] pos) (λσ H Q=>ta σ H λx H1=>∃a dx fs,x=.ref a/\H1 a=some (.ins C dx fs)/\fs.lookup m=none/\sp (x::oZ) H1 Q (y.E σ)):=by
 intro p2 s σ H Q I h
 refine methodCall_KW (pl:=pl) (bf (he p2 s σ H _ I h) λu s1 ⟨x,H1,I1,rx,a,dx,fs,ex,ea,l,q⟩=>?_) ht
 subst ex
 obtain rfl:u=Value.ref a:=rx
 refine p8 I1 ea c hm l ?_
 exact PySem.W.callWith_K0 (first:=[.ref a]) I1.oi hm.kp<|uH (us:=[.ref a]) (vs:=[.ref a]) F hr hb hd I1 (.cons rfl .nil) q
theorem EI(M:Mk X.K C f)(F:bG X.prog X.w X.K X.mg X.base (eU X.prog X.w X.mg) k f fd ps sp)(hr:bO (k+1) X.A)(hb:Binds X.K fd ps ds)(hd:Vals oZ ds) (I:Inv y.cx p2 σ H s) (r:Vals vs us) (h:∀x dx,H x=none->H dx=none->dx≠x->sp (.ref x::(vs++oZ)) (upd (upd H dx<|.own x) x<|.ins C dx []) (λv H2=>v=.ax/\Q (.ref x) H2) (y.E σ)): wpAny (model X.prog X.w) X.A (call (.ref C) us) (EP y.cx p2 σ Q) y.xe s:=by
 have hq:=h (s.heap.objs.size+1) s.heap.objs.size (I.aM.fresh<|yN _) (I.aM.fresh<|zp _)<|zu<|yI _;have I2:=Inv.made (C:=C) I;have r2:Vals (V.ref (s.heap.objs.size+1)::(vs++oZ)) (Value.ref (s.heap.objs.size+1)::(us++ds)):=.cons rfl<|r.append hd;have hl:(Value.ref (s.heap.objs.size+1)::us++ds).length=ps.length:=by have e:=r2.length;rw[F.len _ _ _ _ hq]at e;exact e.symm
 refine wpAny_call<|Gu (f:=f) I.oi M.makes M.init (beq_iff_eq.mp M.fn)<|yS (F.run _ X.stack _ _ {Value.ref (s.heap.objs.size+1)::us,[]} (Value.ref (s.heap.objs.size+1)::(us++ds)) _ _ (y.E σ) (hr.make C us []) (I2.RX.make C us []) (hb _ (Value.ref (s.heap.objs.size+1)::us) I2.oi hl) r2 hq) λr s' CA=>?_;cases r with|error e=>exact y.ok.call p2 σ _ _ e s' I2 CA|ok fl=>cases fl with|ret u=>(obtain⟨v,H',I3,rv,ev,q3⟩:=I2.after CA;subst ev;exact{rv,{V.ref<|s.heap.objs.size+1,H',I3,rfl,q3}})|next=>exact False.elim CA|brk=>exact False.elim CA|cont=>exact False.elim CA
theorem Ha{t:TA}(M:Mk X.K C f)(F:bG X.prog X.w X.K X.mg X.base (eU X.prog X.w X.mg) k f fd ps sp)(hr:bO (k+1) X.A)(hg:Gl X x)(hm:X.mg x=some (.ref C))(hb:Binds X.K fd ps ds)(hd:Vals oZ ds) (ha:PA y.cx (e::es) t) (o_:(x==("__debug__": Str))=false) (he:starEach (e::es) X.env=(false,eval e X.env)::starEach es X.env) (dr:(backTo pos<|starEach es X.env).any (·.1)=false): PE y.cx (.Call (.Name x p) (e::es) [] pos) (λσ H Q=>t σ H λvs H1=>∀x dx,H1 x=none->H1 dx=none->dx≠x->sp (.ref x::(vs++oZ)) (upd (upd H1 dx<|.own x) x<|.ins C dx []) (λv H2=>v=.ax/\Q (.ref x) H2) (y.E σ)):=by intro p2 s σ H Q I h;refine wpAny_Call_Name_kw<|pK I hg hm ?_ o_;refine callWith_K (h₀:=X.base) I.ok.mod.QM M.kp (bf (ha pos p2 s σ H _ I h) λus s1 ⟨vs,H1,I1,r,q⟩=>{I1.oi,?_}) he dr;exact EI M F hr hb hd I1 r q
end
section
variable{K:Frag}{X:Cx}{k:Nat}{f C:Addr}{fd:FuncData}{ps:List Str}{sp:jE}{wX:List D}{oZ:List V}{ds:List Value}{x m:Str}{p pos apos:Pos}{e o:Expr}{es:List Expr}
structure QY(K:Frag)(wX:List D)(oZ:List V)(ds:List Value):Prop where
 v:Vals oZ ds
 d:∀H,RvAll K H wX oZ
theorem d0:QY K [] [] []:={.nil,λ_=>bz}
theorem d1:QY K [.ax] [.ax] [.none]:={.cons rfl .nil,λ_=>aS gW bz}
def MH(sp:jE)(wX:List D)(t:g7):TD:=λσ S R Z=>t σ S (λds S1=>sp (ds++wX) S1 R Z) Z
theorem cf{t:g7}(F:bG X.prog X.w K X.mg X.base (eU X.prog X.w X.mg) k f fd ps<|ph K sp)(hr:bO k X.A)(hm:X.mg x=some (.ref f))(hk:keepIn K (.ref f)=true)(hb:Binds K fd ps ds)(hd:QY K wX oZ ds)(ha:DA K X (e::es) t) (hg:autoParam (Gl X x) qQJ) (o_:autoParam ((x==("__debug__": Str))=false) qQZ) (he:autoParam (starEach (e::es) X.env=(false,eval e X.env)::starEach es X.env) qQJ) (dr:autoParam ((backTo pos<|starEach es X.env).any (·.1)=false) qQJ) (hK:autoParam (X.K=K) qQJ): DE K X (.Call (.Name x p) (e::es) [] pos) (MH sp wX t):=by
 subst hK
 exact⟨λy=>(G9 F hr hg hm hk hb hd.v (ha.of y) o_ he dr).mono <| by rintro τ H Q ⟨σ,S,R,Z,aC,hS,q,hR,hZ⟩;exact
  ⟨σ,S,_,Z,aC,hS,q,λes S1 xs H1 r1 v1 s1 k1=>⟨es++wX,S1,R,Z,v1.app<|hd.d _,s1,r1,hR.kp k1,hZ.kp k1⟩,hZ⟩⟩
inductive MeR (C:Addr) (m:Str) (x:D) (S:aw) (p:Prop):Prop where
 |mk (a:Addr) (fs:List<|Str×D) (e1:x=.ref a) (e2:S a=some (.ins C fs)) (e3:fs.lookup m=none) (r:p):MeR C m x S p
def CB(C:Addr)(m:Str)(sp:jE)(wX:List D)(ta:TD)(t:g7):TD:=λσ S R Z=>ta σ S (λx S1=>MeR C m x S1<|t σ S1 (λds S2=>sp (x::(ds++wX)) S2 R Z) Z) Z
theorem Yf{t:g7}(he:DE K X o ta)(c:p7 K C)(hm:Meth K C m f)(F:bG X.prog X.w K X.mg X.base (eU X.prog X.w X.mg) k f fd ps<|ph K sp)(hr:bO k X.A)(hb:Binds K fd ps ds)(hd:QY K wX oZ ds)(ha:DA K X (e::es) t)
  (wq:autoParam (starEach (e::es) X.env=(false,eval e X.env)::starEach es X.env) qQJ) (dr:autoParam ((backTo pos<|starEach es X.env).any (·.1)=false) qQJ)
  (ht:autoParam (eval (.Call (.Attribute o m apos) (e::es) [] pos) X.env=(do
   let ov <-eval o X.env
   standAt apos.atName
   let (f,first) <-holding [ov] (getMethod ov m pl)
   callWith pos f first (backTo pos<|starEach (e::es) X.env) (backToKw pos<|keywordEach [] X.env))) qQJ) (hK:autoParam (X.K=K) qQJ):
  DE K X (.Call (.Attribute o m apos) (e::es) [] pos) (CB C m sp wX ta t):=by
 subst hK
 exact⟨λy=>(G_ (he.of y) c hm F hr hb hd.v (ha.of y) wq dr ht).mono <| by rintro τ H Q ⟨σ,S,R,Z,aC,hS,q,hR,hZ⟩;exact
  ⟨σ,S,_,Z,aC,hS,q,by
   rintro d S1 x H1 ⟨a,fs,e1,e2,e3,r1⟩ v1 s1 k1
   subst e1
   obtain⟨dx,vs,e4,t4⟩:=s1.ins e2
   exact{a,dx,vs,v1.ref,e4,(t4.look m).2 e3,σ,S1,_,Z,aC.ts k1,s1,r1,λes S2 xs H2 r2 v2 s2 k2=>{_,S2,R,Z,aS (Rv.ts k2 _ v1)<|v2.app<|hd.d _,s2,r2,hR.kp<|k1.trans k2,hZ.kp<|k1.trans k2},hZ.kp k1},hZ⟩⟩
theorem Yg(he:DE K X o ta)(c:p7 K C)(hm:Meth K C m f)(F:bG X.prog X.w K X.mg X.base (eU X.prog X.w X.mg) k f fd ps<|ph K sp)(hr:bO k X.A)(hb:Binds K fd ps ds)(hd:QY K wX oZ ds)
  (ht:autoParam (eval (.Call (.Attribute o m apos) [] [] pos) X.env=(do
   let ov <-eval o X.env
   standAt apos.atName
   let (f,first) <-holding [ov] (getMethod ov m pl)
   callWith pos f first (backTo pos<|starEach [] X.env) (backToKw pos<|keywordEach [] X.env))) qQJ) (hK:autoParam (X.K=K) qQJ):
  DE K X (.Call (.Attribute o m apos) [] [] pos) (CB C m sp wX ta KL):=by
 subst hK
 exact⟨λy=>(EH (he.of y) c hm F hr hb hd.v ht).mono <| by rintro τ H Q ⟨σ,S,R,Z,aC,hS,q,hR,hZ⟩;exact
  ⟨σ,S,_,Z,aC,hS,q,by
   rintro d S1 x H1 ⟨a,fs,e1,e2,e3,r1⟩ v1 s1 k1
   subst e1
   obtain⟨dx,vs,e4,t4⟩:=s1.ins e2
   exact{a,dx,vs,v1.ref,e4,(t4.look m).2 e3,_,S1,R,Z,aS v1<|hd.d _,s1,r1,hR.kp k1,hZ.kp k1},hZ⟩⟩
def Tr(C:Addr)(sp:jE)(wX:List D)(t:g7):TD:=λσ S R Z=>t σ S (λds S1=>∀x,S1 x=none->sp (.ref x::(ds++wX)) (S1.set x<|.ins C []) (λd S2=>d=.ax/\R (.ref x) S2) Z) Z
theorem mk{t:g7}(M:Mk K C f)(F:bG X.prog X.w K X.mg X.base (eU X.prog X.w X.mg) k f fd ps<|ph K sp)(hr:bO (k+1) X.A)(hm:X.mg x=some (.ref C))(hb:Binds K fd ps ds)(hd:QY K wX oZ ds)(ha:DA K X (e::es) t) (hg:autoParam (Gl X x) qQJ) (o_:autoParam ((x==("__debug__": Str))=false) qQZ) (he:autoParam (starEach (e::es) X.env=(false,eval e X.env)::starEach es X.env) qQJ) (dr:autoParam ((backTo pos<|starEach es X.env).any (·.1)=false) qQJ) (hK:autoParam (X.K=K) qQJ): DE K X (.Call (.Name x p) (e::es) [] pos) (Tr C sp wX t):=by
 subst hK
 exact⟨λy=>(Ha M F hr hg hm hb hd.v (ha.of y) o_ he dr).mono <| by rintro τ H Q ⟨σ,S,R,Z,aC,hS,q,hR,hZ⟩;exact
  ⟨σ,S,_,Z,aC,hS,q,λes S1 xs H1 r1 v1 s1 k1 x dx hx hdx ne=>by
   have KR:upd H1 dx (.own x) x=none:=by rw[aq ne.symm];exact hx
   have k2:Kp X.K H1 (upd (upd H1 dx<|.own x) x<|.ins C dx []):=(Kp.new hdx).trans<|Kp.new KR
   exact{_,_,_,Z,aS (gY x)<|RvAll.ts k2 _<|v1.app<|hd.d _,(s1.grow hdx).new (c:=.ins C []) KR {dx,[],aD,.nil},r1 x<|s1.fresh hx,by rintro d S2 v H2 ⟨e,r2⟩ v2 s2 k3;exact by subst e;exact{v2.ax,hR _ _ _ _ r2 (gY x) s2<|(k1.trans k2).trans k3},(hZ.kp k1).kp k2},hZ⟩⟩
inductive FlR (C:Addr) (f:Str) (x:D) (S:aw) (R:KD):Prop where
 |mk (a:Addr) (fs:List<|Str×D) (d:D) (e1:x=.ref a) (e2:S a=some (.ins C fs)) (e3:fs.lookup f=some d) (r:R d S):FlR C f x S R
def Yh(C:Addr)(f:Str)(ta:TD):TD:=λσ S R Z=>ta σ S (λx S1=>FlR C f x S1 R) Z
theorem fl{f:Str}{ta:TD}(c:p7 K C)(n:iU K C f)(he:DE K X e ta)(hb:autoParam (attributeBase e f X.env (eval e X.env)=eval e X.env) qQJ)(hK:autoParam (X.K=K) qQJ):DE K X (.Attribute e f pos) (Yh C f ta):=by
 subst hK
 exact⟨λy=>(N8 (X:=y.cx) (he.of y) hb).mono <| by rintro τ H Q ⟨σ,S,R,Z,aC,hS,q,hR,hZ⟩;exact
  ⟨σ,S,_,Z,aC,hS,q,by
   rintro d S1 x H1 ⟨a,fs,y,e1,e2,e3,r1⟩ v1 s1 k1
   subst e1
   obtain⟨dx,vs,e4,t4⟩:=s1.ins e2
   obtain⟨v,e5,r5⟩:=(t4.look f).1 y e3
   exact{a,C,dx,vs,v,v1.ref,e4,c,n,e5,(hR.kp k1).now s1 r1 r5},hZ⟩⟩
end
structure tW where
 nx:SD->aw->Prop
 rt:KD
 bk:SD->aw->Prop:=λ_ _=>False
 ct:SD->aw->Prop:=λ_ _=>False
abbrev lA:=tW->SD->aw->(SD->KX)->Prop
def MI(K:Frag)(H:Hp)(R:SD->aw->Prop)(Q:St->Hp->Prop):Prop:=∀σ S τ H',R σ S->g6 K H' σ τ->Rs K S H'->Kp K H H'->Q τ H'
structure VT(K:Frag)(H:Hp)(De:tW)(Dv:Ends):Prop where
 nx:MI K H De.nx Dv.nx
 rt:Cn K H De.rt Dv.rt
 bk:MI K H De.bk Dv.bk
 ct:MI K H De.ct Dv.ct
def wY(K:Frag)(H:Hp)(Z:SD->KX)(E:St->XK):Prop:=∀σ τ C S H',Z σ C S->g6 K H' σ τ->Rs K S H'->Kp K H H'->E τ (.ref C) none H'
section
variable{K:Frag}{H H1:Hp}{De:tW}{Dv:Ends}{Z:SD->KX}{E:St->XK}{σ:SD}{τ:St}{S:aw}
theorem MI.kp(h:MI K H R Q)(k:Kp K H H1):MI K H1 R Q:=λσ S τ H' r a b c=>h σ S τ H' r a b<|k.trans c
theorem VT.kp(h:VT K H De Dv)(k:Kp K H H1):VT K H1 De Dv:={h.nx.kp k,h.rt.kp k,h.bk.kp k,h.ct.kp k}
theorem wY.kp(h:wY K H Z E)(k:Kp K H H1):wY K H1 Z E:=λσ τ C S H' r a b c=>h σ τ C S H' r a b<|k.trans c
theorem wY.at(h:wY K H Z E)(r:g6 K H σ τ):EF K H (Z σ) (E τ):=λC S H' z s k=>h σ τ C S H' z (r.ts k) s k
theorem wY.on(h:wY K H Z E)(k:Kp K H H1)(r:g6 K H1 σ τ):EF K H1 (Z σ) (E τ):=(h.kp k).at r
end
def Tl(K:Frag)(E:St->XK)(t:lA):TS:=λDv τ H=>∃σ S De Z,g6 K H σ τ/\Rs K S H/\t De σ S Z/\VT K H De Dv/\wY K H Z E
structure DS(K:Frag)(X:Cx)(b:Bool)(st:Stmt)(t:lA):Prop where
 of:∀y:Ev X b,PS y.cx st<|Tl K y.E t
structure FU(K:Frag)(X:Cx)(b:Bool)(st:List Stmt)(t:lA):Prop where
 of:∀y:Ev X b,B9 y.cx st<|Tl K y.E t
theorem PS.mono{t t':TS}(h:PS X e t)(i:∀D τ H,t' D τ H->t D τ H):PS X e t':=λpins s τ H D I q=>h pins s τ H D I<|i D τ H q
theorem B9.mono{t t':TS}(h:B9 X e t)(i:∀D τ H,t' D τ H->t D τ H):B9 X e t':=λpins s τ H D I q=>h pins s τ H D I<|i D τ H q
section
variable{K:Frag}{X:Cx}{b:Bool}{pos:Pos}
def Ts:lA:=λDe σ S _=>De.nx σ S
def Yi(t u:lA):lA:=λDe σ S Z=>t {De with nx:=λaJ S'=>u De aJ S' Z} σ S Z
theorem s0:FU K X b [] Ts:=⟨λy=>(JI (X:=y.cx)).mono <| by rintro D τ H ⟨σ,S,De,Z,aC,hS,q,hD,hZ⟩;exact hD.nx _ _ _ _ q aC hS<|.refl _⟩
theorem sc{st:Stmt}{r:List Stmt}{t u:lA}(h1:DS K X b st t)(h2:FU K X b r u):FU K X b (st::r) (Yi t u):=
 ⟨λy=>(Gf (h1.of y)<|h2.of y).mono <| by rintro D τ H ⟨σ,S,De,Z,aC,hS,q,hD,hZ⟩;exact
  ⟨σ,S,_,Z,aC,hS,q,⟨λwd S1 Yj H1 r1 a b c=>⟨wd,S1,De,Z,a,b,r1,hD.kp c,hZ.kp c⟩,hD.rt,hD.bk,hD.ct⟩,hZ⟩⟩
theorem s1{st:Stmt}{t:lA}(h:DS K X b st t):FU K X b [st] t:=⟨λy=>JJ<|h.of y⟩
def Tu(t:TD):lA:=λDe σ S Z=>t σ S (λ_ S1=>De.nx σ S1)<|Z σ
theorem se{t:TD}(h:DE K X e t)(hs:autoParam (swapsWith e none pos.line X.env=pure false) qQJ):DS K X b (.Expr e pos) (Tu t):=⟨λy=>(JK (X:=y.cx) (h.of y) hs).mono <| by rintro D τ H ⟨σ,S,De,Z,aC,hS,q,hD,hZ⟩;exact{σ,S,_,_,aC,hS,q,λd S1 v H1 r1 _ s1 k1=>hD.nx _ _ _ _ r1 (aC.ts k1) s1 k1,hZ.at aC}⟩
def Yk(t:TD):lA:=λDe σ S Z=>t σ S De.rt<|Z σ
theorem sr{t:TD}(h:DE K X e t):DS K X b (.Return (some e) pos) (Yk t):=⟨λy=>(NM<|h.of y).mono <| by rintro D τ H ⟨σ,S,De,Z,aC,hS,q,hD,hZ⟩;exact{σ,S,_,_,aC,hS,q,hD.rt,hZ.at aC}⟩
def Tv:lA:=λDe _ S _=>De.rt .ax S
theorem srn:DS K X b (.Return none pos) Tv:=⟨λy=>(JL (X:=y.cx)).mono <| by rintro D τ H ⟨σ,S,De,Z,aC,hS,q,hD,hZ⟩;exact hD.rt.now hS q gW⟩
def dIf(c:j8)(t u:lA):lA:=λDe σ S Z=>c σ S (λb S1=>if b=true then t De σ S1 Z else u De σ S1 Z)<|Z σ
theorem si{t u:lA}(hc:DT K X c tc)(ha:FU K X b a t)(hb:FU K X b a' u):DS K X b (.If c a a' pos) (dIf tc t u):=
 ⟨λy=>(RD (hc.of y) (ha.of y)<|hb.of y).mono <| by rintro D τ H ⟨σ,S,De,Z,aC,hS,q,hD,hZ⟩;exact
  ⟨σ,S,_,_,aC,hS,q,λc S1 H1 r1 s1 k1=>by
   cases c with
   |true=>rw[if_pos rfl]at r1⊢;exact{σ,S1,De,Z,aC.ts k1,s1,r1,hD.kp k1,hZ.kp k1}
   |false=>rw[if_neg zd]at r1⊢;exact{σ,S1,De,Z,aC.ts k1,s1,r1,hD.kp k1,hZ.kp k1},hZ.at aC⟩⟩
abbrev wZ:=D->SD->aw->(SD->aw->Prop)->Prop
def Tg(K:Frag)(g:wZ):TG:=λv τ H Q=>∃d σ S R,Rv K H d v/\g6 K H σ τ/\Rs K S H/\g d σ S R/\MI K H R Q
structure DG(K:Frag)(X:Cx)(e:Expr)(g:wZ):Prop where
 of:∀Y:Cx,Y.K=X.K->Y.N=X.N->Y.env=X.env->Y.fn=X.fn->Y.calm=X.calm->PG Y e (Tg K g)
theorem PG.mono{t t':TG}(h:PG X e t)(i:∀v τ H Q,t' v τ H Q->t v τ H Q):PG X e t':=λpins s τ H v u Q I r q=>h pins s τ H v u Q I r<|i v τ H Q q
def VU(i:Nat):wZ:=λd σ S R=>R (σ.set i<|some d) S
theorem gn(hN:X.N.Nodup)(hi:autoParam (X.N[i]?=some x) qQJ)(hx:autoParam (Loc X.env.scope x) qJK)(hf:autoParam (X.fn x=true\/X.env.scope.names.lookup x=some .local) qQ8):DG K X (.Name x pos) (VU i):=⟨λY _ e2 e3 e4 _=>(lF (X:=Y) (by rw[e2];exact hN) (by rw[e2];exact hi) (by rw[e3];exact hx)<|by rw[e3,e4];exact hf).mono <| by rintro v τ H Q ⟨d,σ,S,R,rv,aC,hS,q,hR⟩;exact hR _ S _ H q (aC.set i rv) hS<|.refl _⟩
abbrev EJ:=List D->SD->aw->(SD->aw->Prop)->Prop
def Tgs(K:Frag)(g:EJ):Mi:=λvs τ H Q=>∃ds σ S R,RvAll K H ds vs/\g6 K H σ τ/\Rs K S H/\g ds σ S R/\MI K H R Q
structure VV(K:Frag)(X:Cx)(es:List Expr)(g:EJ):Prop where
 of:∀Y:Cx,Y.K=X.K->Y.N=X.N->Y.env=X.env->Y.fn=X.fn->Y.calm=X.calm->Mj Y es (Tgs K g)
theorem Mj.mono{t t':Mi}(h:Mj X e t)(i:∀v τ H Q,t' v τ H Q->t v τ H Q):Mj X e t':=λpins s τ H v u Q I r q=>h pins s τ H v u Q I r<|i v τ H Q q
def MJ:EJ:=λds σ S R=>ds=[]/\R σ S
def A1(g:wZ)(u:EJ):EJ:=λds σ S R=>∃d r,ds=d::r/\g d σ S λwd S1=>u r wd S1 R
theorem g0:VV K X [] MJ:=⟨λY _ _ _ _ _=>(Cb (X:=Y)).mono <| by rintro vs τ H Q ⟨ds,σ,S,R,rv,aC,hS,⟨e,q⟩,hR⟩;exact by subst e;exact{rv.nil,hR _ _ _ _ q aC hS<|.refl _}⟩
theorem gc(h1:DG K X e g)(h2:VV K X es u)(hs:autoParam (∀env:Env,(assignEach (e::es) env).map (·.2)=assign e env::(assignEach es env).map (·.2)) qQ0):VV K X (e::es) (A1 g u):=⟨λY a b c d f=>(pY (h1.of Y a b c d f) (h2.of Y a b c d f)<|hs _).mono <| by rintro vs τ H Q ⟨ds,σ,S,R,rv,aC,hS,⟨d,r,e,q⟩,hR⟩;subst e;obtain⟨y,ys,e1,r1,r2⟩:=rv.cons;exact{y,ys,e1,d,σ,S,_,r1,aC,hS,q,λwd S1 Yj H1 q1 a b c=>{r,wd,S1,R,RvAll.ts c _ r2,a,b,q1,hR.kp c}}⟩
def MK(n:Nat)(g:EJ):wZ:=λd σ S R=>∃ds,d=.tup ds/\ds.length=n/\g ds σ S R
theorem gt(h:VV K X es g)(hn:autoParam (∀env:Env,(assignEach es env).length=n) qQ0)(wq:autoParam (∀env:Env,(assignEach es env).findIdx? (·.1)=none) qQ0)(hK:autoParam (X.K=K) qQJ)(hc:autoParam (X.calm=true) qQJ):DG K X (.Tuple es j pos) (MK n g):=⟨λY a b c d f=>(Gg (X:=Y) (by rw[f];exact hc) (h.of Y a b c d f) (hn _)<|wq _).mono <| by rintro v τ H Q ⟨d,σ,S,R,rv,aC,hS,⟨ds,e,hl,q⟩,hR⟩;subst e;obtain⟨p,xs,e1,e2,t⟩:=rv.tup;exact{p,xs,e1,.of e2,by rw[t.len];exact hl,ds,σ,S,R,t,aC,hS,q,hR}⟩
def Tw(i:Nat)(t:TD):lA:=λDe σ S Z=>t σ S (λd S1=>De.nx (σ.set i<|some d) S1)<|Z σ
theorem cC{t:TD}(hN:X.N.Nodup)(h:DE K X e t)(hi:autoParam (X.N[i]?=some x) qQJ)(hx:autoParam (Loc X.env.scope x) qJK)(hs:autoParam (swapsWith e (some<|.Name x pos') pos.line X.env=pure false) qQJ) (hf:autoParam (X.fn x=true\/X.env.scope.names.lookup x=some .local) qQ8):DS K X b (.Assign [.Name x pos'] e pos) (Tw i t):=⟨λy=>(NQ (X:=y.cx) (i:=i) hN hi hx (h.of y) hs hf).mono <| by rintro D τ H ⟨σ,S,De,Z,aC,hS,q,hD,hZ⟩;exact{σ,S,_,_,aC,hS,q,λd S1 v H1 r1 v1 s1 k1=>hD.nx _ _ _ _ r1 ((aC.ts k1).set i v1) s1 k1,hZ.at aC}⟩
def Yl(t:TD)(g:wZ):lA:=λDe σ S Z=>t σ S (λd S1=>g d σ S1 De.nx)<|Z σ
theorem sa{t:TD}(h:DE K X e t)(hg:DG K X tg g)(hs:autoParam (swapsWithSole [tg] e pos.line X.env=pure false) qQJ)(hw:autoParam (swappedStores [tg] e X.env=pure none) qQJ)(h1:autoParam ((assignEach [tg] X.env).map (·.2)=[assign tg X.env]) qQJ): DS K X b (.Assign [tg] e pos) (Yl t g):=⟨λy=>(Gi (X:=y.cx) (h.of y) (hg.of _ rfl rfl rfl rfl rfl) hs hw h1).mono <| by rintro D τ H ⟨σ,S,De,Z,aC,hS,q,hD,hZ⟩;exact{σ,S,_,_,aC,hS,q,λd S1 v H1 r1 v1 s1 k1=>{d,σ,S1,_,v1,aC.ts k1,s1,r1,hD.nx.kp k1},hZ.at aC}⟩
def Ym(td ty tv:TD):lA:=λDe σ S Z=>tv σ S (λv S1=>td σ S1 (λx S2=>ty σ S2 (λy S3=>∃a kvs k,x=.ref a/\S3 a=some (.cU kvs)/\AZ y=some k/\kvs.length<sizeLine/\De.nx σ (S3.set a<|.cU<|dput kvs k v))<|Z σ)<|Z σ)<|Z σ
theorem sd{o i value:Expr}{td ty tv:TD}{pos':Pos}(hu:X.A.units+64<cLine)(ho:DE K X o td)(hi:DE K X i ty)(hv:DE K X value tv)(hs:autoParam (swapsWith value (some<|.Subscript o i pos') pos.line X.env=pure false) qQJ):DS K X b (.Assign [.Subscript o i pos'] value pos) (Ym td ty tv):=
 ⟨λy=>(J4 (X:=y.cx) (by show X.A.units+1<cLine;lia) (ho.of y) (hi.of y) (hv.of y) hs).mono <| by rintro D τ H ⟨σ,S,De,Z,aC,hS,q,hD,hZ⟩;exact
  ⟨σ,S,_,_,aC,hS,q,λv S1 vv H1 r1 v1 s1 k1=>⟨σ,S1,_,_,aC.ts k1,s1,r1,λx S2 xv H2 r2 v2 s2 k2=>⟨σ,S2,_,_,aC.ts<|k1.trans k2,s2,r2,by
   rintro y S3 yv H3 ⟨a,kvs,k,e1,e2,e3,hl,r3⟩ v3 s3 k3
   subst e1
   obtain⟨vs,e4,t⟩:=s3.cU e2
   have kk:=s3.gZ (o:=.dK<|putK vs k vv) e2
   refine{a,_,(Rv.ts k3 _ v2).ref,by rw[kG e3 v3];exact GC.k e4<|by rw[t.len];exact hl,?_}
   exact hD.nx _ _ _ _ r3 (aC.ts<|((k1.trans k2).trans k3).trans kk) (s3.put (c:=.cU _) e2 {_,aD,(t.put k<|Rv.ts (k2.trans k3) _ v1).ts kk})<|((k1.trans k2).trans k3).trans kk,hZ.on (k1.trans k2)<|aC.ts<|k1.trans k2⟩,hZ.on k1<|aC.ts k1⟩,hZ.at aC⟩⟩
end
section
variable{X:Cx}{pins:List (Addr×Obj)}{σ:St}{H:Hp}{s:Shared}{A:Around}{E:Value->Shared->Prop}{a:Addr}{kvs:List (Key×V)}{k:Key}{u:Value}
theorem O6(I:Inv X pins σ H s)(e:H a=some (.dK kvs))(ry:RelV (kV k) u)(rz:RelV z r)(hl:kvs.length<sizeLine) (h1:∀v w' s',fB kvs k=some v->Inv X pins σ H s'->RelV v w'->Q w' s') (h2:fB kvs k=none->∀s',Inv X pins σ (upd H a<|.dK<|putK kvs k z) s'->Q r s'): wpAny (model X.prog X.w) A (call (.builtin "dict.setdefault") [.ref a,u,r]) Q E s:=by
 obtain⟨zz,hd,vs,rel,dd⟩:=Cq I.aM e;have hp:=oq kvs k z;refine call_meetsIn PySem.F.slot_dict_setdefault dd.typeIs PySem.F.entry_dict_setdefault (PySem.F.args_dict_setdefault_3 _ _ _) (PySem.kt_meets_setdefault (aG X.prog X.w) a (iV ry) hd r) {vs,dd,by rw[<-rel.length];exact zz,λw' hw=>?_,λhn h' Ms hs=>?_};cases q:fB kvs k with|none=>(have:=fA.none_of (o:=valueAt vs k) (by rw[<-q];exact rel.val k);rw[this]at hw;cases hw)|some v=>obtain⟨w2,A2,rw2⟩:=fA.some_of (v:=v) (o:=valueAt vs k) (by rw[<-q];exact rel.val k);rw[A2]at hw;cases hw;exact h1 v _ _ q (I.tok _) rw2
 cases q:fB kvs k with|some v=>(obtain⟨w2,A2,rw2⟩:=fA.some_of (v:=v) (o:=valueAt vs k) (by rw[<-q];exact rel.val k);rw[A2]at hn;cases hn)|none=>have he:∃q,h'.get? a=some q:=(by obtain⟨q,_,_,hq,_⟩:=Ms;exact⟨q,hq⟩);exact h2 q _<|uA I (by rw[e];exact True.intro) hs he<|Ay (by lia) hd (rel.put k rz) Ms
end
section
variable{X:Cx}{o e f:Expr}{apos aQ:Pos}{td ty tx:TE}
def Tx(td ty tx:TE):TE:=λσ H Q=>td σ H λx H1=>∃a,x=.ref a/\QQ H1 a/\ty σ H1 λy H2=>tx σ H2 λz H3=>∃kvs k,H3 a=some (.dK kvs)/\y=kV k/\kvs.length<sizeLine/\(∀v,fB kvs k=some v->Q v H3)/\(fB kvs k=none->Q z (upd H3 a<|.dK<|putK kvs k z))
theorem Hb(ho:PE X o td)(he:PE X e ty)(hf:PE X f tx)(m:M2 X o "setdefault" apos e f aQ):PE X (.Call (.Attribute o "setdefault" apos) [e,f] [] aQ) (Tx td ty tx):=by intro pins s σ H Q I h;refine wpAny_Call_method m.base m.FP m.line PySem.F.plainAttrs_dict PySem.F.slot_dict_setdefault PySem.F.type_dict_setdefault<|bf (ho pins s σ H _ I h) λu s1 ⟨x,H1,I1,rx,a,ex,d,q1⟩=>?_;subst ex;obtain rfl:u=Value.ref a:=rx;obtain⟨t1,t2,_⟩:=uB I1 d;refine{t1,t2,?_};rw[m.trees];refine Calls.callWith_builtin rfl<|Calls.evalArgs_plain<|yE<|bf (he pins s1 σ H1 _ I1 q1) λiv s2 ⟨y,H2,I2,ry,q2⟩=>yE<|bf (hf pins s2 σ H2 _ I2 q2) λfv s3 ⟨z,H3,I3,rz,kvs,k,ea,ey,hl,q3,q4⟩=>Calls.spliced_nil ?_;subst ey;exact O6 I3 ea ry rz hl (λv w' s4 l I4 p9=>{v,H3,I4,p9,q3 v l}) λl s4 I4=>{z,_,I4,rz,q4 l}
end
section
variable{K:Frag}{X:Cx}{b:Bool}{o e f:Expr}{apos aQ pos:Pos}{td ty tx:TD}
theorem uI(hS:Rs K S H)(e:S a=some (.cU kvs)):QQ H a:=by obtain⟨vs,e1,_⟩:=hS.cU e;exact .inl {vs,.inl e1}
def Tz(td ty:TD):TD:=λσ S R Z=>td σ S (λx S1=>∃a kvs,x=.ref a/\S1 a=some (.cU kvs)/\ty σ S1 (λy S2=>∃kvs k,S2 a=some (.cU kvs)/\AZ y=some k/\R ((bT kvs k).getD .ax) S2) Z) Z
theorem Hc(hS:Rs K S H)(e:S a=some (.cU kvs))(r:Rv K H d v):∃o,m9 H a (kV k) o/\Rv K H ((bT kvs k).getD d) (o.getD v):=by obtain⟨o,g,h1,h2⟩:=pO (k:=k) hS e;refine{o,g,?_};cases q:bT kvs k with|none=>(rw[q]at h1;cases o with|none=>exact r|some _=>cases h1)|some d'=>obtain⟨v',rfl,r'⟩:=h2 d' q;exact r'
theorem mg1(hu:X.A.units+64<cLine)(ho:DE K X o td)(he:DE K X e ty)(m:autoParam (M1 X o "get" apos e aQ) qQ4):DE K X (.Call (.Attribute o "get" apos) [e] [] aQ) (Tz td ty):=
 ⟨λy=>(GG (X:=y.cx) (by show X.A.units+1<cLine;lia) (ho.of y) (he.of y) ⟨m.base,m.FP,m.line,m.trees⟩).mono <| by rintro τ H Q ⟨σ,S,R,Z,aC,hS,q,hR,hZ⟩;exact
  ⟨σ,S,_,Z,aC,hS,q,by
   rintro x S1 xv H1 ⟨a,kvs,e1,e2,r1⟩ v1 s1 k1
   subst e1
   exact⟨a,v1.ref,uI s1 e2,σ,S1,_,Z,aC.ts k1,s1,r1,by
    rintro y S2 yv H2 ⟨kvs,k,e3,e4,r2⟩ v2 s2 k2
    obtain⟨o,g,r⟩:=Hc (k:=k) s2 e3 gW
    exact{o,by rw[kG e4 v2];exact g,(hR.kp<|k1.trans k2).now s2 r2 r},hZ.kp k1⟩,hZ⟩⟩
def TB(td ty tx:TD):TD:=λσ S R Z=>td σ S (λx S1=>∃a kvs,x=.ref a/\S1 a=some (.cU kvs)/\ty σ S1 (λy S2=>tx σ S2 (λz S3=>∃kvs k,S3 a=some (.cU kvs)/\AZ y=some k/\R ((bT kvs k).getD z) S3) Z) Z) Z
theorem mg2(hu:X.A.units+64<cLine)(ho:DE K X o td)(he:DE K X e ty)(hf:DE K X f tx)(m:autoParam (M2 X o "get" apos e f aQ) qQ4):DE K X (.Call (.Attribute o "get" apos) [e,f] [] aQ) (TB td ty tx):=
 ⟨λy=>(GH (X:=y.cx) (by show X.A.units+1<cLine;lia) (ho.of y) (he.of y) (hf.of y) ⟨m.base,m.FP,m.line,m.trees⟩).mono <| by rintro τ H Q ⟨σ,S,R,Z,aC,hS,q,hR,hZ⟩;exact
  ⟨σ,S,_,Z,aC,hS,q,by
   rintro x S1 xv H1 ⟨a,kvs,e1,e2,r1⟩ v1 s1 k1
   subst e1
   exact⟨a,v1.ref,uI s1 e2,σ,S1,_,Z,aC.ts k1,s1,r1,λy S2 yv H2 r2 v2 s2 k2=>⟨σ,S2,_,Z,aC.ts<|k1.trans k2,s2,r2,by
    rintro z S3 zv H3 ⟨kvs,k,e3,e4,r3⟩ v3 s3 k3
    obtain⟨o,g,r⟩:=Hc (k:=k) s3 e3 v3
    exact{o,by rw[kG e4 v2];exact g,(hR.kp<|(k1.trans k2).trans k3).now s3 r3 r},hZ.kp<|k1.trans k2⟩,hZ.kp k1⟩,hZ⟩⟩
def TC(td ty:TD):TD:=λσ S R Z=>td σ S (λx S1=>∃a kvs,x=.ref a/\S1 a=some (.cU kvs)/\ty σ S1 (λy S2=>∃kvs k d,S2 a=some (.cU kvs)/\AZ y=some k/\bT kvs k=some d/\R d (S2.set a<|.cU<|wV kvs k)) Z) Z
theorem mp1(ho:DE K X o td)(he:DE K X e ty)(m:autoParam (M1 X o "pop" apos e aQ) qQ4):DE K X (.Call (.Attribute o "pop" apos) [e] [] aQ) (TC td ty):=
 ⟨λy=>(GI (X:=y.cx) (ho.of y) (he.of y) ⟨m.base,m.FP,m.line,m.trees⟩).mono <| by rintro τ H Q ⟨σ,S,R,Z,aC,hS,q,hR,hZ⟩;exact
  ⟨σ,S,_,Z,aC,hS,q,by
   rintro x S1 xv H1 ⟨a,kvs,e1,e2,r1⟩ v1 s1 k1
   subst e1
   exact⟨a,v1.ref,uI s1 e2,σ,S1,_,Z,aC.ts k1,s1,r1,by
    rintro y S2 yv H2 ⟨kvs,k,d,e3,e4,e5,r2⟩ v2 s2 k2
    obtain⟨vs,e6,t⟩:=s2.cU e3
    obtain⟨v,e7,r7⟩:=(t.val k).1 d e5
    have kk:=s2.gZ (o:=.dK<|oo vs k) e3
    exact{vs,k,v,e6,kG e4 v2,e7,hR _ _ _ _ r2 (Rv.ts kk _ r7) (s2.put (c:=.cU _) e3 {_,aD,(t.drop k).ts kk})<|(k1.trans k2).trans kk},hZ.kp k1⟩,hZ⟩⟩
def TF(td ty tx:TD):TD:=λσ S R Z=>td σ S (λx S1=>∃a kvs,x=.ref a/\S1 a=some (.cU kvs)/\ty σ S1 (λy S2=>tx σ S2 (λz S3=>∃kvs k,S3 a=some (.cU kvs)/\AZ y=some k/\kvs.length<sizeLine/\(∀d,bT kvs k=some d->R d S3)/\(bT kvs k=none->R z (S3.set a<|.cU<|dput kvs k z))) Z) Z) Z
theorem ms2(ho:DE K X o td)(he:DE K X e ty)(hf:DE K X f tx)(m:autoParam (M2 X o "setdefault" apos e f aQ) qQ4):DE K X (.Call (.Attribute o "setdefault" apos) [e,f] [] aQ) (TF td ty tx):=
 ⟨λy=>(Hb (X:=y.cx) (ho.of y) (he.of y) (hf.of y) ⟨m.base,m.FP,m.line,m.trees⟩).mono <| by rintro τ H Q ⟨σ,S,R,Z,aC,hS,q,hR,hZ⟩;exact
  ⟨σ,S,_,Z,aC,hS,q,by
   rintro x S1 xv H1 ⟨a,kvs,e1,e2,r1⟩ v1 s1 k1
   subst e1
   exact⟨a,v1.ref,uI s1 e2,σ,S1,_,Z,aC.ts k1,s1,r1,λy S2 yv H2 r2 v2 s2 k2=>⟨σ,S2,_,Z,aC.ts<|k1.trans k2,s2,r2,by
    rintro z S3 zv H3 ⟨kvs,k,e3,e4,hl,r3,r4⟩ v3 s3 k3
    obtain⟨vs,e6,t⟩:=s3.cU e3
    have kk:=s3.gZ (o:=.dK<|putK vs k zv) e3
    have hR3:=hR.kp<|(k1.trans k2).trans k3
    refine{vs,k,e6,kG e4<|Rv.ts k3 _ v2,by rw[t.len];exact hl,λv hv=>?_,λhn=>?_}
    ·cases q:bT kvs k with
     |none=>rw[(t.val k).2 q]at hv;cases hv
     |some d =>
      obtain⟨v',e7,r7⟩:=(t.val k).1 d q
      rw[e7]at hv;cases hv
      exact hR3.now s3 (r3 d q) r7
    ·cases q:bT kvs k with
     |some d=>obtain⟨v',e7,r7⟩:=(t.val k).1 d q;rw[e7]at hn;cases hn
     |none=>exact hR3 _ _ _ _ (r4 q) (Rv.ts kk _ v3) (s3.put (c:=.cU _) e3 {_,aD,(t.put k v3).ts kk}) kk,hZ.kp<|k1.trans k2⟩,hZ.kp k1⟩,hZ⟩⟩
noncomputable def A3(f:Str)(d:D):List (Str×D)->List (Str×D)|[]=>[(f,d)]| (g,x)::r=>if g=f then (g,d)::r else (g,x)::A3 f d r
theorem bR.A3{H:Hp}{f:Str}{d:D}{v:V}(rd:Rv K H d v):∀{ks:List (Str×D)}{vs:List (Str×V)},bR K H ks vs->bR K H (A3 f d ks) (putF f v vs)|_,_,.nil=>.cons ⟨rfl,rd⟩ .nil| (g,x)::r,(g',y)::r',.cons h t=>by obtain⟨e,h⟩:=h;dsimp only at e;subst e;show bR K H (if g=f then (g,d)::r else (g,x)::L2.A3 f d r) (if g=f then (g,v)::r' else (g,y)::putF f v r');by_cases q:g=f;rw[if_pos q,if_pos q];exact .cons ⟨rfl,rd⟩ t;rw[if_neg q,if_neg q];exact .cons ⟨rfl,h⟩<|bR.A3 rd t
def TH(C:Addr)(f:Str)(ta tv:TD):lA:=λDe σ S Z=>tv σ S (λy S1=>ta σ S1 (λx S2=>∃a fs,x=.ref a/\S2 a=some (.ins C fs)/\fs.length<1000/\De.nx σ (S2.set a<|.ins C<|A3 f y fs))<|Z σ)<|Z σ
theorem sf{C:Addr}{f:Str}{value:Expr}{ta tv:TD}{pos':Pos}(c:p7 K C)(n:iU K C f)(ha:DE K X o ta)(hv:DE K X value tv)(hs:autoParam (swapsWith value (some<|.Attribute o f pos') pos.line X.env=pure false) qQJ)(hK:autoParam (X.K=K) qQJ): DS K X b (.Assign [.Attribute o f pos'] value pos) (TH C f ta tv):=by
 subst hK
 exact⟨λy=>(N9 (X:=y.cx) (ha.of y) (hv.of y) hs).mono <| by rintro D τ H ⟨σ,S,De,Z,aC,hS,q,hD,hZ⟩;exact
  ⟨σ,S,_,_,aC,hS,q,λy S1 yv H1 r1 v1 s1 k1=>⟨σ,S1,_,_,aC.ts k1,s1,r1,by
   rintro x S2 xv H2 ⟨a,fs,e1,e2,hl,r2⟩ v2 s2 k2
   subst e1
   obtain⟨dx,vs,e4,t4⟩:=s2.ins e2
   have kk:=s2.gZ (o:=.ins C dx<|putF f yv vs) e2
   exact{a,C,dx,vs,v2.ref,e4,c,n,by rw[t4.len];exact hl,hD.nx _ _ _ _ r2 (aC.ts<|(k1.trans k2).trans kk) (s2.put (c:=.ins C _) e2 {dx,_,aD,(bR.A3 (Rv.ts k2 _ v1) t4).ts kk})<|(k1.trans k2).trans kk},hZ.on k1<|aC.ts k1⟩,hZ.at aC⟩⟩
def O7(C:Addr)(t:g7):lA:=λ_ σ S Z=>t σ S (λds S1=>ds.length<=sizeLine/\Z σ C S1)<|Z σ
end
section
variable{K:Frag}{X:Cx}{C:Addr}{x:Str}{e:Expr}{es:List Expr}{np aQ pos:Pos}
theorem EK{t:TA}{y:Ev X true}(hc:X.calm=true)(c:XC X.K C)(hg:Gl X x)(hm:X.mg x=some (.ref C))(ha:PA y.cx (e::es) t)(o_:(x==("__debug__": Str))=false) (he:starEach (e::es) X.env=(false,eval e X.env)::starEach es X.env) (dr:(backTo aQ<|starEach es X.env).any (·.1)=false): PS y.cx (.Raise (some<|.Call (.Name x np) (e::es) [] aQ) none pos) (λ_ σ H=>t σ H λvs H1=>vs.length<=sizeLine/\y.E σ (.ref C) none H1):=by intro pins s σ H D I h;obtain⟨bm,N,nm,q,bs,hdct,sn,sub,ab,col,dd,k0,k1,k2,k3,k5,mN,hC,hN,VN,T⟩:=c.at I.mod.QM;have lJ:bm.contains (.type "BaseException")=true:=T.hasType (by decide);refine wpAny_Raise_call_subT (C:=C) (nm:=nm) (q:=q) (N:=N) (bs:=bs) (bm:=bm) (hdct:=hdct) (sn:=sn) (sub:=sub) (ab:=ab) (col:=col) (dd:=dd) (k0:=k0) (k1:=k1) (k2:=k2) (k3:=k3) (k5:=k5) PySem.F.excBase_ValueError (mN:=mN) lJ (I.ok.hd hc) (by show((backTo aQ<|starEach (e::es) X.env).any (·.1))=false;rw[he];show(false||(backTo aQ<|starEach es X.env).any (·.1))=false;rw[dr];rfl) VN<|pK I hg hm {rfl,?_} o_;have h1:=ha aQ pins s σ H _ I h;have VW:starEach (e::es) y.cx.env=(false,eval e X.env)::starEach es X.env:=he;rw[VW]at h1⊢;exact Calls.evalArgs_plain<|bf h1 <| by rintro us s2 ⟨vs,H2,I2,r,z,q2⟩;exact{rfl,by show us.length<=sizeLine;rw[<-r.length];exact z,I2.bk _ _ hC,hN.keeps I2.bk,T.keeps I2.bk,λh' a hx=>y.ok.own rfl pins σ H2 s2 h' a _ _ I2 hx q2}
theorem qv{t:g7}(c:XC K C)(hm:X.mg x=some (.ref C))(ha:DA K X (e::es) t)(hg:autoParam (Gl X x) qQJ)(o_:autoParam ((x==("__debug__": Str))=false) qQZ) (he:autoParam (starEach (e::es) X.env=(false,eval e X.env)::starEach es X.env) qQJ) (dr:autoParam ((backTo aQ<|starEach es X.env).any (·.1)=false) qQJ) (hc:autoParam (X.calm=true) qQJ) (hK:autoParam (X.K=K) qQJ): DS K X true (.Raise (some<|.Call (.Name x np) (e::es) [] aQ) none pos) (O7 C t):=by subst hK;exact⟨λy=>(EK (y:=y) hc c hg hm (ha.of y) o_ he dr).mono λD τ H ⟨σ,S,De,Z,aC,hS,q,hD,hZ⟩=>{σ,S,_,_,aC,hS,q,λds S1 vs H1 ⟨hl,r1⟩ v1 s1 k1=>{by rw[v1.len];exact hl,hZ.at aC C S1 H1 r1 s1 k1},hZ.at aC}⟩
end
structure uJ where
 xs:List D
 ok:aw->Prop
def TJ(K:Frag)(H0:Hp)(J:It)(I:uJ):Prop:=∀i S H,Kp K H0 H->Rs K S H->I.ok S->(∀d,I.xs[i]?=some d->J.go i H/\∀x H',J.QN i H x H'->Rv K H' d x/\Kp K H H'/\Rs K S H')/\(I.xs.length<=i->J.stop i H)
abbrev w4:=SD->aw->(uJ->aw->Prop)->KX->Prop
def Ti(K:Frag)(E:St->XK)(t:w4):TI:=λτ H R=>∃σ S RI Z,g6 K H σ τ/\Rs K S H/\t σ S RI Z/\(∀I S' J H',RI I S'->TJ K H' J I->Rs K S' H'->Kp K H H'->R J H')/\EF K H Z (E τ)
structure DI(K:Frag)(X:Cx)(tg it:Expr)(t:w4):Prop where
 of:∀{b:Bool}(y:Ev X b),PI y.cx tg it<|Ti K y.E t
theorem PI.mono{t t':TI}(h:PI X tg it t)(i:∀τ H R,t' τ H R->t τ H R):PI X tg it t':=λpins s τ H R I q=>h pins s τ H R I<|i τ H R q
section
variable{K:Frag}{X:Cx}{tg l:Expr}
def Yn(t:TD):w4:=λσ S R Z=>t σ S (λx S1=>∃ds,wg S1 x ds/\R {ds,λS=>wg S x ds} S1) Z
theorem il{t:TD}(h:DE K X l t)(hK:autoParam (X.K=K) qQJ):DI K X tg l (Yn t):=by subst hK;exact⟨λy=>(JO (X:=y.cx)<|h.of y).mono <| by rintro τ H R ⟨σ,S,RI,Z,aC,hS,q,hR,hZ⟩;exact{σ,S,_,Z,aC,hS,q,by rintro x S1 v H1 ⟨ds,h1,r1⟩ v1 s1 k1;obtain⟨a,xs,rfl,hq,t⟩:=h1.at s1 v1;refine{a,rfl,⟨xs,hq⟩,hR _ S1 _ H1 r1 (λi S2 H2 k2 s2 VX=>?_) s1 k1};obtain⟨a',O8,e',CA,t'⟩:=wg.at VX s2<|Rv.ts k2 _ v1;cases e';refine{λd hd=>?_,λhl=>{O8,CA,by rw[t'.len];exact hl}};obtain⟨v,e1,r⟩:=t'.get hd;refine{⟨O8,v,CA,e1⟩,λx' H' ⟨e2,e3⟩=>?_};subst e2;have:=e3 O8 CA;rw[e1]at this;cases this;exact{r,.refl _,s2},hZ}⟩
def TK(t:TD):w4:=λσ S R Z=>t σ S (λx S1=>∃ds,(x=.tup ds\/x=.kt ds)/\R {ds,λ_=>True} S1) Z
theorem O9{H:Hp}{x:D}{ds:List D}{v:V}(h:x=.tup ds\/x=.kt ds)(r:Rv K H x v):∃a xs,v=.ref a/\(∀H',Kp K H H'->iu K H' a xs)/\RvAll K H ds xs:=by rcases h with rfl|rfl;obtain⟨a,xs,rfl,q,t⟩:=r.tup;exact{a,xs,rfl,λH' k=>.of<|k.t _ _ q,t};obtain⟨a,xs,rfl,q,t⟩:=r.kt;exact{a,xs,rfl,λH' k=>.inr q,t}
theorem Jt{t:TD}(h:DE K X l t)(hK:autoParam (X.K=K) qQJ):DI K X tg l (TK t):=by subst hK;exact⟨λy=>(NU (X:=y.cx)<|h.of y).mono <| by rintro τ H R ⟨σ,S,RI,Z,aC,hS,q,hR,hZ⟩;exact{σ,S,_,Z,aC,hS,q,by rintro x S1 v H1 ⟨ds,h1,r1⟩ v1 s1 k1;obtain⟨a,xs,rfl,hq,t⟩:=O9 h1 v1;refine{a,rfl,{xs,hq _<|.refl _},hR _ S1 _ H1 r1 (λi S2 H2 k2 s2 _=>?_) s1 k1};have QZ:=hq H2 k2;refine{λd hd=>?_,λhl=>{xs,QZ,by rw[t.len];exact hl}};obtain⟨v,e1,r⟩:=(RvAll.ts k2 _ t).get hd;refine{⟨xs,v,QZ,e1⟩,λx' H' ⟨e2,e3⟩=>?_};subst e2;have:=e3 xs QZ;rw[e1]at this;cases this;exact{r,.refl _,s2},hZ}⟩
noncomputable def eF(lo:Int)(n:Nat):List D:=(List.range n).map λi=>D.int<|lo+(i:Nat)
theorem cu{lo:Int}{n:Nat} : (eF lo n).length=n:=by unfold eF;rw[zb,List.length_range]
theorem eW{lo:Int}{n i:Nat}{d:D}(h:(eF lo n)[i]?=some d):i<n/\d=.int (lo+i):=by unfold eF at h;rw[zw]at h;by_cases q:i<n;rw[List.getElem?_range q]at h;exact{q,(zO h).symm};rw[List.getElem?_eq_none<|by rw[List.length_range];omega]at h;cases h
theorem Hd{H0:Hp}{lo:Int}{n:Nat} : TJ K H0 (RG lo n) {eF lo n,λ_=>True}:=λi S H k s _=>{λd hd=>by obtain⟨h1,rfl⟩:=eW hd;exact{h1,by rintro x H' ⟨e1,e2⟩;exact by subst e1 e2;exact{aO _,.refl _,s}},λhl=>by rw[cu]at hl;exact hl}
def Yo(t:g7):w4:=λσ S R Z=>t σ S (λds S1=>∃j:Int,ds=[.int j]/\-(2^62)<=j/\j<2^62/\R {eF 0 j.toNat,λ_=>True} S1) Z
theorem ML{t:g7}(hm:X.mg "range"= none)(ha:DA K X [a] t)(hg:autoParam (Gl X "range") qQJ)(hs:autoParam (starEach [a] X.env=[(false,eval a X.env)]) qQJ):DI K X tg (.Call (.Name "range" p) [a] [] pos) (Yo t):=⟨λy=>(D3 (X:=y.cx) hg hm (ha.of y) hs).mono <| by rintro τ H R ⟨σ,S,RI,Z,aC,hS,q,hR,hZ⟩;exact{σ,S,_,Z,aC,hS,q,by rintro ds S1 vs H1 ⟨j,e,h1,h2,r1⟩ v1 s1 k1;subst e;obtain⟨v,rfl,r⟩:=v1.one;exact{j,by rw[r.int],h1,h2,hR _ S1 _ H1 r1 Hd s1 k1},hZ}⟩
def TL(t:g7):w4:=λσ S R Z=>t σ S (λds S1=>∃i j:Int,ds=[.int i,.int j]/\(-(2^62)<=i/\i<2^62/\-(2^62)<=j/\j<2^62)/\R {eF i (j-i).toNat,λ_=>True} S1) Z
theorem ir2{t:g7}(hm:X.mg "range"= none)(ha:DA K X [a,c] t)(hg:autoParam (Gl X "range") qQJ)(hs:autoParam (starEach [a,c] X.env=[(false,eval a X.env),(false,eval c X.env)]) qQJ)(rX:autoParam (starEach [c] X.env=[(false,eval c X.env)]) qQJ): DI K X tg (.Call (.Name "range" p) [a,c] [] pos) (TL t):=⟨λy=>(D4 (X:=y.cx) hg hm (ha.of y) hs rX).mono <| by rintro τ H R ⟨σ,S,RI,Z,aC,hS,q,hR,hZ⟩;exact{σ,S,_,Z,aC,hS,q,by rintro ds S1 vs H1 ⟨i,j,e,h1,r1⟩ v1 s1 k1;subst e;obtain⟨v,u,rfl,r,r'⟩:=v1.two;exact{i,j,by rw[r.int,r'.int],h1,hR _ S1 _ H1 r1 Hd s1 k1},hZ}⟩
end
section
variable{K:Frag}{X:Cx}{tg iter:Expr}{pos:Pos}
def TM(ti:w4)(g:wZ)(tb:lA):lA:=λDe σ S Z=>ti σ S (λI S1=>∃P:Nat->SD->aw->Prop,P 0 σ S1/\(∀i σ S,P i σ S->I.ok S)/\(∀i d σ S,I.xs[i]?=some d->P i σ S->g d σ S λpL S2=>tb {De with nx:=P<|i+1,ct:=P<|i+1,bk:=De.nx} pL S2 Z)/\∀σ S,P I.xs.length σ S->De.nx σ S)<|Z σ
theorem Ju(hi:DI K X tg iter ti)(hg:DG K X tg g)(hb:FU K X true body tb)(hs:autoParam (∀x,foldedSetIterable iter X.env x=pure x) qQ0)(hc:autoParam (X.calm=true) qQJ):DS K X true (.For tg iter body [] pos) (TM ti g tb):=
 ⟨λy=>(NV (X:=y.cx) (y.ok.loop rfl) hc (hi.of y) (hg.of _ rfl rfl rfl rfl rfl) (hb.of y) hs).mono <| by rintro D τ H ⟨σ,S,De,Z,aC,hS,q,hD,hZ⟩;exact
  ⟨σ,S,_,_,aC,hS,q,by
   rintro I S1 J H1 ⟨P,p0,Yp,Yq,pend⟩ hJ s1 k1
   refine{λi m τ H=>m=I.xs.length-i/\i<=I.xs.length/\∃σ S,g6 K H σ τ/\Rs K S H/\P i σ S/\Kp K H1 H,!{zZ _,σ,S1,aC.ts k1,s1,p0,.refl _},?_}
   rintro i m τ2 H2 ⟨rfl,TN,pL,S2,a2,s2,p2,k2⟩
   have ok:=hJ i S2 H2 k2 s2<|Yp _ _ _ p2
   by_cases eN:i<I.xs.length
   ·obtain⟨go,yl⟩:=ok.1 _ (zj eN)
    refine .inr {go,λQV H'=>i+1<=I.xs.length/\∃σ S,g6 K H' σ QV/\Rs K S H'/\P (i+1) σ S/\Kp K H1 H',λaJ H' h'=>{_,by omega,rfl,h'},λx H' hy=>?_}
    obtain⟨rx,k3,s3⟩:=yl x H' hy
    refine{_,pL,S2,_,rx,a2.ts k3,s3,Yq i _ pL S2 (zj eN) p2,λVY S4 τ4 H4 r4 a4 s4 k4=>?_}
    have kk:=(k2.trans k3).trans k4
    exact{VY,S4,_,Z,a4,s4,r4,{λO_ S5 Yr H5 r5 a5 s5 k5=>{eN,O_,S5,a5,s5,r5,kk.trans k5},hD.rt.kp<|k1.trans kk,(hD.nx.kp<|k1.trans kk),λO_ S5 Yr H5 r5 a5 s5 k5=>{eN,O_,S5,a5,s5,r5,kk.trans k5}},hZ.kp<|k1.trans kk}
   ·have e:i=I.xs.length:=by omega
    subst e
    exact .inl {ok.2<|zp _,hD.nx _ _ _ _ (pend _ _ p2) a2 s2<|k1.trans k2},hZ.at aC⟩⟩
end
noncomputable def lU(σ:SD)(src:List<|Option Nat):SD:=src.map λo=>match o with|some j=>(σ[j]?).join|none=>none
theorem g6.pick{K:Frag}{H:Hp}{σ:SD}{τ:St}(h:g6 K H σ τ):∀src:List (Option Nat),g6 K H (lU σ src) (pick τ src)|[]=>.nil|o::r=>.cons (λd e=>by cases o with|none=>(cases e)|some j=>dsimp only at e⊢;cases q:σ[j]? with|none=>(rw[q]at e;cases e)|some o'=>rw[q]at e;obtain rfl:o'=some d:=e;obtain⟨v,e1,r1⟩:=h.get q;exact{v,by rw[e1];rfl,r1})<|g6.pick h r
def Zf:KX:=λ_ _=>False
def w5(σ:SD)(src:List<|Option Nat)(g:wZ)(tc:j8)(te:TD)(R:KD)(I:uJ)(S1:aw):Prop:=∃P:Nat->List D->aw->Prop,P 0 [] S1/\(∀i out S,P i out S->I.ok S)/\(∀i d out S,I.xs[i]?=some d->P i out S->out.length<sizeLine/\g d (lU σ src) S λeM S3=>tc eM S3 (λb S4=>if b=true then te eM S4 (λv S5=>P (i+1) (out++[v]) S5) Zf else P (i+1) out S4) Zf)/\∀out S2,P I.xs.length out S2->∀p,S2 p=none->R (.ref p) (S2.set p<|.lst out)
def w6(ti:w4)(src:List<|Option Nat)(g:wZ)(tc:j8)(te:TD):TD:=λσ S R Z=>ti σ S (λI S1=>w5 σ src g tc te R I S1) Z
theorem EF.f{K:Frag}{H:Hp}{e:XK} : EF K H Zf e:=λ_ _ _ z=>z.elim
theorem T.comp{K:Frag}{E E':St->XK}{ti:w4}{src:List<|Option Nat}{g:TG}{gd:wZ}{tc:j8}{te:TD}{τ:St}{H:Hp}{Q:VK}(hg:∀v τ H Q,Tg K gd v τ H Q->g v τ H Q) (h:T K E (w6 ti src gd tc te) τ H Q):Cr (Ti K E ti) src g (Tt K E' tc) (T K E' te) τ H Q:=by
 obtain⟨σ,S,R,Z,aC,hS,q,hR,hZ⟩:=h;refine{σ,S,_,Z,aC,hS,q,λI S1 J H1 ⟨P,p0,Yp,Yq,pend⟩ hJ s1 k1=>?_,hZ};refine{λi m out H=>m=I.xs.length-i/\i<=I.xs.length/\∃ds S,RvAll K H ds out/\Rs K S H/\P i ds S/\Kp K H1 H,!{zZ _,[],S1,bz,s1,p0,.refl _},?_};rintro i m out H2 ⟨rfl,TN,ds,S2,v2,s2,p2,k2⟩;have ok:=hJ i S2 H2 k2 s2<|Yp _ _ _ p2;by_cases eN:i<I.xs.length;obtain⟨go,yl⟩:=ok.1 _<|zj eN;obtain⟨hz,st⟩:=Yq i _ ds S2 (zj eN) p2;refine .inr {go,by rw[v2.len];exact hz,λx H' hy=>?_};obtain⟨rx,k3,s3⟩:=yl x H' hy;refine hg _ _ _ _ {_,_,S2,_,rx,(((aC.ts k1).ts k2).ts k3).pick src,s3,st,λVY S4 τ4 H4 r4 a4 s4 k4=>?_};refine{VY,S4,_,Zf,a4,s4,r4,λc S5 H5 r5 s5 k5=>?_,.f};cases c with|true=>rw[if_pos rfl]at r5⊢;exact{VY,S5,_,Zf,a4.ts k5,s5,r5,λd S6 v H6 r6 v6 s6 k6=>{_,by omega,rfl,eN,ds++[d],S6,(RvAll.ts (((k3.trans k4).trans k5).trans k6) _ v2).app<|aS v6 bz,s6,r6,(((k2.trans k3).trans k4).trans k5).trans k6},.f}|false=>rw[if_neg zd]at r5⊢;exact{_,by omega,rfl,eN,ds,S5,RvAll.ts ((k3.trans k4).trans k5) _ v2,s5,r5,((k2.trans k3).trans k4).trans k5}
 have e:i=I.xs.length:=by omega
 subst e;exact .inl {ok.2<|zp _,λp hp=>(hR.kp<|k1.trans k2).new s2 hp (pend _ _ p2 p) v2}
noncomputable def Ev.none(X:Cx)(h:X.xe=λ_ _=>False):Ev X false:={X.pn,X.xe,λ_=>E0,{by rintro p2 τ H s e s' _ ⟨_,_,_,_,_,_,_,_,_,z⟩;exact z.elim,λe=>(by cases e),λe=>(by cases e)}}
section
variable{K:Frag}{X:Cx}{b:Bool}{N:List Str}{src:List (Option Nat)}{scope:Scope}{tg iter elt:Expr}{ifs:List Expr}{pos:Pos}{ti:w4}{g:TG}{gd:wZ}{tc:j8}{te:TD}
structure TQ(K:Frag)(X:Cx)(ifs:List Expr)(t:j8):Prop where
 of:∀{b:Bool}(y:Ev X b),Mv y.cx ifs<|Tt K y.E t
def lV:j8:=λ_ S R _=>R true S
theorem sH:TQ K X [] lV:=⟨λy pins s τ H Q I ⟨σ,S,R,Z,aC,hS,q,hR,hZ⟩=>J6 pins s τ H Q I<|hR true S H q hS<|.refl _⟩
theorem if1{t:j8}(h:DT K X c t):TQ K X [c] t:=⟨λy=>J_<|h.of y⟩
theorem sI(S:bB X N src scope)(hit:DI K X tg iter ti)(hg:∀C s H ex pn,PG (iw X N scope C s H ex pn) tg g)(hx:sv g src)(TR:∀v τ H Q,Tg K gd v τ H Q->g v τ H Q) (hi:∀C s H ex pn,TQ K (iw X N scope C s H ex pn) ifs tc) (he:∀C s H ex pn,DE K (iw X N scope C s H ex pn) elt te) (hs:autoParam (∀x,foldedSetIterable iter X.env x=pure x) qQ0) (hc:autoParam (X.calm=true) qQJ):DE K X (.ListComp elt [{tg,iter,ifs,0}] scope pos) (w6 ti src gd tc te):=⟨λy=>(Kc (X:=y.cx) (tc:=Tt K (λ_=>E0) tc) (te:=T K (λ_=>E0) te) ⟨S.kind,S.fX,S.loc,S.tP,S.len,S.src⟩ hc (hit.of y) hg hx (λC s H ex pn=>(hi C s H ex pn).of<|.none _ rfl) (λC s H ex pn=>(he C s H ex pn).of<|.none _ rfl) hs).mono λ_ _ _ h=>h.comp TR⟩
theorem MM(hN:X.N.Nodup)(S:bB X N src scope)(hit:DI K X tg iter ti)(hg:∀C s H ex pn,PG (iw X N scope C s H ex pn) tg g)(hx:sv g src)(TR:∀v τ H Q,Tg K gd v τ H Q->g v τ H Q) (hi:∀C s H ex pn,TQ K (iw X N scope C s H ex pn) ifs tc) (he:∀C s H ex pn,DE K (iw X N scope C s H ex pn) elt te) (Xw:autoParam (X.N[i]?=some x) qQJ) (VM:autoParam (X.env.scope.names.lookup x=some .local) qQJ) (Xx:autoParam (swapsWith (.ListComp elt [{tg,iter,ifs,0}] scope pos) (some<|.Name x pos') Ke.line X.env=pure true) qQJ) (hs:autoParam (∀x,foldedSetIterable iter X.env x=pure x) qQ0) (hc:autoParam (X.calm=true) qQJ):DS K X b (.Assign [.Name x pos'] (.ListComp elt [{tg,iter,ifs,0}] scope pos) Ke) (Tw i<|w6 ti src gd tc te):=⟨λy=>(AB (X:=y.cx) (i:=i) (tc:=Tt K (λ_=>E0) tc) (te:=T K (λ_=>E0) te) hN Xw VM ⟨S.kind,S.fX,S.loc,S.tP,S.len,S.src⟩ hc (hit.of y) hg hx (λC s H ex pn=>(hi C s H ex pn).of<|.none _ rfl) (λC s H ex pn=>(he C s H ex pn).of<|.none _ rfl) Xx hs).mono <| by rintro D τ H ⟨σ,S,De,Z,aC,hS,q,hD,hZ⟩;exact T.comp TR {σ,S,_,_,aC,hS,q,λd S1 v H1 r1 v1 s1 k1=>hD.nx _ _ _ _ r1 ((aC.ts k1).set i v1) s1 k1,hZ.at aC}⟩
theorem aT:∀v τ H Q,Tg K (VU i) v τ H Q->gr i v τ H Q:=by rintro v τ H Q ⟨d,σ,S,R,rv,aC,hS,q,hR⟩;exact hR _ S _ H q (aC.set i rv) hS<|.refl _
end
structure uK(K:Frag)(x qual:Str)(st:Stmt)(f:Addr)(fd:FuncData):Prop where
 ex:∃(oc:Value)(od:Option Addr)(dV kV doc pm:Value)(an:Option Addr)(gu ct:Value)(Oc:Array (Option Value)),
  fd=fnOf x qual (ba st) (aY st) (ag st) dV kV doc pm an gu ct/\K.lookup f=some {oc,od,.func fd,Oc}/\codeIn K gu qual=true
noncomputable def g8(N:List Str)(ds:List D):SD:=ds.map some++List.replicate (N.length-ds.length) none
section
variable{i:Nat}{P:Program}{w:World}{K:Frag}{mg:Str->Option Value}{base:Heap}
theorem uK.okD{x qual:Str}{st:Stmt}{f:Addr}{fd:FuncData}{N ps:List Str}{k:Nat}{sp:jE}(F:uK K x qual st f fd)(S:fE N ps<|ag st)(len:∀ds S R Z,sp ds S R Z->ds.length=ps.length) (lG:∀(gu:Value)(A:Around)(outer:List Env)(s:Shared)(H:Hp)(E:XK)(ds:List D)(S:aw)(R:KD)(Z:KX),bO k (A.deeper<|envOfC qual (ag st) s.heap.objs.size f gu)->sp ds S R Z->∃t,FU K (jP (eU P w mg) P w K mg base N qual (ag st) f gu A outer s H E) true (aY st) t/\t {nx:=λ_ S'=>R .ax S',rt:=R} (g8 N ds) S λ_=>Z):bG P w K mg base (eU P w mg) (k+1) f fd ps (ph K sp):=by
 obtain⟨oc,od,dV,kV,doc,pm,an,gu,ct,Oc,rfl,lk,rW⟩:=F.ex;have dr:ps.length<=N.length:=by have:=congrArg List.length S.pre;rw[yy]at this;lia
 refine Mq lk rW S (by rintro vs H Q E ⟨ds,S',R,Z,v,_,h,_⟩;exact by rw[v.len];exact len _ _ _ _ h) λA outer s H vs Q E hr ⟨ds,S',R,Z,v,hS,h,hR,hZ⟩=>?_;obtain⟨t,ht,q⟩:=lG gu A outer s H E ds S' R Z hr h;have L:cJ (jP (eU P w mg) P w K mg base N qual (ag st) f gu A outer s H E) E:=tR;let y:Ev (jP (eU P w mg) P w K mg base N qual (ag st) f gu A outer s H E) true:={_,(jP (eU P w mg) P w K mg base N qual (ag st) f gu A outer s H E).xe,λ_=>E,{λp2 τ H1 s1 e s' I h=>Mx L p2 τ H1 s1 e s' I h,λ_ p2 τ H1 s1 h' a cls args I hx he=>ot L I hx he,λ_=>PassesOwn.leaving}};refine{Tl K (λ_=>E) t,ht.of y,g8 N ds,S',_,λ_=>Z,?_,hS,q,{λσ S1 τ H1 r a b c=>hR.kp c |>.now b r gW,hR,λ_ _ _ _ z=>z.elim,λ_ _ _ _ z=>z.elim},λσ τ C S1 H1 z a b c=>hZ C S1 H1 z b c};unfold g8 start;refine(qt v).app ?_;rw[v.len];exact qr _ _<|by rw[List.length_replicate]
theorem bG.Pa(F:bG P w K mg base (eU P w mg) k f fd ps<|ph K sp)(h:∀ds S R Z,VH ds S R Z->sp ds S R Z):bG P w K mg base (eU P w mg) k f fd ps (ph K VH):=F.imp <| by rintro vs H Q E ⟨ds,S,R,Z,a,b,c,d⟩;exact{ds,S,R,Z,a,b,h _ _ _ _ c,d}
theorem bG.calm(F:bG P w K mg base (eU P w mg) k f fd ps sp):bG P w K mg base VL k f fd ps λvs H Q _=>sp vs H Q E0:=by refine{λvs H Q E h=>F.len vs H Q E0 h,λA outer s H args us vs Q E hr e0 hb r h=>yS (F.run A outer s H args us vs Q E0 hr e0 hb r h) λres s' q=>?_};cases res with|error e=>(obtain⟨_,_,_,_,_,_,_,_,_,z⟩:=q;exact z.elim)|ok fl=>cases fl<;>exact q
noncomputable def tW.less(De:tW)(i:Nat):tW:={nx:=λσ S=>De.nx (σ.set i none) S,rt:=De.rt,bk:=λσ S=>De.bk (σ.set i none) S,ct:=λσ S=>De.ct (σ.set i none) S}
end
theorem tX{P:Program}{w:World} : ∀{ss:List Str}{vs:List Value},vs.length=ss.length->(∀(j:Nat)(v:Value),vs[j]?=some v->∃x,ss[j]?=some x/\keyIs (.inr x) v=true)->StrsAre vs ss|[],[],_,_=>.nil|[],_::_,h,_=>by simp at h|_::_,[],h,_=>by simp at h|x::ss,v::vs,h,k=>by obtain⟨x',e,q⟩:=k 0 v rfl;cases e;rcases bA q with⟨i,t,e,_⟩|⟨y,t,e,rfl⟩;cases e;cases e;exact .cons x t<|tX (P:=P) (w:=w) (by simpa using h) λj v e=>k (j+1) v<|by simpa using e
theorem tY:∀{vs:List Value}{ss:List Str},StrsAre vs ss->Vals (ss.map V.str) vs|_,_,.nil=>.nil|_,_,.cons y t h=>.cons ⟨t,rfl⟩<|tY h
theorem KV.Ys{κ:Type}{kvs:List<|κ×V}{vs:List<|κ×Value}(h:KV kvs vs):vs.map (·.1)=kvs.map (·.1):=by unfold KV at h;induction h with|nil=>rfl|cons r t ih=>rw[zq,zq,ih,r.1]
theorem He{prog:Program}{w:World}{A:Around}{E:Value->Shared->Prop}{s:Shared}{T:String}{r d:Addr}{n:Nat}{P:Nat->Value->Prop}{OK:Heap->Prop}{R:List Value->Shared->Prop}(K:PySem.W.KdlSrc prog w T r d n P OK)(hh:A.handled=none)(aM:OK s.heap)(hn:n<=sizeLine) (h:∀(h':Heap) (tk:Nat) (acc:Array Value),(∀b o,s.heap.get? b=some o->h'.get? b=some o)->s.heap.objs.size<=h'.objs.size->ItemsOf P acc n->R acc.toList {s with heap:=h',toks:=tk}): wpAny (model prog w) A (collect<|.ref r) R E s:=by have eN:=K.there _ aM;unfold collect;refine zc<|wpAny_runValue<|yQ entry_proto_collect' ?_;rw[Around.under_plainId PySem.F.plain_proto_collect _];show wpAny _ A.in1 (newList [] >>=λl=>again<|.builtin "list.__iadd__" {[l,.ref r],[]}) _ _ s;refine zc<|yA ?_;refine zA {plainId_quiet PySem.F.plain_list_iadd _,yQ entry_list_iadd' ?_};rw[Around.under_plainId PySem.F.plain_list_iadd _];have TU:(s.heap.push {cls:=.type "list",data:=.seq ([]:List Value).toArray}).get? s.heap.objs.size=some {cls:=.type "list",data:=.seq #[]}:=zm _ rfl;show wpAny _ A.in1 (Builtin.List.listExtendWith (.ref s.heap.objs.size) (.ref r)<|.ref s.heap.objs.size) _ _ _;have key:=PySem.W.kdl_extend (A:=A) (s:={s with heap:=s.heap.push {cls:=.type "list",data:=.seq ([]:List Value).toArray}}) (R:=λ(q:Result) (s':Shared)=>∃(h':Heap) (tk:Nat) (w9:Array Value) (c':Nat),q=.ok (.ret<|.ref s.heap.objs.size)/\s'={s with heap:=h',toks:=tk}/\(∀b o,s.heap.get? b=some o->h'.get? b=some o)/\h'.get? s.heap.objs.size=some {cls:=.type "list",dict:=none,data:=.seq w9 c',slots:=#[]}/\ItemsOf P w9 n) K hh (K.keep _ _ aM λb _ o e=>za _ e) s.heap.objs.size (yg eN.1) (yg eN.2) (.ref s.heap.objs.size) 0 TU (λh' tk w9 c' hk ow lP=>{h',tk,w9,c',rfl,rfl,λb o e=>hk b o (zu<|zr e)<|za _ e,ow,lP}) hn;refine yF key (λfin s' x=>?_) λe s' x=>?_;{cases fin with|done f=>(obtain⟨h',tk,w9,c',e,rfl,hk,ow,lP⟩:=x;cases e;show wpAny _ A (load s.heap.objs.size >>=_) _ _ _;exact zc<|wpAny_load ow<|zA<|h h' tk w9 hk (yD<|zr ow) lP)|again c₁=>refine{x.1,yS x.2 λq aN y=>?_};obtain⟨h',tk,w9,c',rfl,rfl,hk,ow,lP⟩:=y;show wpAny _ A (load s.heap.objs.size >>=_) _ _ _;exact zc<|wpAny_load ow<|zA<|h h' tk w9 hk (yD<|zr ow) lP};obtain⟨_,_,_,_,e',_⟩:=x;cases e'
theorem uL{X:Cx}(hc:X.calm=true):dO X (.builtin "sorted") (λxs H Q=>∃(a:Addr)(kvs:List (Key×V))(ss:List Str),xs=[.ref a]/\H a=some (.dK kvs)/\kvs.map (·.1)=ss.map Sum.inr/\kvs.length<64/\∀CC,CC.Perm ss->sortedS CC=true->∀l,H l=none->Q (.ref l) (upd H l<|.lst<|CC.map V.str)):=by
 intro pins s σ H xs us Q I r h;obtain⟨a,kvs,ss,rfl,e,hk,hl,q⟩:=h;obtain⟨u,rfl,ru⟩:=vals1 r;cases ru;obtain⟨z,hd,vs,rel,dd⟩:=Cq I.aM e;obtain⟨ep,Jv⟩:=dd.dictAt;have hlen:vs.length<64:=by rw[<-rel.length];exact hl
 have hh:=I.ok.hd hc;refine PySem.Calls.call_function_entry kind_sorted plain_sorted entry_sorted (args_sorted1 _) ?_;unfold Builtin.«sorted»;refine zc (m:=checkCount "sorted" 1 1 _)<|zA ?_;refine zc<|He (A:=X.A.in1) (PySem.W.kdl_dict (knd:=aG X.prog X.w) (kvs:=vs) (ep:=ep) hd) hh Jv (by rw[ye];omega) λh' tk acc hkp hB lP=>?_;have Jp:acc.toList.length=vs.length:=by rw[yn];exact lP.1
 refine zc<|wpAny_newList ?_ (by rw[Jp,ye];omega);have hS:StrsAre acc.toList ss:=by have hkv:=rel.Ys;refine tX (P:=X.prog) (w:=X.w) (by rw[Jp,<-rel.length];have:=congrArg List.length hk;simpa using this) λj v ev=>?_;obtain⟨k,x,e1,e2⟩:=lP.2 j v (by rw[<-Array.getElem?_toList];exact ev);have e3:(vs.map (·.1))[j]?=some k:=(by rw[zw,e1];rfl);rw[hkv,hk,zw]at e3;cases q2:ss[j]? with|none=>(rw[q2]at e3;cases e3)|some y=>rw[q2]at e3;cases e3;exact⟨y,rfl,e2⟩
 have FN:(h'.push<|seqObj "list" acc.toList.toArray 0).get? h'.objs.size=some (seqObj "list" acc.toList.toArray 0):=zm _ rfl;show wpAny _ _ _ _ _ {s with heap:=h'.push<|seqObj "list" acc.toList.toArray 0,toks:=tk};refine zc<|yG<|yK slot_list_sort {_,FN,rfl} entry_list_sort (list_sort_treeK (s:={s with heap:=h'.push<|seqObj "list" acc.toList.toArray 0,toks:=tk}) strKind_oneLt FN hS.keysOf (λnj nr rest e=>keyKind_strs<|by rw[<-e];exact hS) (by rw[Jp];exact hlen) λdW hp hs=>!⟨?_⟩)<|args_list_sort _;refine zA !⟨?_⟩;obtain⟨CC,h1,h2,h3⟩:=sorted_out_str hS hp hs;obtain⟨e1,he1⟩:=sortedHeap_at (vs:=acc.toList) (n:=0) (out:=(arrOf dW).map (·.2)) FN;have Pb:CC.length<=sizeLine:=by rw[h2.length_eq,ye];have:=congrArg List.length hk;rw[zb,zb]at this;omega
 refine{.ref h'.objs.size,_,I.laid (a:=h'.objs.size) (o:=.lst<|CC.map V.str) (λb u hb=>?_) hB {by rw[zb];exact Pb,_,e1,tY h1,he1},rfl,q CC h2 h3 _<|I.aM.fresh hB};have eN:=zr<|hkp b u hb;rw[sortedHeap_old (zu eN)<|by rw[zR];exact Nat.lt_succ_of_lt eN,za _<|hkp b u hb]
section
variable{K:Frag}
def KU:List D->aw->KD->Prop:=λds S R=>∃(a:Addr)(kvs:List (Key×D))(ss:List Str),ds=[.ref a]/\S a=some (.cU kvs)/\kvs.map (·.1)=ss.map Sum.inr/\kvs.length<64/\∀CC,CC.Perm ss->sortedS CC=true->∀p,S p=none->R (.ref p) (S.set p<|.lst<|CC.map D.str)
theorem bR.keys{κ:Type}{H:Hp}{ks:List<|κ×D}{vs:List<|κ×V}(h:bR K H ks vs):vs.map (·.1)=ks.map (·.1):=by unfold bR at h;induction h with|nil=>rfl|cons r t ih=>rw[zq,zq,ih,r.1]
theorem Hf:fF K (.builtin "sorted") KU:=by rintro X hK hc pins s σ H xs us Q I rx ⟨ds,S,R,r,hS,⟨a,kvs,ss,e,e1,hk,hl,h⟩,hR⟩;subst e;obtain⟨v,rfl,r1⟩:=r.one;obtain⟨vs,e2,t⟩:=hS.cU e1;exact uL hc pins s σ H _ us Q I rx {a,vs,ss,by rw[r1.ref],e2,by rw[t.keys];exact hk,by rw[t.len];exact hl,λCC p1 p2 l hl=>hR.new hS hl (h CC p1 p2 l)<|uG CC}
end
def MN(K:Frag)(a:Addr)(n:Nat):It:={λi H=>∃xs x,iQ K H a xs/\xs.length=n/\i<n/\xs[n-1-i]?=some x,λi H x H'=>H'=H/\∀xs,iQ K H a xs->xs.length=n->xs[n-1-i]?=some x,λi _=>n<=i}
theorem Hg{P:Program}{w:World}{K:Frag}{tg:Expr}(a it:Addr)(n:Nat):Turn P w K tg (MN K a n) [it] it (λi h=>i<=n/\h.IsRevIter it a ((n:Int)-1-(i:Int))) where
 mem:=by simp
 obj:=λi h st b hb=>by
  have e:b=it:=by simpa using hb
  subst e
  obtain⟨_,o,e,c,d⟩:=st
  exact{o,e,λv z=>by rw[d]at z;cases z}
 keep:=λi h h' st k=>{st.1,st.2.at λo e=>k it (by simp) o e}
 item:=by
  intro X hP hw hK hc i pins s σ H E I hf st hg
  subst hP hw hK
  obtain⟨xs,x,hq,hn,hi,hx⟩:=hg
  obtain⟨au,rv,p,hz⟩:=I.list hq
  obtain⟨u,hu,ru⟩:=rv.get hx
  obtain⟨f0,f1,f2,f3,f4,f5⟩:=hf it<|by simp
  have e:(n:Int)-1-(i:Int)=((n-1-i:Nat):Int):=by lia
  have hit:=st.2
  rw[e]at hit
  refine wpAny_pyNext_rev_item hit p.isList (x:=u) (by simpa using hu) λh' dW sb=>?_
  have I1:Inv X pins σ H {s with heap:=h'}:=I.turned (t':=s.toks) (λb o hb e=>(sb.2 b hb).trans e) f0 f1 f3 f4 f5
  obtain⟨o,e1,c,d⟩:=id dW
  refine{u,rfl,tq (s:={s with heap:=h'}) e1 c d (by decide) {x,H,I1,ru,{rfl,λys hy _=>by rw[I.wo hy hq];exact hx},{hi,?_},λb hb=>(hf b hb).1}}
  have e2:(n:Int)-1-((i+1:Nat):Int)=((n-1-i:Nat):Int)-1:=by lia
  rw[e2];exact dW
 done:=by
  intro X hP hw hK hc i pins s σ H E I hf st hg
  subst hP hw hK
  obtain⟨f0,f1,f2,f3,f4,f5⟩:=hf it<|by simp
  have hg:n<=i:=hg
  have e:(n:Int)-1-(i:Int) = -1:=by have:=st.1;lia
  have hit:=st.2
  rw[e]at hit
  exact wpAny_pyNext_rev_end (I.ok.hd hc) hit λh' eb=>{rfl,I.turned (t':=s.toks) (λb o hb e=>eb b o hb e) f0 f1 f3 f4 f5}
 self:=λ_ _ _ _ _ st h=>wpAny_pyIter_revIter st.2 h
def Yt(K:Frag)(ta:TA):TI:=λσ H R=>ta σ H λvs H1=>∃a xs,vs=[.ref a]/\iQ K H1 a xs/\R (MN K a xs.length) H1
theorem Pc{X:Cx}{tg a:Expr}{ta:TA}{p pos:Pos}(hg:Gl X "reversed")(hm:X.mg "reversed"= none)(ha:PA X [a] ta)(hs:starEach [a] X.env=[(false,eval a X.env)]):PI X tg (.Call (.Name "reversed" p) [a] [] pos) (Yt X.K ta):=by
 intro pins s σ H R I h;refine Call_<|eS I hg hm boot_reversed<|PyProof.Rows.callWith_type1 (bf (ha pos pins s σ H _ I h) λus s1 ⟨vs,H1,I1,r1,q1⟩=>?_) hs rfl;obtain⟨l,xs,e,q,hR⟩:=q1;subst e;obtain⟨u,rfl,ru⟩:=vals1 r1;cases ru;obtain⟨au,rv,pl,hz⟩:=I1.list q;have hn:au.toArray.size=xs.length:=by rw[zo,rv.length]
 refine call_reversed_list pl.isList ?_;rw[hn];have st:(s1.heap.push<|revObj l<|(xs.length:Int)-1).IsRevIter s1.heap.objs.size l ((xs.length:Int)-1-((0:Nat):Int)):={_,zm _ rfl,rfl,by show Data.fields _=Data.fields _;simp};have I2:Inv X pins σ H1 {s1 with heap:=s1.heap.push<|revObj l<|(xs.length:Int)-1}:=I1.kept (t':=s1.toks) λb o e=>za _ e;refine wpAny_pyIter_revIter st {_,_,_,_,H1,rfl,I2,Hg l s1.heap.objs.size xs.length,{zZ _,st},λb hb=>?_,hR};have hb:b=s1.heap.objs.size:=by simpa using hb
 subst hb;exact I1.jO (zp _)<|I1.aM.fresh<|zp _
section
variable{K:Frag}{X:Cx}{tg:Expr}
def TV(t:g7):w4:=λσ S R Z=>t σ S (λds S1=>∃x es,ds=[x]/\wg S1 x es/\R {es.reverse,λS=>wg S x es} S1) Z
theorem irv{t:g7}(hm:X.mg "reversed"= none)(ha:DA K X [a] t)(hg:autoParam (Gl X "reversed") qQJ)(hs:autoParam (starEach [a] X.env=[(false,eval a X.env)]) qQJ)(hK:autoParam (X.K=K) qQJ):DI K X tg (.Call (.Name "reversed" p) [a] [] pos) (TV t):=by subst hK;exact⟨λy=>(Pc (X:=y.cx) hg hm (ha.of y) hs).mono <| by rintro τ H R ⟨σ,S,RI,Z,aC,hS,q,hR,hZ⟩;exact{σ,S,_,Z,aC,hS,q,by rintro ds S1 vs H1 ⟨x,es,e,h1,r1⟩ v1 s1 k1;subst e;obtain⟨v,rfl,r⟩:=v1.one;obtain⟨a,xs,rfl,hq,t⟩:=h1.at s1 r;refine{a,xs,rfl,hq,hR _ S1 _ H1 r1 (λi S2 H2 k2 s2 VX=>?_) s1 k1};obtain⟨a',O8,e',CA,t'⟩:=wg.at VX s2<|Rv.ts k2 _ r;cases e';have hl:xs.length=es.length:=t.len;have VC:O8.length=es.length:=t'.len;refine{λd hd=>?_,λh=>by rw[yC]at h;show xs.length<=i;lia};have hi:i<es.length:=(by have:=(zk.mp hd).1;rwa [yC]at this);rw[List.getElem?_reverse hi]at hd;obtain⟨v,e1,r⟩:=t'.get hd;rw[<-hl]at e1;refine{{O8,v,CA,by lia,by lia,e1},λx' H' ⟨e2,e3⟩=>?_};subst e2;have:=e3 O8 CA (by lia);rw[e1]at this;cases this;exact{r,.refl _,s2},hZ}⟩
noncomputable def ck(xs ys:List D):List D:=List.zipWith (λa b=>D.tup [a,b]) xs ys
def TY(t:g7):w4:=λσ S R Z=>t σ S (λds S1=>∃xs ys,ds=[.tup xs,.tup ys]/\xs.length=ys.length/\R {ck xs ys,λ_=>True} S1) Z
theorem pP:∀v τ H Q,Tg K (MK 2<|A1 (VU i)<|A1 (VU j) MJ) v τ H Q->JN K 2 (pX (gr i)<|pX (gr j) JM) v τ H Q:=by rintro v τ H Q ⟨d,σ,S,R,rv,aC,hS,⟨ds,e,hl,a,r,e1,b,r',e2,e3,q⟩,hR⟩;subst e e1 e2 e3;obtain⟨p,xs,rfl,hp,t⟩:=rv.tup;obtain⟨v1,v2,rfl,r1,r2⟩:=t.two;exact{p,_,rfl,.of hp,rfl,v1,[v2],rfl,v2,[],rfl,rfl,hR _ S _ H q ((aC.set i r1).set j r2) hS<|.refl _}
end
section
variable{K:Frag}{X:Cx}{b:Bool}{pos:Pos}
def TZ(tl ti tv:TD):lA:=λDe σ S Z=>tv σ S (λv S1=>tl σ S1 (λx S2=>ti σ S2 (λy S3=>∃a es i j,x=.ref a/\y=.int i/\S3 a=some (.lst es)/\Gw es.length i=some j/\De.nx σ (S3.set a<|.lst<|es.set j v))<|Z σ)<|Z σ)<|Z σ
theorem Yu{o i value:Expr}{tl ti tv:TD}{pos':Pos}(ho:DE K X o tl)(hi:DE K X i ti)(hv:DE K X value tv)
  (ha:autoParam (∀v,assign (.Subscript o i pos') X.env v=(do
   let ov <-holding [v] (eval o X.env)
   let iv <-holding [v,ov] (eval i X.env)
   standAt pos'
   holding [v,ov,iv] (setItem ov iv v)
   release [v,ov,iv] [])) qQ0)
  (hs:autoParam (swapsWithSole [.Subscript o i pos'] value pos.line X.env=pure false) qQJ) (hw:autoParam (swappedStores [.Subscript o i pos'] value X.env=pure none) qQJ) (h1:autoParam ((assignEach [.Subscript o i pos'] X.env).map (·.2)=[assign (.Subscript o i pos') X.env]) qQJ):
  DS K X b (.Assign [.Subscript o i pos'] value pos) (TZ tl ti tv):=
 ⟨λy=>(Gi (X:=y.cx) (hv.of y) (NO (ho.of y) (hi.of y) set_list ha) hs hw h1).mono <| by rintro D τ H ⟨σ,S,De,Z,aC,hS,q,hD,hZ⟩;exact
  ⟨σ,S,_,_,aC,hS,q,λv S1 vv H1 r1 v1 s1 k1=>⟨σ,S1,_,_,aC.ts k1,s1,r1,λx S2 xv H2 r2 v2 s2 k2=>⟨σ,S2,_,_,aC.ts<|k1.trans k2,s2,r2,by
   rintro y S3 yv H3 ⟨a,es,i,j,e1,e2,e3,e4,r3⟩ v3 s3 k3
   subst e1 e2
   obtain⟨xs,e5,t⟩:=s3.lst e3
   have kk:=s3.gZ (o:=.lst<|xs.set j vv) e3
   refine{a,xs,i,j,(Rv.ts k3 _ v2).ref,v3.int,e5,by rw[t.len];exact e4,?_}
   exact hD.nx _ _ _ _ r3 (aC.ts<|((k1.trans k2).trans k3).trans kk) (s3.put (c:=.lst _) e3 {_,aD,RvAll.ts kk _<|t.set j<|Rv.ts (k2.trans k3) _ v1})<|((k1.trans k2).trans k3).trans kk,hZ.on (k1.trans k2)<|aC.ts<|k1.trans k2⟩,hZ.on k1<|aC.ts k1⟩,hZ.at aC⟩⟩
noncomputable def eX(z:Str):List D:=z.cps.toList.map λc=>D.str ⟨#[c]⟩
def MO(t:TD):w4:=λσ S R Z=>t σ S (λx S1=>∃z,x=.str z/\R {eX z,λ_=>True} S1) Z
theorem Pd{t:TD}(h:DE K X l t):DI K X tg l (MO t):=⟨λy=>(OC (X:=y.cx)<|h.of y).mono <| by rintro τ H R ⟨σ,S,RI,Z,aC,hS,q,hR,hZ⟩;exact⟨σ,S,_,Z,aC,hS,q,by
 rintro x S1 v H1 ⟨z,e,r1⟩ v1 s1 k1;subst e;refine{z,v1.str,hR _ S1 _ H1 r1 (λi S2 H2 k2 s2 _=>{λd hd=>?_,λhl=>?_}) s1 k1};unfold eX at hd;rw[zw,Array.getElem?_toList]at hd;cases q:z.cps[i]? with|none=>(rw[q]at hd;cases hd)|some c=>rw[q]at hd;cases hd;refine{(Array.getElem?_eq_some_iff.mp q).1,λx' H' ⟨e1,c',e2,e3⟩=>?_};rw[q]at e2;cases e2;subst e1 e3;exact{gX _,.refl _,s2}
 unfold eX at hl;rw[zb,yn]at hl;exact hl,hZ⟩⟩
def KW(t:TD):TD:=λσ S R Z=>t σ S (λx S1=>∃ss:List Str,wg S1 x (ss.map D.str)/\ss.length<4000/\R (.int (iy ss).length) S1) Z
theorem lse{t:TD}(h:DE K X e t)(hm:X.mg "len"= none)(hm':X.mg "set"= none)(hp:autoParam (isPlain e=true) qQJ)(hg:autoParam (Gl X "len") qQJ)(Yv:autoParam (Gl X "set") qQJ)(he:autoParam (starEach [e] X.env=[(false,eval e X.env)]) qQJ) (he2:autoParam (starEach [Expr.Call (.Name "set" p') [e] [] pos'] X.env=[(false,eval (.Call (.Name "set" p') [e] [] pos') X.env)]) qQJ) (hK:autoParam (X.K=K) qQJ) (hc:autoParam (X.calm=true) qQJ): DE K X (.Call (.Name "len" p) [.Call (.Name "set" p') [e] [] pos'] [] pos) (KW t):=by subst hK;refine⟨λy=>(wA (X:=y.cx) (Ez (X:=y.cx) rfl rfl) hg hm aI (Xy (tI (X:=y.cx) (Ey (X:=y.cx) rfl rfl rfl hc) Yv hm' OJ (Xy (h.of y) Aq hp) (by decide) (by decide) he rfl) Aq rfl) (by decide) (by decide) he2 rfl).mono λτ H Q ⟨σ,S,R,Z,aC,hS,q,hR,hZ⟩=>?_⟩;refine{σ,S,_,Z,aC,hS,q,λx S1 v H1 ⟨ss,h1,hl,r1⟩ v1 s1 k1=>?_,hZ};obtain⟨a,xs,rfl,hq,t⟩:=h1.at s1 v1;rw[t.strs]at hq;exact{a,ss,rfl,hq,hl,λl hl=>{l,ss,rfl,aD,hR _ _ _ _ r1 (aO _) (s1.grow hl)<|k1.trans<|.new hl}}
end
theorem EL{K:Frag}{S:aw}{H:Hp}{l:Addr}(hS:Rs K S H)(h:S l=some .well):∃x y z:Int,Rs K (S.set l<|.lst [.int x,.int y,.int z]) H:=by obtain⟨x,y,z,e⟩:∃x y z:Int,H l=some (.lst [.int x,.int y,.int z]):=hS l _ h;refine{x,y,z,λb c hb=>?_};by_cases q:b=l;subst q;rw[aa]at hb;cases hb;exact{_,e,aS (aO x)<|aS (aO y)<|aS (aO z) bz};rw[ae q]at hb;exact hS b c hb
theorem tZ{K:Frag}{S:aw}{H:Hp}{l:Addr}{x y z:Int}(h:S l=some .well)(hS:Rs K (S.set l<|.lst [.int x,.int y,.int z]) H):Rs K S H:=λb c hb=>by by_cases q:b=l;subst q;rw[h]at hb;cases hb;obtain⟨xs,e,t⟩:=hS.lst (a:=b) aa;rw[t.ints (bs:=[x,y,z])]at e;exact⟨x,y,z,e⟩;exact hS b c<|by rw[ae q];exact hb
def Pe(pre:List D->Addr->Prop)(post:List D->D->Prop):jE:=λds S R _=>∃l x y z,pre ds l/\S l=some (.lst [.int x,.int y,.int z])/\∀d x' y' z',post ds d->R d (S.set l<|.lst [.int x',.int y',.int z'])
def Hh(pre:List D->Addr->Prop)(post:List D->D->Prop):jE:=λds S R _=>∃l,pre ds l/\S l=some .well/\∀d,post ds d->R d S
theorem EM{P:Program}{w:World}{K:Frag}{mg:Str->Option Value}{base:Heap}{k:Nat}{f:Addr}{fd:FuncData}{ps:List Str}{pre:List D->Addr->Prop}{post:List D->D->Prop} (F:bG P w K mg base (eU P w mg) k f fd ps<|ph K<|Pe pre post):bG P w K mg base (eU P w mg) k f fd ps (ph K<|Hh pre post):=by refine F.imp λvs H Q E ⟨ds,S,R,Z,v,hS,⟨l,hp,hw,h⟩,hR,hZ⟩=>?_;obtain⟨x,y,z,ow⟩:=EL hS hw;refine{ds,_,λd S2=>∃x' y' z',post ds d/\S2=S.set l (.lst [.int x',.int y',.int z']),λ_ _=>False,v,ow,{l,x,y,z,hp,aa,λd x' y' z' hd=>⟨x',y',z',hd,eO⟩},λd S2 u H' ⟨x',y',z',hd,e⟩ rv hs kp=>?_,λ_ _ _ q=>q.elim};subst e;exact hR d S u H' (h d hd) rv (tZ hw hs) kp
theorem gy:bootBuiltins "sorted"= some (.builtin "sorted"):=by trivial
def Sub(S S':aw):Prop:=∀b c,S b=some c->S' b=some c
theorem Sub.refl(S:aw):Sub S S:=λ_ _ h=>h
theorem Sub.trans(a:Sub S S1)(b:Sub S1 S2):Sub S S2:=λp c h=>b p c<|a p c h
theorem Sub.new(h:S p=none):Sub S (S.set p c):=λb c' hb=>by rw[ae<|eP hb h];exact hb
theorem Rs.sub{K:Frag}{S S':aw}{H:Hp}(h:Rs K S' H)(s:Sub S S'):Rs K S H:=λa c e=>h a c<|s a c e
inductive Fo (S':aw) (p:aw->Prop):Prop where
 |mk (S:aw) (h:Sub S S') (r:p S):Fo S' p
theorem fo(h:p S):Fo S p:={S,.refl S,h}
section
variable{P:Program}{w:World}{K:Frag}{mg:Str->Option Value}{base:Heap}
theorem uK.ok{x qual:Str}{st:Stmt}{f:Addr}{fd:FuncData}{N ps:List Str}{k:Nat}{sp:jE}(F:uK K x qual st f fd)(S:fE N ps<|ag st)(len:∀ds S R Z,sp ds S R Z->ds.length=ps.length) (lG:∀(gu:Value)(A:Around)(outer:List Env)(s:Shared)(H:Hp)(E:XK)(ds:List D)(S:aw)(R:KD)(Z:KX),bO k (A.deeper<|envOfC qual (ag st) s.heap.objs.size f gu)->sp ds S R Z->∃t,FU K (jP (eU P w mg) P w K mg base N qual (ag st) f gu A outer s H E) true (aY st) t/\t {nx:=λ_ S'=>Fo S'<|R .ax,rt:=λd S'=>Fo S'<|R d} (g8 N ds) S λ_ C S'=>Fo S'<|Z C):bG P w K mg base (eU P w mg) (k+1) f fd ps (ph K sp):=by
 have F2:bG P w K mg base (eU P w mg) (k+1) f fd ps (ph K λds S R' Z'=>∃R Z,sp ds S R Z/\R'=(λd S'=>Fo S'<|R d)/\Z'=λC S'=>Fo S'<|Z C):=by refine F.okD S (by rintro ds S R Z ⟨R0,Z0,h,_⟩;exact len _ _ _ _ h) λgu A outer s H E ds S R Z hr ⟨R0,Z0,h,e1,e2⟩=>?_;subst e1 e2;exact lG gu A outer s H E ds S R0 Z0 hr h
 refine F2.imp <| by rintro vs H Q E ⟨ds,S,R,Z,v,hS,h,hR,hZ⟩;exact{ds,S,_,_,v,hS,⟨R,Z,h,rfl,rfl⟩,by rintro d S' u H' ⟨S2,sb,r⟩ rv rs kp;exact hR d S2 u H' r rv (rs.sub sb) kp,by rintro C S' H' ⟨S2,sb,r⟩ rs kp;exact hZ C S2 H' r (rs.sub sb) kp}
end
section
variable{K:Frag}{X:Cx}{b:Bool}
def T4(t:lA):lA:=λDe σ S Z=>∃P:SD->aw->Prop,t {De with nx:=λaJ S'=>Fo S'<|P aJ} σ S Z/\∀aJ S',P aJ S'->De.nx aJ S'
theorem A4{st:Stmt}{t:lA}(h:DS K X b st t):DS K X b st (T4 t):=⟨λy=>(h.of y).mono <| by rintro D τ H ⟨σ,S,De,Z,aC,hS,⟨P,q,hP⟩,hD,hZ⟩;exact{σ,S,_,Z,aC,hS,q,{by rintro wd S1 Yj H1 ⟨S2,sb,r1⟩ a b c;exact hD.nx _ _ _ _ (hP _ _ r1) a (b.sub sb) c,hD.rt,hD.bk,hD.ct},hZ}⟩
def dFo(t:TD):TD:=λσ S R Z=>t σ S (λd S'=>Fo S'<|R d) Z
theorem uM{t:TD}(h:DE K X e t):DE K X e (dFo t):=⟨λy=>(h.of y).mono <| by rintro τ H Q ⟨σ,S,R,Z,aC,hS,q,hR,hZ⟩;exact{σ,S,_,Z,aC,hS,q,by rintro d S' v H' ⟨S2,sb,r⟩ rv rs kp;exact hR d S2 v H' r rv (rs.sub sb) kp,hZ}⟩
theorem pj(nd:N.Nodup)(h0:autoParam (N[0]?=some a) qQJ)(hx:autoParam (∀C s H ex pn,Loc (iw X N scope C s H ex pn).env.scope a/\(iw X N scope C s H ex pn).env.scope.names.lookup a=some .local) qJQ): ∀C s H ex pn,PG (iw X N scope C s H ex pn) (.Name a p) (gr 0):=λC s H ex pn=>lF (i:=0) nd h0 (hx C s H ex pn).1<|.inr (hx C s H ex pn).2
theorem VZ(nd:N.Nodup)(h0:autoParam (N[0]?=some a) qQJ)(h1:autoParam (N[1]?=some c) qQJ) (hx:autoParam (∀C s H ex pn,Loc (iw X N scope C s H ex pn).env.scope a/\(iw X N scope C s H ex pn).env.scope.names.lookup a=some .local) qJQ) (hy:autoParam (∀C s H ex pn,Loc (iw X N scope C s H ex pn).env.scope c/\(iw X N scope C s H ex pn).env.scope.names.lookup c=some .local) qJQ) (hl:∀env:Env,(assignEach [.Name a p,.Name c p'] env).length=2/\(assignEach [.Name a p,.Name c p'] env).findIdx? (·.1)=none/\(assignEach [.Name a p,.Name c p'] env).map (·.2)=assign (.Name a p) env::(assignEach [.Name c p'] env).map (·.2)/\(assignEach [.Name c p'] env).map (·.2)=assign (.Name c p') env::(assignEach [] env).map (·.2):=by intro _;exact⟨rfl,rfl,rfl,rfl⟩) (hK:autoParam (X.K=K) qQJ) (hc:autoParam (X.calm=true) qQJ): ∀C s H ex pn,PG (iw X N scope C s H ex pn) (.Tuple [.Name a p,.Name c p'] j p2) (JN K 2<|pX (gr 0)<|pX (gr 1) JM):=λC s H ex pn=>by subst hK;have e:=hl (iw X N scope C s H ex pn).env;exact Gg (X:=iw X N scope C s H ex pn) hc (pY (lF (i:=0) nd h0 (hx C s H ex pn).1<|.inr (hx C s H ex pn).2) (pY (lF (i:=1) nd h1 (hy C s H ex pn).1<|.inr (hy C s H ex pn).2) Cb e.2.2.2) e.2.2.1) e.1 e.2.1
end
theorem qw:∀{ss:List Str}{au:List Value},Vals (ss.map V.str) au->StrsAre au ss|[],_,.nil=>.nil|z::ss,_,.cons r t=>by obtain⟨tk,rfl⟩:=r;exact .cons z tk<|qw t
end L2
namespace HT
open PySem PySem.Spec PyProof.Rows
end HT
namespace L2
open PySem PySem.Spec PyProof.Rows
inductive Hi (S:aw):List D->List PyData->Prop where
 |nil:Hi S [] []
 |cons {d:D}{p:PyData}{ds:List D}{ps:List PyData} : Dl S d p->Hi S ds ps->Hi S (d::ds) (p::ps)
section
variable{K:Frag}
def T5:EG:=λx ds S R=>∃z texts d,x=.str z/\ds=[d]/\wg S d (texts.map D.str)/\JoinOk z texts=true/\R (.str<|Txt.join z texts) S
theorem Pf:KN K "str.join" T5:=by rintro X hK pins s σ H x xs v us Q I rx rs ⟨d,ds,S,R,r1,r2,hS,⟨z,texts,d',e1,e2,e3,hj,h⟩,hR⟩;subst hK e1 e2;obtain⟨w0,rfl,q2⟩:=r2.one;obtain⟨a,ys,rfl,q,t⟩:=e3.at hS q2;have et:=t.strs;subst et;exact KJ pins s σ H _ _ v us Q I rx rs {z,a,texts,r1.str,rfl,q,hj,hR.now hS h<|gX _}
theorem nu(f:α->β):∀(l:List α)(j:Nat),(l.eraseIdx j).map f=(l.map f).eraseIdx j|[],_=>rfl|_::_,0=>rfl|x::l,j+1=>by rw[List.eraseIdx_cons_succ,zq,zq,List.eraseIdx_cons_succ,nu f l j]
noncomputable def CD(p:Str×D):D:=.tup [.str p.1,p.2]
noncomputable def f_(l:List<|Str×D):List (Key×D):=l.foldl (λc p=>dput c (.inr p.1) p.2) []
theorem CF:∀{kvs:List (Str×D)}{ys:List V},RvAll K H (kvs.map CD) ys->∃kv:List (Str×V),Z6 H ys kv/\∀c c',bR K H c c'->bR K H (kvs.foldl (λc p=>dput c (.inr p.1) p.2) c) (kv.foldl (λc p=>putK c (.inr p.1) p.2) c')|[],ys,h=>(by rw[h.nil];exact{[],{rfl,λi x p e=>(by cases i<;>cases e)},λc c' h=>h})|p::kvs,ys,h=>by obtain⟨y,ys,rfl,r1,r2⟩:=h.cons;obtain⟨b,zs,rfl,hb,tz⟩:=Rv.tup<|show Rv K H (.tup [.str p.1,p.2]) y from r1;obtain⟨v,u,rfl,rv,ru⟩:=tz.two;have ev:=rv.str;subst ev;obtain⟨kv,⟨hl,hp⟩,hf⟩:=CF r2;refine{(p.1,u)::kv,{by rw[zJ,zJ,hl],λi x q e1 e2=>?_},λc c' h=>hf _ _<|h.put (.inr p.1) ru};cases i with|zero=>(cases e1;cases e2;exact⟨b,rfl,hb⟩)|succ i=>exact hp i x q e1 e2
def T6:List D->aw->KD->Prop:=λds S R=>∃kvs:List (Str×D),ds=[.tup<|kvs.map CD]/\∀p,S p=none->R (.ref p) (S.set p<|.cU<|f_ kvs)
theorem Hj:fF K (.type "dict") T6:=by rintro X hK hc pins s σ H xs us Q I rx ⟨ds,S,R,r,hS,⟨kvs,e,h⟩,hR⟩;subst hK e;obtain⟨v,rfl,r1⟩:=r.one;obtain⟨a,ys,rfl,q,t⟩:=r1.tup;obtain⟨kv,hp,hf⟩:=CF t;refine AI hc pins s σ H _ us Q I rx {a,ys,kv,rfl,q,hp,λl hl=>?_};have kn:Kp X.K H (upd H l<|.dK<|Cu kv):=.new hl;exact hR _ _ _ _ (h l<|hS.fresh hl) (gY l) (hS.new (c:=.cU<|f_ kvs) hl {_,aD,(hf [] [] .nil).ts kn}) kn
theorem w_(kvs:List<|Key×D)(k k':Key)(d:D):bT (dput kvs k d) k'=if k'=k then some d else bT kvs k':=by
 unfold dput;by_cases hk:(kvs.any λkv=>decide<|kv.1=k)=true;rw[if_pos hk];unfold bT;induction kvs with|nil=>(cases hk)|cons r kvs ih=>rw[zq,yb,yb];by_cases e:r.1=k;rw[if_pos e];by_cases e2:k'=k;rw[if_pos e2,show decide (r.1=k')=true from zx (e.trans e2.symm)];rfl;rw[if_neg e2,show decide (r.1=k')=false from zy λq=>e2<|q.symm.trans e];by_cases eY:(kvs.any λkv=>decide<|kv.1=k)=true;have:=ih eY;rw[if_neg e2]at this;exact this;have em:kvs.map (λkv=>if kv.1=k then (kv.1,d) else kv)=kvs:=(by(conv=>rhs;rw[<-List.map_id kvs]);refine zW λx hx=>?_;rw[if_neg λq=>eY<|ym.mpr {x,hx,zx q}];rfl);rw[em];rw[if_neg e];have eY:(kvs.any λkv=>decide<|kv.1=k)=true:=(by rw[yt,zy e,yU]at hk;exact hk);by_cases e3:r.1=k';rw[zx e3,if_neg λq=>e<|e3.trans q];rw[zy e3];exact ih eY
 rw[if_neg hk];unfold bT;rw[List.find?_append];have hn:∀x∈kvs,x.1≠k:=λx hx q=>hk<|ym.mpr {x,hx,zx q};by_cases e:k'=k;subst e;rw[if_pos rfl,List.find?_eq_none.mpr λx hx=>by simp[hn x hx]];simp;rw[if_neg e];have:([(k,d)].find? λkv=>decide<|kv.1=k')=none:=by rw[yb,show decide (k=k')=false from zy λq=>e q.symm];rfl
 rw[this,Option.or_none]
theorem t5(l:List<|Str×D)(z:Str):(bT (f_ l)<|.inr z).isSome=l.any λp=>decide (p.1=z):=by
 have all:∀(l:List (Str×D))(c:List (Key×D)),(bT (l.foldl (λc p=>dput c (.inr p.1) p.2) c)<|.inr z).isSome=((bT c<|.inr z).isSome||l.any λp=>decide<|p.1=z):=by intro l;induction l with|nil=>intro c;simp|cons p l ih=>intro c;rw[yP,ih,w_,yt];by_cases e:p.1=z;rw[if_pos<|by rw[e],zx e];simp;rw[if_neg λq=>e (yM q).symm,zy e];simp
 exact(all l []).trans<|by rfl
def T7(a:Addr)(kvs:List<|Str×V):tV:=λx y S R=>∃z,x=.str z/\y=.ref a/\R (.bl (kvs.lookup z).isSome) S
theorem Yw{X:Cx}{a b:Expr}{ta tb:TD}{pos:Pos}{w:World}{ad:Addr}{kvs:List<|Str×V}(d:Jq w K ad kvs)(ha:DE K X a ta)(hb:DE K X b tb)(hw:autoParam (X.w=w) qQJ)(hm:autoParam (behindInMarks .In b=false) qQ2)(hK:autoParam (X.K=K) qQJ): DE K X (.Compare a [.In] [b] pos) (OX (T7 ad kvs) ta tb):=by refine⟨λy=>(Ci (X:=y.cx) (r:=Lr K<|T7 ad kvs) ?_ (ha.of y) (hb.of y) hm).mono λ_ _ _ h=>h.op⟩;rintro pins s σ H x y' v u Q I rx ry ⟨d',e,S,R,r1,r2,hS,⟨z,e1,e2,h⟩,hR⟩;subst e1 e2;exact GY (X:=y.cx) hw hK pins s σ H x y' v u Q I rx ry {z,ad,kvs,r1.str,r2.ref,d,hR.now hS h<|bp _}
end
structure T8(k:Nat)(A:Around):Prop where
 dp:A.depth+3*k+5<recursionLimit
 un:A.units+16*k+200<cLine
structure FnH(P:Program)(w:World)(K:Frag)(mg:Str->Option Value)(base:Heap)(k:Nat)(f:Addr)(fd:FuncData)(ps:List Str)(sp:jE):Prop where
 len:∀ds S R Z,sp ds S R Z->ds.length=ps.length
 run:∀(A:Around)(outer:List Env)(s:Shared)(H:Hp)(args:Args)(us:List Value)(vs:List V)(Q:VK),T8 k A->wx P w K mg base A outer s H->BindsTo s fd args (ps.zip us)->Vals vs us->ph K sp vs H Q E0 ->
  codeAny (model P w) A (.call (.ref f) args) (CR (eU P w mg) outer P w H s Q E0) s
section
variable{K:Frag}
def Yx:List D->aw->KD->Prop:=λds S R=>∃n,ds=[.int n]/\n.natAbs.log2<1920/\R (.str<|Str.ofString<|toString n) S
theorem T9:fF K (.type "str") Yx:=by rintro X hK hc pins s σ H xs us Q I rx ⟨ds,S,R,r,hS,⟨n,e,h1,h⟩,hR⟩;subst hK e;obtain⟨v,rfl,r1⟩:=r.one;have ev:=r1.int;subst ev;obtain⟨u,rfl,ru⟩:=vals1 rx;obtain⟨t,rfl⟩:=ru;exact PySem.P.str_of_int h1 {.str _,H,I.tok _,{_,rfl},hR.now hS h<|gX _}
end
def PEg(pre:Nat)(X:Cx)(e:Expr)(t:TE):Prop:=∀(pins:List (Addr×Obj))(s:Shared)(σ:St)(H:Hp)(Q:VK),Inv X pins σ H s->pre<=s.toks->t σ H Q->wpAny (model X.prog X.w) X.A (eval e X.env) (λu s'=>EP X pins σ Q u s'/\1<=s'.toks) X.xe s
structure DEg(pre:Nat)(K:Frag)(X:Cx)(e:Expr)(t:TD):Prop where
 of:∀{b:Bool}(y:Ev X b),PEg pre y.cx e<|T K y.E t
theorem Yy{a b:Str}(h:a.cps.toList=b.cps.toList):a=b:=by obtain⟨⟨x⟩⟩:=a;obtain⟨⟨y⟩⟩:=b;cases h;rfl
theorem EN(z:Str):z.cps.size=z.cps.toList.length:=yn.symm
end L2
namespace HT
open PySem PySem.Spec PyProof.Rows
end HT
namespace L2
open PySem PySem.Spec PyProof.Rows
section
variable{K:Frag}{X:Cx}
def T_:EG:=λx ds S R=>∃a es fs,x=.ref a/\ds=[.tup fs]/\S a=some (.lst es)/\es.length+fs.length<=sizeLine/\R .ax (S.set a<|.lst<|es++fs)
theorem EO:KN K "list.extend" T_:=by rintro X hK pins s σ H x xs v us Q I rx rs ⟨d,ds,S,R,r1,r2,hS,⟨a,es,fs,e1,e2,e3,hl,h⟩,hR⟩;subst e1 e2;obtain⟨w0,rfl,q2⟩:=r2.one;obtain⟨zs,e5,t⟩:=hS.lst e3;obtain⟨p,ys,rfl,q,t2⟩:=q2.tup;exact AX pins s σ H x _ v us Q I rx rs {a,p,zs,ys,r1.ref,rfl,e5,q,by rw[t.len,t2.len];exact hl,hR.put hS e3 h gW<|t.app t2}
end
section
variable{K:Frag}{X:Cx}{E:XK}
structure DEx(K:Frag)(X:Cx)(E:XK)(e:Expr)(t:TD):Prop where
 of:∀(y:Ev X true),y.E=(λ_=>E)->cJ y.cx E->PE y.cx e (T K y.E t)
structure DAx(K:Frag)(X:Cx)(E:XK)(es:List Expr)(t:g7):Prop where
 of:∀(y:Ev X true),y.E=(λ_=>E)->cJ y.cx E->PA y.cx es (Ta K y.E t)
structure DSx(K:Frag)(X:Cx)(E:XK)(b:List Stmt)(t:lA):Prop where
 of:∀(y:Ev X true),y.E=(λ_=>E)->cJ y.cx E->B9 y.cx b (Tl K y.E t)
variable{N:List Str}{src:List (Option Nat)}{scope:Scope}{tg iter elt:Expr}{ifs:List Expr}{ti:w4}{g:TG}{gd:wZ}{tc:j8}{te:TD}
end
open PySem.Builtin PySem.Builtin.Str
structure M3(X:Cx)(o:Expr)(m:Str)(apos:Pos)(e f g:Expr)(aQ:Pos):Prop where
 base:attributeBase o m X.env (eval o X.env)=eval o X.env
 FP:((backTo aQ<|starEach [e,f,g] X.env).all (λx=>!x.1)&&(backToKw aQ<|keywordEach [] X.env).all (λx=>x.1.isSome)
  && decide (([e,f,g]:List Expr).length+([]:List Keyword).length+(if ([]:List Keyword).isEmpty then 0 else 1)<30))=true
 line:(apos.endLine==aQ.line)=true
 trees:backTo aQ (starEach [e,f,g] X.env)=[(false,eval e X.env),(false,eval f X.env),(false,eval g X.env)]
section
variable{X:Cx}{t:TE}
def PAg(pre:Nat)(X:Cx)(es:List Expr)(t:TA):Prop:=∀(pos:Pos)(pins:List (Addr×Obj))(s:Shared)(σ:St)(H:Hp)(Q:List V->Hp->Prop),Inv X pins σ H s->pre<=s.toks->t σ H Q->wpAny (model X.prog X.w) X.A (spliced<|backTo pos<|starEach es X.env) (AP X pins σ Q) X.xe s
end
section
variable{K:Frag}{X:Cx}
structure DAg(pre:Nat)(K:Frag)(X:Cx)(es:List Expr)(t:g7):Prop where
 of:∀{b:Bool}(y:Ev X b),PAg pre y.cx es<|Ta K y.E t
end
structure Gh(a₀:Array Keyed)(g:Nat->Nat)(xs:Array Keyed):Prop where
 at_:∀k,k<a₀.size->xs[k]?=a₀[g k]?
 lt:∀k,k<a₀.size->g k<a₀.size
 inj:∀i j,i<a₀.size->j<a₀.size->g i=g j->i=j
def Log(κ:KeyKind)(a₀:Array Keyed)(i j:Nat):Prop:=κ.klt (KK κ a₀ i) (KK κ a₀ j)\/(KK κ a₀ i=KK κ a₀ j/\i<j)
def A5(κ:KeyKind)(a₀:Array Keyed)(g:Nat->Nat)(k:Nat):Prop:=∀i j,i<j->j<k->Log κ a₀ (g i) (g j)
def V0(κ:KeyKind)(a₀:Array Keyed)(g:Nat->Nat)(k:Nat):Prop:=∀i j,i<j->j<k->Log κ a₀ (g j) (g i)
def ER(g:Nat->Nat)(m n:Nat):Prop:=∀k,m<=k->k<n->g k=k
noncomputable def Hk(g:Nat->Nat)(i j k:Nat):Nat:=if i<=k/\k<j then g (i+j-1-k) else g k
noncomputable def KY(g:Nat->Nat)(src l k:Nat):Nat:=if k=l then g src else if l<k/\k<=src then g (k-1) else g k
section
variable{κ:KeyKind}{a₀ xs:Array Keyed}{g:Nat->Nat}
theorem Log.kle(h:Log κ a₀ i j):κ.kle (KK κ a₀ i) (KK κ a₀ j):=by rcases h with h|⟨h,_⟩;exact KeyOrd.kle_of_klt h;rw[h];exact KeyOrd.kle_refl _
theorem MP(h:κ.kle (KK κ a₀ i)<|KK κ a₀ j)(hl:i<j):Log κ a₀ i j:=by cases q:κ.blt (KK κ a₀ i) (KK κ a₀ j) with|true=>exact .inl q|false=>exact .inr {KeyOrd.kle_antisymm h q,hl}
theorem Gh.low(h:Gh a₀ g xs)(t:ER g m a₀.size)(hm:m<=a₀.size)(hi:i<m):g i<m:=by refine Nat.lt_of_not_le λq=>?_;have h1:=h.lt i (by lia);have h2:=h.inj (g i) i h1 (by lia)<|t (g i) q h1;lia
theorem Gh.key(h:Gh a₀ g xs)(hk:k<a₀.size):KK κ xs k=KK κ a₀ (g k):=KK_congr<|h.at_ k hk
theorem Gh.mirror(h:Gh a₀ g xs)(hs:xs.size=a₀.size)(hj:j<=a₀.size):Gh a₀ (Hk g i j) (mirror xs i j<|(j-i)/2) where
 at_:=λk hk=>by
  rw[getElem?_mirror_all<|by lia]
  unfold Hk
  by_cases q:i<=k/\k<j
  ·rw[if_pos q,if_pos q];exact h.at_ _<|by lia
  ·rw[if_neg q,if_neg q];exact h.at_ _ hk
 lt:=λk hk=>by
  unfold Hk
  by_cases q:i<=k/\k<j
  ·rw[if_pos q];exact h.lt _<|by lia
  ·rw[if_neg q];exact h.lt _ hk
 inj:=λa b ha hb e=>by
  unfold Hk at e
  by_cases q:i<=a/\a<j<;>by_cases r:i<=b/\b<j
  ·rw[if_pos q,if_pos r]at e;have:=h.inj _ _ (by lia) (by lia) e;lia
  ·rw[if_pos q,if_neg r]at e;have:=h.inj _ _ (by lia) (by lia) e;lia
  ·rw[if_neg q,if_pos r]at e;have:=h.inj _ _ (by lia) (by lia) e;lia
  ·rw[if_neg q,if_neg r]at e;exact h.inj _ _ ha hb e
theorem Gh.bubble(h:Gh a₀ g xs)(hs:xs.size=a₀.size)(hl:l<=src)(hj:src<a₀.size):Gh a₀ (KY g src l) (bubble xs src<|src-l) where
 at_:=λk hk=>by
  rw[getElem?_bubble (by lia) _<|by lia,show src-(src-l)=l by lia]
  unfold KY
  by_cases q:k=l
  ·rw[if_pos q,if_pos q];exact h.at_ _ hj
  ·rw[if_neg q,if_neg q]
   by_cases r:l<k/\k<=src
   ·rw[if_pos r,if_pos r];exact h.at_ _<|by lia
   ·rw[if_neg r,if_neg r];exact h.at_ _ hk
 lt:=λk hk=>by
  unfold KY
  by_cases q:k=l
  ·rw[if_pos q];exact h.lt _ hj
  ·rw[if_neg q]
   by_cases r:l<k/\k<=src
   ·rw[if_pos r];exact h.lt _<|by lia
   ·rw[if_neg r];exact h.lt _ hk
 inj:=λa b ha hb e=>by
  unfold KY at e
  repeat' split at e
  all_goals (have:=h.inj _ _ (by lia) (by lia) e;lia)
theorem g_(h:i<=k/\k<j):Hk g i j k=g (i+j-1-k):=by unfold Hk;rw[if_pos h]
theorem fI(h:¬(i<=k/\k<j)):Hk g i j k=g k:=by unfold Hk;rw[if_neg h]
end
section
variable{prog:Program}{w:World}{A:Around}{E:Value->Shared->Prop}{s:Shared}{a₀:Array Keyed}{κ:KeyKind}
theorem MQ{st:SortSt}{g:Nat->Nat}{a top:Nat}{Q:AscSt->SortSt->Prop}(hO:κ.OneLt)(h0:KeysOf κ a₀)(ht:top<=a₀.size)(h1:1<=a)(h2:a<=top)(B:SBase a₀ st)(G:Gh a₀ g<|arrOf st)(T:ER g a a₀.size)(U:A5 κ a₀ g a) (h:∀n,a<=n->n<=top->A5 κ a₀ g n->(n=top\/κ.klt (KK κ a₀<|g n) (KK κ a₀<|g<|n-1))->Q (none,n) st):wpS (model prog w) A E s (ascLoop a top) Q st:=by
 unfold ascLoop;refine wpS_forRange (I:=λx c t=>t=st/\c=(none,x)/\A5 κ a₀ g x) ?_ ?_ ⟨rfl,rfl,U⟩;rintro x c t Q0 KR ⟨rfl,rfl,V⟩;dsimp only;refine wpS_bind<|wpS_ltKK hO B h0 (by lia) (by lia) ?_;rw[G.key<|by lia,G.key<|by lia];cases q:κ.blt (KK κ a₀<|g x) (KK κ a₀<|g<|x-1) with|true=>exact wpS_pure (h x Q0 (by lia) V<|.inr q)|false=>refine wpS_pure {rfl,rfl,λi j kH hj=>?_};rcases Nat.lt_or_ge j x with z|z;exact V i j kH z;obtain rfl:j=x:=(by lia);have lw:=G.low (m:=j) (λk hk eY=>T k (by lia) eY) (by lia) kH;rw[T j Q0<|by lia]at q⊢;refine MP ?_ lw;rcases Nat.lt_or_ge i (j-1) with y|y;exact KeyOrd.kle_trans (V i (j-1) y<|by lia).kle q;obtain rfl:i=j-1:=(by lia);exact q
 rintro c t ⟨rfl,rfl,V⟩;rw[show max a top=top by lia]at V⊢;exact h top h2 (zp _) V<|.inl rfl
theorem Hl{st:SortSt}{g:Nat->Nat}{n top:Nat}{Q:Option Nat->SortSt->Prop}(hO:κ.OneLt)(h0:KeysOf κ a₀)(ht:top<=a₀.size)(h1:1<=n)(h2:n<=top)(B:SBase a₀ st)(G:Gh a₀ g<|arrOf st)(T:ER g n a₀.size)(D:V0 κ a₀ g n) (h:∀m g' dW,SBase a₀ dW->Gh a₀ g' (arrOf dW)->ER g' m a₀.size->1<=m->m<=top->A5 κ a₀ g' m->Q (some m) dW):wpS (model prog w) A E s (tail3 n top) Q st:=by
 unfold tail3;refine wpS_bind<|wpS_reverse ?_;have B':SBase a₀ (setArr st<|mirror (arrOf st) 0 n<|(n-0)/2):=B.setArr<|mirror_perm _ _ _ _;have G':Gh a₀ (Hk g 0 n) (arrOf<|setArr st<|mirror (arrOf st) 0 n<|(n-0)/2):=G.mirror B.size (by lia);have T':ER (Hk g 0 n) n a₀.size:=λk hk eY=>by rw[fI<|by lia];exact T k hk eY
 refine wpS_bind<|MQ hO h0 ht h1 h2 B' G' T' (λi j kH hj=>?_) λm V1 Jw V _=>wpS_pure<|h m _ _ B' G' (λk hk eY=>T' k (by lia) eY) (by lia) Jw V;rw[g_<|by lia,g_<|by lia];exact D _ _ (by lia)<|by lia
structure Jx(κ:KeyKind)(a₀:Array Keyed)(g:Nat->Nat)(x q:Nat):Prop where
 le:q+1<=x
 tl:ER g (x-(q+1)) a₀.size
 dn:∀i j,i<j->j<x->i<x-(q+1)->Log κ a₀ (g j) (g i)
 eq:∀i,x-(q+1)<=i->i<x->KK κ a₀ (g i)=KK κ a₀ (g<|x-1)
theorem Jx.full(F:Jx κ a₀ g x q)(hx:x<=a₀.size):V0 κ a₀ (Hk g (x-(q+1)) x) x:=λi j kH hj=>by have le:=F.le;by_cases hi:i<x-(q+1);rw[fI (k:=i)<|by lia];by_cases V2:j<x-(q+1);rw[fI<|by lia];exact F.dn i j kH hj hi;rw[g_<|by lia];exact F.dn i _ (by lia) (by lia) hi;rw[g_<|by lia,g_<|by lia];refine .inr {(F.eq _ (by lia)<|by lia).trans (F.eq _ (by lia)<|by lia).symm,?_};rw[F.tl _ (by lia)<|by lia,F.tl _ (by lia)<|by lia];lia
theorem Jx.MR(F:Jx κ a₀ g x 0):V0 κ a₀ g x:=λi j kH hj=>F.dn i j kH hj<|by lia
theorem Jx.next(D:V0 κ a₀ g x)(T:ER g x a₀.size)(hx:x<a₀.size)(h1:1<=x)(hl:κ.klt (KK κ a₀<|g x)<|KK κ a₀<|g<|x-1):Jx κ a₀ g (x+1) 0 where
 le:=by lia
 tl:=λk hk eY=>T k (by lia) eY
 dn:=λi j kH hj hi=>by
  by_cases V2:j<x
  ·exact D i j kH V2
  ·obtain rfl:j=x:=by lia
   refine .inl ?_
   by_cases q:i=j-1
   ·rw[q];exact hl
   ·exact KeyOrd.klt_of_klt_of_kle hl (D i (j-1) (by lia)<|by lia).kle
 eq:=λi hi hj=>by rw[show i=x+1-1 by lia]
theorem Pg{st:SortSt}{g:Nat->Nat}{n top:Nat}{Q:DescSt->SortSt->Prop}(hO:κ.OneLt)(h0:KeysOf κ a₀)(ht:top<=a₀.size)(h1:1<=n)(h2:n<=top)(B:SBase a₀ st)(G:Gh a₀ g<|arrOf st)(F:Jx κ a₀ g n 0) (h:∀m q g' dW,SBase a₀ dW->Gh a₀ g' (arrOf dW)->n<=m->m<=top->Jx κ a₀ g' m q->Q (none,m,q) dW):wpS (model prog w) A E s (descLoop n top) Q st:=by
 unfold descLoop;refine wpS_forRange (I:=λx c t=>∃q g',c=(none,x,q)/\SBase a₀ t/\Gh a₀ g' (arrOf t)/\Jx κ a₀ g' x q) ?_ ?_ {0,g,rfl,B,G,F};rintro x c t Q0 KR ⟨q,g',rfl,B',G',F'⟩;have le:=F'.le;dsimp only;refine wpS_bind<|wpS_ltKK hO B' h0 (by lia) (by lia) ?_;rw[G'.key<|by lia,G'.key<|by lia];cases hl:κ.blt (KK κ a₀<|g' x) (KK κ a₀<|g'<|x-1) with|true=>(simp only[if_true];by_cases hq:q>0;rw[if_pos hq];refine wpS_bind<|wpS_reverse<|wpS_pure {0,_,rfl,B'.setArr<|mirror_perm _ _ _ _,G'.mirror B'.size<|by lia,?_};refine .next (F'.full<|by lia) (λk hk eY=>?_) (by lia) (by lia) ?_;rw[fI<|by lia];exact F'.tl k (by lia) eY;rw[fI<|by lia,g_<|by lia,F'.eq (x-(q+1)+x-1-(x-1)) (by lia)<|by lia];exact hl;rw[if_neg hq];obtain rfl:q=0:=(by lia);exact wpS_pure {0,g',rfl,B',G',.next F'.MR (λk hk eY=>F'.tl k (by lia) eY) (by lia) (by lia) hl})|false=>simp only[Bool.false_eq_true,if_false];refine wpS_bind<|wpS_ltKK hO B' h0 (by lia) (by lia) ?_;rw[G'.key<|by lia,G'.key<|by lia];cases hg:κ.blt (KK κ a₀<|g'<|x-1) (KK κ a₀<|g' x) with|true=>exact wpS_pure (h x q g' t B' G' Q0 (by lia) F')|false=>have e:KK κ a₀ (g' x)=KK κ a₀ (g'<|x-1):=KeyOrd.kle_antisymm hg hl;refine wpS_pure {q+1,g',rfl,B',G',{by lia,λk hk eY=>F'.tl k (by lia) eY,λi j kH hj hi=>?_,λi hi hj=>?_}};by_cases V2:j<x;exact F'.dn i j kH V2 (by lia);obtain rfl:j=x:=(by lia);have:=F'.dn i (j-1) (by lia) (by lia) (by lia);rcases this with z|⟨_,z⟩;exact .inl (by rw[e];exact z);rw[F'.tl (j-1) (by lia)<|by lia]at z;have:=G'.low (m:=j-(q+1)) F'.tl (by lia) (i:=i) (by lia);lia;rw[show x+1-1=x by lia];by_cases TN:i=x;rw[TN];rw[e];exact F'.eq i (by lia)<|by lia
 rintro c t ⟨q,g',rfl,B',G',F'⟩;rw[show max n top=top by lia]at F'⊢;exact h top q g' t B' G' h2 (zp _) F'
theorem Hm{st:SortSt}{g:Nat->Nat}{n top:Nat}{Q:Option Nat->SortSt->Prop}(hO:κ.OneLt)(h0:KeysOf κ a₀)(ht:top<=a₀.size)(h2:n+1<=top)(B:SBase a₀ st)(G:Gh a₀ g<|arrOf st)(F:Jx κ a₀ g (n+1) 0) (h:∀m g' dW,SBase a₀ dW->Gh a₀ g' (arrOf dW)->ER g' m a₀.size->1<=m->m<=top->A5 κ a₀ g' m->Q (some m) dW):wpS (model prog w) A E s (descPart n top) Q st:=by
 unfold descPart;refine wpS_bind<|wpS_lift<|wpAny_rule {rfl,?_};refine wpS_bind<|Pg hO h0 ht (by lia) h2 B G F λm q g' dW B' G' V1 Jw F'=>?_;have le:=F'.le;dsimp only;by_cases hq:q>0;rw[if_pos hq];refine wpS_bind<|wpS_reverse<|Hl hO h0 ht (by lia) Jw (B'.setArr<|mirror_perm _ _ _ _) (G'.mirror B'.size<|by lia) (λk hk eY=>?_) (F'.full<|by lia) h;rw[fI<|by lia];exact F'.tl k (by lia) eY;rw[if_neg hq];obtain rfl:q=0:=by lia
 exact Hl hO h0 ht (by lia) Jw B' G' (λk hk eY=>F'.tl k (by lia) eY) F'.MR h
theorem Ua{st:SortSt}{g:Nat->Nat}{top:Nat}{Q:Option Nat->SortSt->Prop}(hO:κ.OneLt)(h0:KeysOf κ a₀)(ht:top<=a₀.size)(h1:1<=top)(B:SBase a₀ st)(G:Gh a₀ g<|arrOf st)(T:ER g 0 a₀.size) (h:∀m g' dW,SBase a₀ dW->Gh a₀ g' (arrOf dW)->ER g' m a₀.size->1<=m->m<=top->A5 κ a₀ g' m->Q (some m) dW):wpS (model prog w) A E s (countRun' 0 top) Q st:=by
 rw[countRun0_eq];refine wpS_bind<|MQ hO h0 ht (zp 1) h1 B G (λk hk eY=>T k (by lia) eY) (λi j kH hj=>by lia) λn Ph Jo U hor=>?_;dsimp only;have Tn:∀m,ER g m a₀.size:=λm k hk eY=>T k (by lia) eY;by_cases MS:n=top;rw[if_pos<|by simpa using MS];exact wpS_pure<|h n g st B G (Tn n) Ph Jo U;rw[if_neg<|by simpa using MS];have eN:=hor.resolve_left MS;by_cases V3:n>1;rw[if_pos V3];refine wpS_bind<|wpS_ltKK hO B h0 (by lia) (by lia) ?_;rw[G.key<|by lia,G.key<|by lia];cases hr:κ.blt (KK κ a₀<|g 0) (KK κ a₀<|g<|n-1) with|true=>exact wpS_pure (h n g st B G (Tn n) Ph Jo U)|false=>simp only[Bool.false_eq_true,if_false];have all:∀k,k<n->KK κ a₀ (g k)=KK κ a₀ (g<|n-1):=λk hk=>(by have a1:κ.kle (KK κ a₀<|g 0) (KK κ a₀<|g k):=(by by_cases z:k=0;rw[z];exact KeyOrd.kle_refl _;exact(U 0 k (by lia) hk).kle);have a2:κ.kle (KK κ a₀<|g k) (KK κ a₀<|g<|n-1):=(by by_cases z:k=n-1;rw[z];exact KeyOrd.kle_refl _;exact(U k (n-1) (by lia)<|by lia).kle);exact KeyOrd.kle_antisymm a2<|KeyOrd.kle_trans hr a1);refine wpS_bind<|wpS_reverse<|Hm hO h0 ht (by lia) (B.setArr<|mirror_perm _ _ _ _) (G.mirror B.size<|by lia) ?_ h;refine .next (λi j kH hj=>?_) (λk hk eY=>by rw[fI<|by lia];exact T k (by lia) eY) (by lia) (by lia) ?_;rw[g_<|by lia,g_<|by lia];refine .inr {(all _<|by lia).trans (all _<|by lia).symm,?_};rw[T _ (by lia)<|by lia,T _ (by lia)<|by lia];lia;rw[fI<|by lia,g_<|by lia,all (0+n-1-(n-1))<|by lia];exact eN
 rw[if_neg V3];obtain rfl:n=1:=by lia
 exact Hm hO h0 ht (by lia) B G (.next (λi j kH hj=>by lia) (Tn 1) (by lia) (by lia) eN) h
theorem Ub{st:SortSt}{g:Nat->Nat}{n ok:Nat}{Q:Bool->SortSt->Prop}(hO:κ.OneLt)(h0:KeysOf κ a₀)(hn:n<=a₀.size)(aM:ok<=n)(B:SBase a₀ st)(G:Gh a₀ g<|arrOf st)(T:ER g ok a₀.size)(U:A5 κ a₀ g ok) (h:∀g' dW,SBase a₀ dW->Gh a₀ g' (arrOf dW)->A5 κ a₀ g' n->Q true dW):wpS (model prog w) A E s (binarySort' 0 n ok) Q st:=by
 rw[binarySort'_eq];simp only[Nat.zero_add];refine wpS_bind<|wpS_mono (wpS_forRange (I:=λk c t=>c=(none,())/\∃g',SBase a₀ t/\Gh a₀ g' (arrOf t)/\ER g' k a₀.size/\A5 κ a₀ g' (min k n)) (Q:=λc t=>c=(none,())/\∃g',SBase a₀ t/\Gh a₀ g' (arrOf t)/\A5 κ a₀ g' n) ?_ ?_ ?_) ?_;rintro k c t hk1 eY ⟨rfl,g',B',G',T',V⟩;rw[show min k n=k by lia]at V;have hk:k<a₀.size:=by lia
 refine wpS_bind<|wpS_mono (wpS_forRange (I:=λx c t2=>t2=t/\∃l r,c=(none,l,r)/\l<=r/\r<=k/\r-l<=k-x/\(∀i,i<l->κ.kle (KK κ a₀<|g' i) (KK κ a₀<|g' k))/\(∀i,r<=i->i<k->κ.klt (KK κ a₀<|g' k) (KK κ a₀<|g' i))) (Q:=λc t2=>t2=t/\∃l r,c=(none,l,r)/\l<=k/\(∀i,i<l->κ.kle (KK κ a₀<|g' i) (KK κ a₀<|g' k))/\(∀i,l<=i->i<k->κ.klt (KK κ a₀<|g' k) (KK κ a₀<|g' i))) ?_ ?_ ?_) ?_;rintro x c t2 _ hxk ⟨rfl,l,r,rfl,qx,Yz,hm,lo,hi⟩;dsimp only;by_cases V4:l>=r;rw[if_pos V4];obtain rfl:l=r:=by lia
 exact wpS_pure ⟨rfl,l,l,rfl,Yz,lo,hi⟩;rw[if_neg V4];refine wpS_bind<|wpS_ltKK hO B' h0 hk (by lia) ?_;rw[G'.key hk,G'.key<|by lia];cases hl:κ.blt (KK κ a₀<|g' k) (KK κ a₀<|g'<|(l+r)/2) with|true=>refine wpS_pure {rfl,l,(l+r)/2,rfl,by lia,by lia,by lia,lo,λi a b=>?_};by_cases z:i=(l+r)/2;rw[z];exact hl;exact KeyOrd.klt_of_klt_of_kle hl (V _ _ (by lia) b).kle|false=>refine wpS_pure {rfl,(l+r)/2+1,r,rfl,by lia,by lia,by lia,λi a=>?_,hi};by_cases z:i=(l+r)/2;rw[z];exact hl;exact KeyOrd.kle_trans (V i ((l+r)/2) (by lia)<|by lia).kle hl
 rintro c t2 ⟨rfl,l,r,rfl,qx,Yz,hm,lo,hi⟩;obtain rfl:l=r:=by lia
 exact⟨rfl,l,l,rfl,Yz,lo,hi⟩;exact{rfl,0,k,rfl,by lia,by lia,by lia,λi hi=>by lia,λi a b=>by lia};rintro c t2 ⟨rfl,l,r,rfl,YA,lo,hi⟩;show wpS _ _ _ _ (do moveDown' k l;pure (ForInStep.yield (none,()))) _ _;rw[moveDown'_eq];refine wpS_bind<|wpS_modify<|wpS_pure {rfl,_,B'.setArr<|bubble_perm _ _ _,G'.bubble B'.size YA hk,λx Q0 KR=>?_,?_};show KY g' k l x=x;unfold KY;rw[if_neg<|by lia,if_neg<|by lia];exact T' x (by lia) KR;rw[show min (k+1) n=k+1 by lia];have lw:∀i,i<k->g' i<k:=λi q=>G'.low T' (by lia) q;have ek:=T' k (zp _) hk;intro i j kH hj;show Log κ a₀ (KY g' k l i) (KY g' k l j);unfold KY;by_cases i1:i=l;rw[if_pos i1,if_neg<|by lia,if_pos<|by lia];exact .inl<|hi _ (by lia) (by lia);rw[if_neg i1];by_cases j1:j=l;rw[if_pos j1,if_neg<|by lia];have h1:=lo i (by lia);have h2:=lw i (by lia);rw[ek]at h1⊢;exact MP h1 h2;rw[if_neg j1];by_cases i2:l<i/\i<=k<;>by_cases j2:l<j/\j<=k;rw[if_pos i2,if_pos j2];exact V _ _ (by lia) (by lia);lia;rw[if_neg i2,if_pos j2];exact V _ _ (by lia) (by lia);rw[if_neg i2,if_neg j2];exact V _ _ (by lia) (by lia);rintro c t ⟨hc,g',B',G',T',V⟩;refine{hc,g',B',G',?_};rwa [show min (max (max ok 1) n) n=n by lia]at V;refine{rfl,g,B,G,λk hk eY=>T k (by lia) eY,λi j kH hj=>?_};exact U i j kH (by lia);rintro c t ⟨rfl,g',B',G',V⟩;exact wpS_pure<|h g' t B' G' V
def Pj(κ:KeyKind)(a₀:Array Keyed)(st:SortSt):Prop:=failedOf st=none/\pendingOf st=#[(0,a₀.size,0)]/\∃g,(arrOf st).size=a₀.size/\Gh a₀ g (arrOf st)/\A5 κ a₀ g a₀.size
theorem Pk{st:SortSt}{Q:Unit->SortSt->Prop}(hO:κ.OneLt)(h0:KeysOf κ a₀)(B:SBase a₀ st)(e0:arrOf st=a₀)(h2:2<=a₀.size)(FV:a₀.size<64) (h:∀dW g,failedOf dW=none->(arrOf dW).size=a₀.size->Gh a₀ g (arrOf dW)->A5 κ a₀ g a₀.size->Q () dW):wpS (model prog w) A E s sortRuns' Q st:=by
 have G:Gh a₀ (λk=>k) (arrOf st):={λk _=>by rw[e0],λk hk=>hk,λ_ _ _ _ e=>e};have fin:∀(t:SortSt)(g:Nat->Nat),SBase a₀ t->Gh a₀ g (arrOf t)->A5 κ a₀ g a₀.size->Pj κ a₀ (setPending t<|(pendingOf t).push (0,a₀.size,0)):=λt g B' G' U=>{B'.failed,by show(pendingOf t).push _=_;rw[B'.pend];rfl,g,B'.size,G',U};rw[sortRuns'_eq];refine wpS_bind<|wpS_get ?_;dsimp only;have hm:minRun' a₀.size a₀.size 0=a₀.size:=by obtain⟨f,hf⟩:∃f,a₀.size=f+1:={a₀.size-1,by lia};have:minRun' (f+1) a₀.size 0=a₀.size:=(by rw[minRun'_succ,if_pos FV];rfl);rwa [<-hf]at this
 simp only[B.size,hm];refine wpS_bind<|wpS_mono (wpS_forRange (I:=λx c t=>(x=0/\c=(none,0)/\t=st)\/(1<=x/\c=(none,a₀.size)/\Pj κ a₀ t)) (Q:=λc t=>c=(none,a₀.size)/\Pj κ a₀ t) ?_ ?_<|.inl ⟨rfl,rfl,rfl⟩) ?_;rintro x c t _ hx (⟨rfl,rfl,rfl⟩|⟨Q0,rfl,D⟩);dsimp only;rw[if_neg<|by lia];simp only[Nat.sub_zero,Nat.min_self,Nat.zero_add];refine wpS_bind<|Ua hO h0 (zp _) (by lia) B G (λ_ _ _=>rfl) λm g' t2 B2 G2 T2 V1 Jw U2=>?_;dsimp only;by_cases eN:m<a₀.size;rw[if_pos eN];refine wpS_bind<|wpS_lift<|wpAny_rule {rfl,?_};refine wpS_bind<|Ub hO h0 (zp _) Jw B2 G2 T2 U2 λg3 t3 B3 G3 U3=>?_;simp only[Bool.not_true,Bool.false_eq_true,if_false];refine wpS_bind<|wpS_get ?_;rw[show(pendingOf t3).back?=none by rw[B3.pend];rfl];dsimp only;exact wpS_bind<|wpS_modify<|wpS_pure<|.inr {by lia,rfl,fin t3 g3 B3 G3 U3};rw[if_neg eN];obtain rfl:m=a₀.size:=by lia
 refine wpS_bind<|wpS_get ?_;rw[show(pendingOf t2).back?=none by rw[B2.pend];rfl];dsimp only;exact wpS_bind<|wpS_modify<|wpS_pure<|.inr {by lia,rfl,fin t2 g' B2 G2 U2};dsimp only;rw[if_pos<|zp _];exact wpS_pure ⟨rfl,D⟩;rintro c t (⟨hx,_,_⟩|⟨_,hc,D⟩);lia;exact⟨hc,D⟩;rintro c t ⟨rfl,D⟩;dsimp only;obtain⟨d1,d2,g,d3,d4,d5⟩:=D;refine wpS_bind<|wpS_mono (wpS_forRange (I:=λ_ c t2=>t2=t/\c=(none,())) (Q:=λc t2=>t2=t/\c=(none,())) ?_ (λ_ _ z=>z) ⟨rfl,rfl⟩) ?_;rintro x c t2 _ _ ⟨rfl,rfl⟩;refine wpS_bind<|wpS_get ?_;rw[if_pos<|by rw[d2];exact zp 1];exact wpS_pure ⟨rfl,rfl⟩;rintro c t2 ⟨rfl,rfl⟩;exact wpS_pure<|h _ g d1 d3 d4 d5
end
noncomputable abbrev KZ(X:Cx)(qual:Str)(scope:Scope)(L f:Addr)(cv:Value):Env:=envX qual scope L f cv<|clOf X.env.cells scope.names
noncomputable def Q1(X:Cx)(N:List Str)(qual:Str)(scope:Scope)(f:Addr)(cv:Value)(A:Around)(s:Shared)(H:Hp):Cx:={X with A:=A.deeper<|KZ X qual scope s.heap.objs.size f cv,N:=N,cI:=s,so:=H,env:=KZ X qual scope s.heap.objs.size f cv,outer:=X.stack,stack:=KZ X qual scope s.heap.objs.size f cv::X.stack,ex:=[],fn:=λ_=>false,calm:=true,pn:=[],xe:=λ_ _=>False}
noncomputable abbrev xa(X:Cx)(qual:Str)(params:Arguments)(body:Expr)(scope:Scope)(pm cv lB:Value):Obj:={cls:=.type "function",data:=.func<|kla_fn "<lambda>" qual params body scope (clOf X.env.cells scope.names) pm cv lB}
section
variable{X:Cx}{pins:List (Addr×Obj)}{σ:St}{H:Hp}{s:Shared}{N:List Str}{src:List (Option Nat)}{scope:Scope}{params:Arguments}{body:Expr}{qual p:Str}{pm cv lB u:Value}{f:Addr}{A:Around}{v:V}{te:TE}{Q:VK}
theorem K0(I:Inv X pins σ H s)(S:bB X N src scope)(K1:N[0]?=some p)(hp:scope.names.lookup p=some .local)(h0:src[0]?=some none)(we:A.frames=some X.stack)(hh:A.handled=none)(r:RelV v u) (Pl:h₁.Ns s.heap.objs.size λx=>[(p,u)].reverse.lookup x) (old:∀b o,s.heap.get? b=some o->h₁.get? b=some o): Inv (Q1 X N qual scope f cv A s H) [] ((pick σ src).set 0<|some v) H {s with heap:=h₁,toks:=tk}:=by
 have cT:∀x c,(clOf X.env.cells scope.names).lookup x=some c->X.env.cells.lookup x=some c:=lN X.env.cells scope.names [] (by intro x c h;simp at h);have JY:∀b:Addr,b∉(Q1 X N qual scope f cv A s H).ex:=λb z=>absurd (show b∈([]:List Addr) from z) (by simp);have tP:∀x,scope.names.lookup x=some .free->∃c,(clOf X.env.cells scope.names).lookup x=some c:=λx hl=>by have hm:=zV hl;obtain⟨c,Et⟩:=I.ok.has x<|S.tP _ hm rfl;exact{c,eT X.env.cells scope.names [] x c (by intro x c h;simp at h) hm Et}
 refine{{I.ok.mod,S.kind,rfl,rfl,zp _,λx y c h1 h2=>I.ok.inj x y c (cT _ _ h1)<|cT _ _ h2,λx hk=>?_,λx c h=>(nomatch h),λ_=>hh,Around.frames_deeper we,.inr ⟨rfl,rfl⟩,λb z=>absurd z<|JY b,I.bs,zH I.ok.Gb I.sz,λb _ _=>JY b,λb z=>absurd z<|JY b,I.stack,I.lE},rfl,I.bare,Un.kept old,{_,Pl,λi x w e1 e2 e3=>?_},λx c e=>?_,I.aM.fresh<|zp _,λx c e=>I.eR x c<|cT x c e,λq hq=>absurd (show q∈([]:List (Addr×Obj)) from hq)<|by simp,I.aM.kept old,?_};have hk:scope.names.lookup x=some .cell\/scope.names.lookup x=some .free:=hk;rcases hk with hk|hk;exact absurd rfl<|S.fX _<|zV hk;exact tP x hk;have e1:N[i]?=some x:=e1;by_cases hi:i=0;subst hi;rw[K1]at e1;cases e1;have hl:0<(pick σ src).length:=by unfold pick;rw[zb];exact(zk.mp h0).1
 rw[List.getElem?_set_self hl]at e2;cases e2;exact{u,r,.inl {hp,by simp[yd]}};rw[List.getElem?_set_ne<|Ne.symm hi]at e2;unfold pick at e2;rw[zw]at e2;cases es:src[i]? with|none=>(rw[es]at e2;cases e2)|some o=>rw[es]at e2;cases o with|none=>(cases e2)|some j=>have e3:(σ[j]?).join=some w:=zO e2;have e4:σ[j]?=some (some w):=(by cases q:σ[j]? with|none=>(rw[q]at e3;cases e3)|some z=>rw[q]at e3;exact congrArg some e3);obtain⟨a1,a2,a3⟩:=S.src i j x es e1;obtain⟨m0,_,hl⟩:=I.loc;obtain⟨u',r',l⟩:=hl j x w a1 e4 a3;have hm:=zV a2;have hk:=S.tP _ hm rfl;rcases l with⟨k,_⟩|⟨_,c,Et,⟨o,ho,hd⟩⟩;rcases hk with hk|hk<;>(rw[k]at hk;cases hk);exact{u',r',.inr {.inr a2,c,eT X.env.cells scope.names [] x c (by intro x c h;simp at h) hm Et,o,old _ _ ho,hd}}
 obtain⟨w,o,ho,hd⟩:=I.cell x c<|cT x c e;exact{w,o,old _ _ ho,hd};show((pick σ src).set 0<|some v).length=N.length;unfold pick;rw[List.length_set,zb,S.len]
theorem Hn(I:Inv X pins σ H s)(S:bB X N src scope)(K1:N[0]?=some p)(hp:scope.names.lookup p=some .local)(h0:src[0]?=some none)(we:A.frames=some X.stack)(hh:A.handled=none)(Uc:A.depth<recursionLimit)(r:RelV v u) (ho:s.heap.get? f=some (xa X qual params body scope pm cv lB)) (rW:s.heap.CodeRec cv qual) (y9:scope.isCoroutine=false) (A6:scope.isGenerator=false) (hb:bindArgs (kla_fn "<lambda>" qual params body scope (clOf X.env.cells scope.names) pm cv lB) {[u],[]}=pure [(p,u)]) (he:PE (Q1 X N qual scope f cv A s H) body te) (h:te ((pick σ src).set 0<|some v) H Q): codeAny (model X.prog X.w) A (.call (.ref f) {[u],[]}) (λq s'=>∃w,q=.ok (.ret w)/\CE X.stack X.prog X.w H s Q w s') s:=by refine PySem.W.kla_callFunE Uc ho rfl y9 A6 rfl rW ?_;show wpAny _ _ (bindArgs (kla_fn "<lambda>" qual params body scope (clOf X.env.cells scope.names) pm cv lB) {[u],[]}) _ _ _;rw[hb];refine zA<|wpAny_newFunctionEnv S.fX (λx hx=>?_) (λh₁ Pl Kl=>{I.nolimit.fresh _ Kl,?_}) S.kind;rw[zE.mp hx];exact hp;have old:∀b o,s.heap.get? b=some o->h₁.get? b=some o:=λb o e=>Kl.extBut b o (zu<|zr e)<|za _ e;show codeAny _ _ (.expr body<|KZ X qual scope s.heap.objs.size f cv) _ _;refine PySem.W.kla_codeExpr<|yF (he [] _ _ H Q (K0 I S K1 hp h0 we hh r Pl old) h) (by rintro w s' ⟨x,H',J,rv,q⟩;exact⟨w,rfl,x,H',J.os,J.bare,J.base,J.aM,rv,q⟩) λ_ _ z=>z.elim
end
@[reducible] def intK:KeyKind where
 α:=Int
 blt a b:=decide<|a<b
 irrefl a:=by simp
 trans a b c h1 h2:=by simp only[zX]at *;lia
 negTrans a b c h:=by simp only[zX]at *;lia
 total a b h1 h2:=by simp only[decide_eq_false_iff_not]at *;lia
 keyOf v:=match v with|.int x _=>some x|_=>none
 dflt:=0
theorem Ho:intK.OneLt:=by intro prog w A E s x y a b Q ha hb h;cases x<;>simp only[intK,reduceCtorEq,Option.some.injEq]at ha;cases y<;>simp only[intK,reduceCtorEq,Option.some.injEq]at hb;cases ha;cases hb;exact oneLt_int h
structure V5(κ:KeyKind)(b:Bool)(key:Nat->κ.α)(n:Nat)(g:Nat->Nat):Prop where
 lt:∀k,k<n->g k<n
 inj:∀i j,i<n->j<n->g i=g j->i=j
 ord:∀i j,i<j->j<n->(if b=true then κ.klt (key<|g j) (key<|g i) else κ.klt (key<|g i) (key<|g j))\/(key (g i)=key (g j)/\g i<g j)
noncomputable def iA(κ:KeyKind)(us:List Value)(j:Nat):κ.α:=(κ.keyOf<|us.getD j .none).getD κ.dflt
theorem Hq{us vs:List Value}(hl:us.length=vs.length){j:Nat}(hj:j<vs.length):(us.toArray.zip vs.toArray)[j]?=some (us.getD j .none,vs.getD j .none):=by have e:(us.zip vs)[j]?=some (us.getD j .none,vs.getD j .none):=List.getElem?_zip_eq_some.mpr {by show us[j]?=some (us.getD j .none);rw[zM,zj<|by lia];rfl,by show vs[j]?=some (vs.getD j .none);rw[zM,zj hj];rfl};rw[<-Array.getElem?_toList,ksk_zip,List.toList_toArray];exact e
theorem uN{κ:KeyKind}{us vs:List Value}(hl:us.length=vs.length){j:Nat}(hj:j<vs.length):KK κ (us.toArray.zip vs.toArray) j=iA κ us j:=by unfold KK iA;rw[Hq hl hj]
theorem xb{l m:List Value}{n:Nat}(h1:l.length=n)(h2:m.length=n)(h:∀k,k<n->l[k]?=m[k]?):l=m:=by apply List.ext_getElem?;intro k;by_cases hk:k<n;exact h k hk;rw[List.getElem?_eq_none<|by lia,List.getElem?_eq_none<|by lia]
section
variable{prog:Program}{w:World}{A:Around}{E:Value->Shared->Prop}{s:Shared}{a kS:Addr}{b:Bool}{us vs:List Value}{e e1:Nat}{P:PySem.Fin->Shared->Prop}{κ:KeyKind}
theorem CG{st:SortSt}{keys:Array Value}(hk:s.heap.get? kS=some (seqObj "list" keys e))(ha:s.heap.get? a=some (seqObj "list" #[] e1))(Pm:kS≠a)(hz:keys.size<64)(Jy:(arrOf st).size<64)(Sn:failedOf st=none) (h:∀h' c,(∀b o,b≠a->b≠kS->s.heap.get? b=some o->h'.get? b=some o)->h'.get? a=some (seqObj "list" (if b then ((arrOf st).map (·.2)).reverse else (arrOf st).map (·.2)) c)->P (.done<|.ret .none) {s with heap:=h'}): wpAny (model prog w) A (ksk_tail a b e1 (.ref kS) st) P E s:=by
 have s1:=yB s.heap kS<|Obj.mapSeq λ_=>(#[]:Array Value);have YB:(s.heap.update kS<|Obj.mapSeq λ_=>(#[]:Array Value)).get? a=some (seqObj "list" #[] e1):=(s1.2 a Pm.symm).trans ha;have ES:∀o:Array Value,o=(if b then ((arrOf st).map (·.2)).reverse else (arrOf st).map (·.2))->o.size<64:=by rintro o rfl;cases b with|false=>rw[if_neg zd,Array.size_map];exact Jy|true=>rw[if_pos rfl,Array.size_reverse,Array.size_map];exact Jy
 generalize ho:(if b then ((arrOf st).map (·.2)).reverse else (arrOf st).map (·.2))=out at h ES;have ES:=ES out rfl;have s2:=yB (s.heap.update kS<|Obj.mapSeq λ_=>(#[]:Array Value)) a<|Obj.mapSeq λ_=>out;obtain⟨c2,YC⟩:∃c2,((s.heap.update kS<|Obj.mapSeq λ_=>(#[]:Array Value)).update a<|Obj.mapSeq λ_=>out).get? a=some (seqObj "list" out c2):={_,get?_update_seq YB λ_=>out};unfold ksk_tail;try dsimp only
 refine zc<|listUpdate_at hk rfl ?_ (by rw[ye];lia)<|zZ _;refine zc<|wpAny_letGo ?_;refine zc<|seqEpoch_at YB rfl ?_;rw[ho];refine zc<|listUpdate_at YB rfl ?_ (zZ _)<|zH (yD ES) (by rw[ye];lia);rw[Sn];simp only[bne_self_eq_false,Bool.false_eq_true,if_false];exact zA<|h _ c2 (λb o h1 h2 q=>(s2.2 b h1).trans<|(s1.2 b h2).trans q) YC
theorem Hr{xs:Array Keyed}{g:Nat->Nat}(hl:us.length=vs.length)(hs:xs.size=vs.length) (G:Gh (if b=true then (us.toArray.zip vs.toArray).reverse else us.toArray.zip vs.toArray) g xs) (U:A5 κ (if b=true then (us.toArray.zip vs.toArray).reverse else us.toArray.zip vs.toArray) g vs.length): ∃g',V5 κ b (iA κ us) vs.length g'/\(if b then (xs.map (·.2)).reverse else xs.map (·.2)).toList=(List.range vs.length).map λk=>vs.getD (g' k) .none:=by
 have y_:(us.toArray.zip vs.toArray).size=vs.length:=by rw[Array.size_zip,zo,zo,hl,Nat.min_self]
 have zat:∀k,k<vs.length->(us.toArray.zip vs.toArray)[k]?=some (us.getD k .none,vs.getD k .none):=λk hk=>Hq hl hk;cases b with|false=>rw[if_neg zd]at G U;refine{g,{λk hk=>by have:=G.lt k (by rw[y_];exact hk);rwa [y_]at this,λi j hi hj=>G.inj i j (by rw[y_];exact hi)<|by rw[y_];exact hj,λi j kH hj=>?_},?_};have h1:=G.lt i (by rw[y_];lia);have h2:=G.lt j (by rw[y_];lia);rw[y_]at h1 h2;have:=U i j kH hj;unfold Log at this;rw[uN hl h1,uN hl h2]at this;rw[if_neg zd];exact this;rw[if_neg zd];refine xb (n:=vs.length) (by rw[yn,Array.size_map,hs]) (by simp) λk hk=>?_;have h1:=G.lt k (by rw[y_];lia);rw[y_]at h1;rw[Array.getElem?_toList,Array.getElem?_map,G.at_ k<|by rw[y_];exact hk,zat _ h1,zw,List.getElem?_range hk];rfl|true=>rw[if_pos rfl]at G U;have rZ:(us.toArray.zip vs.toArray).reverse.size=vs.length:=(by rw[Array.size_reverse,y_]);have lt:∀k,k<vs.length->g k<vs.length:=λk hk=>(by have:=G.lt k (by rw[rZ];exact hk);rwa [rZ]at this);have rat:∀k,k<vs.length->(us.toArray.zip vs.toArray).reverse[k]?=(us.toArray.zip vs.toArray)[vs.length-1-k]?:=λk hk=>(by rw[Array.getElem?_reverse<|by rw[y_];exact hk,y_]);refine{λk=>vs.length-1-g (vs.length-1-k),{λk hk=>by have:=lt (vs.length-1-k) (by lia);lia,λi j hi hj e=>?_,λi j kH hj=>?_},?_};have h1:=lt (vs.length-1-i) (by lia);have h2:=lt (vs.length-1-j) (by lia);have:=G.inj (vs.length-1-i) (vs.length-1-j) (by rw[rZ];lia) (by rw[rZ];lia) (by lia);lia;have h1:=lt (vs.length-1-i) (by lia);have h2:=lt (vs.length-1-j) (by lia);have:=U (vs.length-1-j) (vs.length-1-i) (by lia) (by lia);unfold Log at this;have e1:KK κ (us.toArray.zip vs.toArray).reverse (g<|vs.length-1-i)=iA κ us (vs.length-1-g (vs.length-1-i)):=(KK_congr<|rat _ h1).trans<|uN hl (by lia);have e2:KK κ (us.toArray.zip vs.toArray).reverse (g<|vs.length-1-j)=iA κ us (vs.length-1-g (vs.length-1-j)):=(KK_congr<|rat _ h2).trans<|uN hl (by lia);rw[e1,e2]at this;rw[if_pos rfl];rcases this with z|⟨z1,z2⟩;exact .inl z;exact .inr {z1.symm,by lia};rw[if_pos rfl];refine xb (n:=vs.length) (by rw[yn,Array.size_reverse,Array.size_map,hs]) (by simp) λk hk=>?_;have h1:=lt (vs.length-1-k) (by lia);rw[Array.getElem?_toList,Array.getElem?_reverse<|by rw[Array.size_map,hs];exact hk,Array.size_map,hs,Array.getElem?_map,G.at_ _<|by rw[rZ];lia,rat _ h1,zat _<|by lia,zw,List.getElem?_range hk];rfl
theorem Pn(hO:κ.OneLt)(hk:s.heap.get? kS=some (seqObj "list" us.toArray e))(ha:s.heap.get? a=some (seqObj "list" #[] e1))(Pm:kS≠a)(hl:us.length=vs.length)(FV:vs.length<64)(h0:∀u∈us,∃x,κ.keyOf u=some x) (hkk:∀nj nr rest,us=nj::nr::rest->keyKind' (nj::nr::rest).toArray=pure oneType') (h:∀h' c g out,(∀b o,b≠a->b≠kS->s.heap.get? b=some o->h'.get? b=some o)->h'.get? a=some (seqObj "list" out c)->V5 κ b (iA κ us) vs.length g->out.toList=(List.range vs.length).map (λk=>vs.getD (g k) .none)->P (.done<|.ret .none) {s with heap:=h'}): wpAny (model prog w) A (ksk_end a b vs.toArray e1 (.ref kS) us.toArray) P E s:=by
 have y_:(us.toArray.zip vs.toArray).size=vs.length:=by rw[Array.size_zip,zo,zo,hl,Nat.min_self]
 have step:∀t:Sem PySem.Fin,wpAny (model prog w) A t P E s->wpAny (model prog w) A (if b=true then (do let _ <-rule "list.sort.reverse";t) else t) P E s:=by intro t ht;split;exact zc<|wpAny_rule ht;exact ht
 have hsz:(if b=true then (us.toArray.zip vs.toArray).reverse else us.toArray.zip vs.toArray).size=vs.length:=by cases b with|false=>exact y_|true=>rw[if_pos rfl,Array.size_reverse,y_]
 have keys:KeysOf κ (if b=true then (us.toArray.zip vs.toArray).reverse else us.toArray.zip vs.toArray):=λp hp=>by have hp:p∈us.zip vs:=(by have e2:(us.toArray.zip vs.toArray).toList=us.zip vs:=(by rw[ksk_zip]);cases b with|false=>rw[if_neg zd,e2]at hp;exact hp|true=>rw[if_pos rfl,Array.toList_reverse,e2]at hp;exact List.mem_reverse.mp hp);obtain⟨x,y⟩:=p;exact h0 _ (List.of_mem_zip hp).1
 unfold ksk_end;try dsimp only
 refine step _ ?_;by_cases h2:vs.toArray.size<2;{rw[if_pos h2,if_pos h2];refine zc<|zA ?_;rw[StateT.run_pure];refine zc<|zA ?_;(try dsimp only);rw[zo]at h2;refine CG (st:=SortSt.mk' general' (if b=true then (us.toArray.zip vs.toArray).reverse else us.toArray.zip vs.toArray) #[] 7 none) hk ha Pm (by rw[zo];lia) (by show(if b=true then (us.toArray.zip vs.toArray).reverse else us.toArray.zip vs.toArray).size<64;lia) rfl λh' c k1 k2=>?_;obtain⟨g,g1,g2⟩:=Hr (κ:=κ) (b:=b) (xs:=if b=true then (us.toArray.zip vs.toArray).reverse else us.toArray.zip vs.toArray) (g:=λk=>k) hl hsz {λ_ _=>rfl,λ_ hk=>hk,λ_ _ _ _ e=>e} (λi j kH hj=>by lia);exact h h' c g _ k1 k2 g1 g2};{rw[if_neg h2,if_neg h2];rw[zo]at h2;obtain⟨nj,nr,rest,eu⟩:∃nj nr rest,us=nj::nr::rest:=(by match us,hl with|[],hl=>simp at hl;lia|[_],hl=>simp at hl;lia|nj::nr::rest,_=>exact⟨nj,nr,rest,rfl⟩);have ek:keyKind' us.toArray=pure oneType':=(by rw[eu];exact hkk _ _ _ eu);rw[ek];refine zc<|zA ?_;refine zc<|yF (Pk (κ:=κ) hO (a₀:=if b=true then (us.toArray.zip vs.toArray).reverse else us.toArray.zip vs.toArray) (st:=SortSt.mk' oneType' (if b=true then (us.toArray.zip vs.toArray).reverse else us.toArray.zip vs.toArray) #[] 7 none) (Q:=λ_ dW=>failedOf dW=none/\(arrOf dW).size=vs.length/\∃g,Gh (if b=true then (us.toArray.zip vs.toArray).reverse else us.toArray.zip vs.toArray) g (arrOf dW)/\A5 κ (if b=true then (us.toArray.zip vs.toArray).reverse else us.toArray.zip vs.toArray) g vs.length) keys {Array.Perm.refl _,rfl,rfl,rfl} rfl (by lia) (by lia) λdW g q1 q2 q3 q4=>{q1,q2.trans hsz,g,q3,by rw[hsz]at q4;exact q4}) ?_ λ_ _ e=>e;rintro⟨⟨⟩,dW⟩ s' ⟨rfl,hf,YD,g,G,U⟩;(try dsimp only);have YD:(arrOf dW).size=vs.length:=YD;refine CG hk ha Pm (by rw[zo];lia) (by lia) hf λh' c k1 k2=>?_;obtain⟨g',g1,g2⟩:=Hr (κ:=κ) hl YD G U;exact h h' c g' _ k1 k2 g1 g2}
end
structure MT(X:Cx)(pins:List (Addr×Obj))(b:Addr):Prop where
 loc:b≠X.env.locals
 fs:b∉X.fs
 cell:∀x c,X.env.cells.lookup x=some c->c≠b
 pin:∀p∈X.pn++pins,p.1≠b
 new:X.cI.heap.objs.size<=b
section
variable{X:Cx}{pins:List (Addr×Obj)}{σ:St}{H:Hp}{s:Shared}
theorem Inv.V6(I:Inv X pins σ H s)(h:s.heap.objs.size<=b):MT X pins b:={yg<|zg I.lt h,I.Rr h,λx c e=>by obtain⟨v,q⟩:=I.cell x c e;exact zu<|zg q.lt h,λp hp=>zu<|zg (zr (I.pin p hp).1) h,zH I.sz h}
theorem Inv.K2(I:Inv X pins σ H s)(kp:∀b o,b≠a->b≠k->s.heap.get? b=some o->h'.get? b=some o)(ha:H a=none)(hk:H k=none)(Aa:MT X pins a)(Ak:MT X pins k):Inv X pins σ H {s with heap:=h',toks:=t'}:=by have NB:∀b u,H b=some u->b≠a/\b≠k:=λb u e=>{λz=>(by rw[z,ha]at e;cases e),λz=>(by rw[z,hk]at e;cases e)};refine I.step (g':=s.gens) (d':=s.drawn) (ch:=[a,k]) (λb hb=>?_) (λb o _ _ hc e _=>kp b o (λz=>hc<|by simp[z]) (λz=>hc<|by simp[z]) e) (λb o _ _ hc e _=>{o.slots,kp b o (λz=>hc<|by simp[z]) (λz=>hc<|by simp[z]) e}) (λ_ _ _ _ n=>n) (λb o hc e=>{o,kp b o (λz=>hc<|by simp[z]) (λz=>hc<|by simp[z]) e}) (λ_ _ e=>e) (λ_ _ _ e=>e) (λb ps e=>{#[],by rw[e];simp}) (λm hm=>?_) (λb u e=>?_) I.bare;simp only[zh,zI,or_false]at hb;rcases hb with rfl|rfl;exact{.inr Aa.new,Aa.loc,Aa.cell,Aa.pin};exact{.inr Ak.new,Ak.loc,Ak.cell,Ak.pin};obtain⟨o,es,ep,ho,r⟩:=hm;exact{o,es,ep,kp _ o (Ne.symm Aa.loc) (Ne.symm Ak.loc) ho,r};refine(I.aM b u e).mW (λc v hc q=>?_) (λ_ q=>q) λ_ _ q=>q;rcases hc with z|z;rw[z]at q⊢;exact kp b v (NB b u e).1 (NB b u e).2 q;exact kp c v (NB c _ z).1 (NB c _ z).2 q
theorem Inv.Ud(I:Inv X pins σ H s)(ha:H a=none)(A:MT X pins a)(new:bj X.prog X.w (upd H a o) s.heap a o):Inv X pins σ (upd H a o) s:=by refine I.step (h':=s.heap) (g':=s.gens) (d':=s.drawn) (t':=s.toks) (ch:=[a]) (λb hb=>?_) (λb o _ _ hc e _=>e) (λb o _ _ hc e _=>⟨o.slots,e⟩) (λb u hc e n=>?_) (λb o hc e=>⟨o,e⟩) (λb xs e=>?_) (λb u v e=>?_) (λb ps e=>?_) (λm hm=>hm) (λb u e=>?_) I.bare;rw[zE.mp hb];exact{.inr A.new,A.loc,A.cell,A.pin};rw[aq λz=>hc<|by simp[z]];exact n;rw[aq<|ay e ha];exact e;rw[aq<|ay e ha];exact e;exact{#[],by rw[aq<|ay e ha,e];simp};by_cases hb:b=a;subst hb;rw[aD]at e;cases e;exact new;rw[aq hb]at e;exact(I.aM b u e).mW (λc v _ q=>q) (λc q=>by rw[aq<|ay q ha];exact q) λc xs q=>by rw[aq<|ay q ha];exact q
end
def Hs(X:Cx)(pins:List<|Addr×Obj)(σ:St)(A:Around)(f:Addr)(xs:List V)(W:Nat->List V->Hp->Prop):Prop:=∀i x u ks s' H' more,Inv X (pins++more) σ H' s'->W i ks H'->xs[i]?=some x->RelV x u->codeAny (model X.prog X.w) A (.call (.ref f) {[u],[]}) (λq As=>∃w,q=.ok (.ret w)/\CE X.stack X.prog X.w H' s' (λk H''=>W (i+1) (ks++[k]) H'') w As) s'
structure MU(κ:KeyKind)(us:List Value):Prop where
 all:∀u∈us,∃x,κ.keyOf u=some x
 kind:∀nj nr rest,us=nj::nr::rest->keyKind' (nj::nr::rest).toArray=pure oneType'
section
variable{X:Cx}{pins:List (Addr×Obj)}{σ:St}{H:Hp}{s:Shared}{A:Around}{E:Value->Shared->Prop}{xs:List V}{vs:List Value}{f:Addr}{b:Bool}{κ:KeyKind}{W:Nat->List V->Hp->Prop}
theorem ET{P:PySem.Fin->Shared->Prop}(hO:κ.OneLt)(I:Inv X pins σ H s)(ha:s.heap.get? a=some (seqObj "list" #[] e1))(hk:s.heap.get? kS=some (seqObj "list" #[] 0))(Pm:kS≠a)(na:H a=none)(nk:H kS=none)(Aa:MT X pins a)(Ak:MT X pins kS) (hv:Vals xs vs) (FV:vs.length<64) (T:Hs X pins σ A f xs W) (w0:W 0 [] H) (G:∀ks us H',W vs.length ks H'->Vals ks us->ks.length=vs.length->MU κ us) (h:∀s' H' ks us c g out,Inv X pins σ H' s'->H' a=none->s'.heap.get? a=some (seqObj "list" out c)->W vs.length ks H'->Vals ks us->ks.length=vs.length->V5 κ b (iA κ us) vs.length g->out.toList=(List.range vs.length).map (λk=>vs.getD (g k) .none)->P (.done<|.ret .none) s'): wpAny (model X.prog X.w) A (ksk_rest a (.ref f) b vs.toArray e1<|.ref kS) P E s:=by
 have nc:∀(k:Array Value) (n:Nat) (v:Option Value),(seqObj "list" k n).data≠.cell v:=λ_ _ _ z=>nomatch z;unfold ksk_rest;refine zc<|wpAny_rule ?_;rw[List.forIn_toArray];refine zc<|ksk_fold (λi s'=>∃ks kA e H',Inv X pins σ H' s'/\W i ks H'/\Vals ks kA.toList/\ks.length=i/\H' a=none/\H' kS=none/\s'.heap.get? a=some (seqObj "list" #[] e1)/\s'.heap.get? kS=some (seqObj "list" kA e)) vs 0 s {[],#[],0,H,I,w0,.nil,rfl,na,nk,ha,hk} ?_ ?_;rintro j x s' hx ⟨ks,kA,e,H',I',w',v',l',V7,YE,YF,GK⟩;simp only[Nat.zero_add]at l' w'⊢;have hj:j<vs.length:=(zk.mp hx).1;have hl:xs.length=vs.length:=hv.length;obtain⟨y,hy⟩:∃y,xs[j]?=some y:={_,zj<|by lia};obtain⟨u,hu,ru⟩:=hv.get hy;rw[hx]at hu;cases hu;have Ip:Inv X (pins++[(a,seqObj "list" #[] e1),(kS,seqObj "list" kA e)]) σ H' s':=by refine{I'.ok,I'.os,I'.bare,I'.base,I'.loc,I'.cell,I'.free,I'.eR,λp hp=>?_,I'.aM,I'.len};rcases zN.mp hp with hp|hp;exact I'.pin p<|zS _ hp;rcases zN.mp hp with hp|hp;exact I'.pin p<|zt _ hp;simp only[zh,zI,or_false]at hp;rcases hp with rfl|rfl;exact{YF,V7,Aa.loc,Aa.fs,nc _ _};exact{GK,YE,Ak.loc,Ak.fs,nc _ _}
 have hz:kA.size=j:=by have h1:ks.length=kA.toList.length:=v'.length;have h2:kA.toList.length=kA.size:=yn;lia
 refine zc<|wpAny_attempt<|wpAny_call<|yS (T j y x ks s' H' _ Ip w' hy ru) λr s2 hq=>?_;obtain⟨w,rfl,ce⟩:=hq;obtain⟨k,H2,I2,rk,w2⟩:=Ip.after ce;dsimp only;have pa:=I2.pin (a,seqObj "list" #[] e1)<|zt _<|zt _ (by simp);have pk:=I2.pin (kS,seqObj "list" kA e)<|zt _<|zt _ (by simp);have I3:Inv X pins σ H2 s2:={I2.ok,I2.os,I2.bare,I2.base,I2.loc,I2.cell,I2.free,I2.eR,λp hp=>I2.pin p<|by rcases zN.mp hp with z|z;exact zS _ z;exact zt _<|zS _ z,I2.aM,I2.len};have s1:=yB s2.heap kS (Obj.mapSeq (·.push w));obtain⟨c2,YC⟩:∃c2,(s2.heap.update kS (Obj.mapSeq (·.push w))).get? kS=some (seqObj "list" (kA.push w) c2):={_,get?_update_seq pk.1 (·.push w)};refine zc<|listUpdate_at pk.1 rfl ?_ (by rw[ye];lia)<|zH (Nat.le_of_eq<|Array.size_push ..) (by rw[ye];lia);refine zA {rfl,ks++[k],kA.push w,c2,H2,I3.turned (t':=s2.toks) (it:=kS) (λb o hb q=>(s1.2 b hb).trans q) pk.2.1 Ak.loc (.inr Ak.new) Ak.cell Ak.pin,w2,?_,by simp[l'],pa.2.1,pk.2.1,(s1.2 a Pm.symm).trans pa.1,YC};rw[show(kA.push w).toList=kA.toList++[w] by simp];exact v'.append<|.cons rk .nil;rintro s' ⟨ks,kA,e,H',I',w',v',l',V7,YE,YF,GK⟩;simp only[Nat.zero_add]at l' w';refine zc<|listItems_at GK rfl ?_;have eA:kA=kA.toList.toArray:=by simp
 have good:=G ks kA.toList H' w' v' l';have hl:kA.toList.length=vs.length:=by have h1:ks.length=kA.toList.length:=v'.length;lia
 rw[eA]at GK;show wpAny _ _ (ksk_end a b vs.toArray e1 (.ref kS) kA) _ _ _;rw[eA];refine Pn (κ:=κ) hO GK YF Pm hl FV good.all good.kind λh' c g out k1 k2 k3 k4=>?_;exact h _ H' ks kA.toList c g out (I'.K2 (t':=s'.toks) k1 V7 YE Aa Ak) V7 k2 w' v' l' k3 k4
theorem t6(hO:κ.OneLt)(I:Inv X pins σ H s)(hl:iQ X.K H l xs)(FV:xs.length<64)(V8:argsOk "sorted" {[.ref l],kw})(V9:∀x,argsOk "list.sort" {[.ref x],kw})(ht:∀x,Builtin.«list.sort» {[.ref x],kw}=ksk_tree x (.ref f) b) (T:Hs X pins σ A.in1.in1 f xs W) (w0:W 0 [] H) (G:∀ks us H',W xs.length ks H'->Vals ks us->ks.length=xs.length->MU κ us) (h:∀H' ks us g D,W xs.length ks H'->Vals ks us->ks.length=xs.length->V5 κ b (iA κ us) xs.length g->H' D=none->Q (.ref D) (upd H' D<|.lst<|(List.range xs.length).map λk=>xs.getD (g k) .ax)): wpAny (model X.prog X.w) A (call (.builtin "sorted") [.ref l] kw) (EP X pins σ Q) E s:=by
 obtain⟨vs,hv,pl,_⟩:=I.list hl;have Q3:xs.length=vs.length:=hv.length;rw[Q3]at FV G h;refine call_function_entry_kw kind_sorted plain_sorted entry_sorted V8 ?_;unfold Builtin.«sorted»;refine zc (m:=checkCount "sorted" 1 1 _)<|zA ?_;refine zc<|collect_list pl.isList ?_ (by rw[ye];lia);refine zc<|wpAny_newList ?_ (by rw[ye];lia);have hsz:((s.heap.push<|seqObj "list" #[] 0).update s.heap.objs.size (Obj.mapSeq (·++vs.toArray))).objs.size=s.heap.objs.size+1:=by rw[Heap.size_update,size_push']
 have FN:(((s.heap.push<|seqObj "list" #[] 0).update s.heap.objs.size (Obj.mapSeq (·++vs.toArray))).push<|seqObj "list" vs.toArray 0).get? (s.heap.objs.size+1)=some (seqObj "list" vs.toArray 0):=by rw[<-hsz];exact zm _ rfl
 have keep:∀b o,s.heap.get? b=some o->(((s.heap.push<|seqObj "list" #[] 0).update s.heap.objs.size (Obj.mapSeq (·++vs.toArray))).push<|seqObj "list" vs.toArray 0).get? b=some o:=λb o q=>by have eN:b<s.heap.objs.size:=zr q;rw[Heap.get?_push_ne _ _ _<|by rw[hsz];exact zu<|Nat.lt_succ_of_lt eN,Heap.get?_update_ne _ _ _ _<|zu eN,Heap.get?_push_ne _ _ _<|zu eN];exact q
 show wpAny _ _ _ _ _ {s with heap:=((s.heap.push<|seqObj "list" #[] 0).update s.heap.objs.size (Obj.mapSeq (·++vs.toArray))).push<|seqObj "list" vs.toArray 0};rw[hsz];generalize hg:((s.heap.push<|seqObj "list" #[] 0).update s.heap.objs.size (Obj.mapSeq (·++vs.toArray))).push (seqObj "list" vs.toArray 0)=h1 at FN keep⊢;have I1:Inv X pins σ H {s with heap:=h1}:=I.kept (t':=s.toks) keep;have Aa:MT X pins (s.heap.objs.size+1):=I.V6<|yN _;have na:H (s.heap.objs.size+1)=none:=I.aM.fresh<|yN _;generalize s.heap.objs.size+1=a at FN Aa na⊢;refine zc<|yG<|wpAny_call_entry_kw slot_list_sort {_,FN,rfl} entry_list_sort ?_<|V9 _;show wpAny (model X.prog X.w) A.in1.in1 (Builtin.«list.sort» {[.ref a],kw}) _ _ _;rw[ht a];have s1:=yB h1 a<|Obj.mapSeq λ_=>(#[]:Array Value);obtain⟨e1,Q4⟩:∃e1,(h1.update a<|Obj.mapSeq λ_=>(#[]:Array Value)).get? a=some (seqObj "list" #[] e1):={_,get?_update_seq FN λ_=>#[]};have I2:Inv X pins σ H {s with heap:=h1.update a<|Obj.mapSeq λ_=>(#[]:Array Value)}:=Inv.turned (s:={s with heap:=h1}) (h':=h1.update a<|Obj.mapSeq λ_=>(#[]:Array Value)) (t':=s.toks) (it:=a) I1 (λb o hb q=>(s1.2 b hb).trans q) na Aa.loc (.inr Aa.new) Aa.cell Aa.pin;unfold ksk_tree;refine zc<|listItems_at FN rfl ?_;refine zc<|listUpdate_at FN rfl ?_ (by rw[zo,ye];lia)<|zZ _;refine zc<|seqEpoch_at Q4 rfl ?_;refine zc<|wpAny_newTuple ?_ (by show vs.length<=_;rw[ye];lia);refine zc<|wpAny_newList ?_<|zZ _;refine yG ?_;generalize h1.update a (Obj.mapSeq λ_=>(#[]:Array Value))=h2 at Q4 I2⊢;have k3:∀b u,h2.get? b=some u->((h2.push<|seqObj "tuple" vs.toArray 0).push<|seqObj "list" #[] 0).get? b=some u:=λb u q=>za _<|za _ q;have I3:Inv X pins σ H {s with heap:=(h2.push<|seqObj "tuple" vs.toArray 0).push<|seqObj "list" #[] 0}:=I2.kept (t':=s.toks) k3;have A7:h2.objs.size<=(h2.push<|seqObj "tuple" vs.toArray 0).objs.size:=by rw[size_push'];exact yN _
 refine ET (s:={s with heap:=(h2.push<|seqObj "tuple" vs.toArray 0).push<|seqObj "list" #[] 0}) (kS:=(h2.push<|seqObj "tuple" vs.toArray 0).objs.size) hO I3 (k3 _ _ Q4) (zm _ rfl) (yg<|zg (zr Q4) A7) na (I2.aM.fresh A7) Aa (I2.V6 A7) hv FV T w0 G λs' H' ks us c g out J n1 o1 w1 v1 l1 q1 q2=>{.none,rfl,?_};refine zA !{.ref a,_,J.Ud (o:=.lst<|(List.range vs.length).map λk=>xs.getD (g k) .ax) n1 Aa {?_,out.toList,c,?_,?_},rfl,h H' ks us g a w1 v1 l1 q1 n1};rw[zb,List.length_range,ye];lia;rw[q2];have:∀(ns:List Nat),(∀k∈ns,g k<vs.length)->Vals (ns.map λk=>xs.getD (g k) .ax) (ns.map λk=>vs.getD (g k) .none):=λns=>by induction ns with|nil=>exact λ_=>.nil|cons k ns ih=>intro hk;have YG:=hk k zi;obtain⟨y,hy⟩:∃y,xs[g k]?=some y:={_,zj<|by lia};obtain⟨u,hu,ru⟩:=hv.get hy;refine .cons ?_<|ih λk eY=>hk k<|ze _ eY;show RelV (xs.getD (g k) .ax) (vs.getD (g k) .none);rw[zM,hy,zM,hu];exact ru
 exact this _ λk hk=>q1.lt k<|zT.mp hk;rw[o1]
end
def Bm(mg:Str->Option Value)(base:Heap):Prop:=∃bm o,mg "__builtins__"= some (.ref bm)/\bm≠builtinsNs/\base.get? bm=some o/\o.cls=.type "module"/\o.dict=some builtinsNs/\o.data=.plain
structure YH(K:Frag)(mg:Str->Option Value)(base:Heap)(c P:Addr):Prop where
 hd:codeHdIn K c P=true
 bm:Bm mg base
theorem A8{pos p2:Pos}{c cv:Value}(l:List Value)(h:TriplesOk l)(e:codeAmong pos (l++[rawInt p2.line,rawInt p2.col,c])=some cv):codeAmong pos l=some cv\/cv=c:=by fun_induction TriplesOk l with|case1=>(simp only[List.nil_append,rawInt,codeAmong]at e;split at e;cases e;exact .inr rfl;cases e)|case2 a t b u x rest ih=>simp only[List.cons_append,codeAmong]at e⊢;split at e;rename_i hc;rw[if_pos hc];exact .inl e;rename_i hc;rw[if_neg hc];exact ih h e|case3 l h1 h2=>exact h.elim
section
variable{X:Cx}{pins:List (Addr×Obj)}{σ:St}{H:Hp}{s:Shared}
theorem Inv.tab{h':Heap}{tk:Nat}{P c:Addr}{ps Q5:Array Value}{oc fo:Obj}(I:Inv X pins σ H s)(hP:H P=some (.pJ ps))(hx:Heap.ExtBut P s.heap h')(h1:s.heap.objs.size<=c)(h2:c<h'.objs.size)(hc:h'.get? c=some oc)(hp:h'.get? P=some (tabObj<|ps++Q5)): Inv X pins σ (upd (upd H P<|.pJ<|ps++Q5) c<|.kB oc<|.own 0) {s with heap:=h'.push fo,toks:=tk}:=by
 have hcP:c≠P:=λz=>absurd (zg (I.aM.lt hP)<|z ▸ h1)<|yj _;have nc:H c=none:=I.aM.fresh h1;have other:∀b,b≠P->b≠c->upd (upd H P<|.pJ<|ps++Q5) c (.kB oc<|.own 0) b=H b:=λb z1 z2=>by rw[aq z2,aq z1]
 have nP:∀b o,H b=some o->(∀q,o≠.pJ q)->b≠P:=λb o e z q=>by rw[q,hP]at e;cases e;exact z _ rfl
 have YI:∀b,H b=none->b≠P:=λb e q=>by rw[q,hP]at e;cases e
 have lt:∀b o,s.heap.get? b=some o->b≠c:=λb o e=>zu<|zg (zr e) h1;refine I.un (h':=h'.push fo) {λb o e n _ _=>za _<|hx b o (YI b n) e,λb o e n _ _=>{o.slots,za _<|hx b o (YI b n) e},λb o e n _=>by rw[other b (YI b n)<|lt b o e];exact n,λb o e _=>?_,λb xs e=>by rw[other b (nP b _ e λ_=>nofun)<|ay e nc];exact e,λb o u e=>by rw[other b (nP b _ e λ_=>nofun)<|ay e nc];exact e,λb q e=>?_} λb u e=>?_;by_cases hb:b=P;rw[hb];exact{_,za _ hp};exact{o,za _<|hx b o hb e};by_cases hb:b=P;subst hb;rw[hP]at e;cases e;exact{Q5,by rw[aq<|Ne.symm hcP,aD]};exact{#[],by rw[other b hb<|ay e nc,e];simp};by_cases Q6:b=c;subst Q6;rw[aD]at e;cases e;exact{za _ hc,_,za _ hc};rw[aq Q6]at e;by_cases hb:b=P;subst hb;rw[aD]at e;cases e;exact za _ hp;rw[aq hb]at e;refine(I.aM b u e).mW (λd v hd q=>?_) (λd q=>by rw[other d (nP d _ q λ_=>nofun)<|ay q nc];exact q) λd xs q=>by rw[other d (nP d _ q λ_=>nofun)<|ay q nc];exact q
 rcases hd with rfl|hd;exact za _<|hx d v hb q;exact za _<|hx d v (nP d _ hd λ_=>nofun) q
theorem Inv.CH(I:Inv X pins σ H s)(ho:s.heap.get? f=some o)(hn:H f=none)(A:MT X pins f)(d:∀v,o.data≠.cell v):Inv X (pins++[(f,o)]) σ H s:=by refine{I.ok,I.os,I.bare,I.base,I.loc,I.cell,I.free,I.eR,λp hp=>?_,I.aM,I.len};rcases zN.mp hp with hp|hp;exact I.pin p<|zS _ hp;rcases zN.mp hp with hp|hp;exact I.pin p<|zt _ hp;rw[zE.mp hp];exact⟨ho,hn,A.loc,A.fs,d⟩
structure Ue(X:Cx)(pins:List (Addr×Obj))(σ:St)(H H':Hp)(P:Addr)(q:Str)(params:Arguments)(body:Expr)(scope:Scope)(u:Value)(s':Shared)(f:Addr)(pm cv lB:Value):Prop where
 u:u=.ref f
 inv:Inv X (pins++[(f,xa X q params body scope pm cv lB)]) σ H' s'
 code:∃c o vs t,cv=.ref c/\H' c=some (.kB o<|.own 0)/\o.data=.fields vs/\vs[1]?=some (.str q t)
 same:∀b,H' b=H b\/(b=P/\∃ps,H' b=some (.pJ ps)/\Cw H' q ps)\/(H b=none/\∃o,H' b=some (.kB o<|.own 0))
theorem xc{M:Model}{A:Around}{E:Value->Shared->Prop}{N:List Str}{src:List<|Option Nat}{scope:Scope}{params:Arguments}{body:Expr}{pos:Pos}{c P:Addr}{q:Str}{ps:Array Value}{Q:Value->Shared->Prop}(I:Inv X pins σ H s)(S:bB X N src scope)(ox:X.env.code=.ref c)(mk:YH X.K X.mg X.base c P) (hP:H P=some (.pJ ps)) (ok:Cw H q ps) (hq:X.env.qual ++ "<lambda>"= q) (Ht:defaultsOf params X.env=([],[])) (h:∀u s' H' f pm cv lB,Ue X pins σ H H' P q params body scope u s' f pm cv lB->Q u s'):wpAny M A (eval (.Lambda params body scope pos) X.env) Q E s:=by
 have Cs:closureFor scope X.env=pure (clOf X.env.cells scope.names):=dM λy hy hf=>I.ok.has y.1<|S.tP y hy hf;have MV:s.heap.get? P=some (tabObj ps):=I.aM P _ hP;have hg:s.heap.Ns mainGlobals X.mg:=I.mod.glob.keeps I.bk;have hC:=codeHd_of_K I.oi mk.hd;obtain⟨bm,ob,b1,b2,b3,b4,b5,b6⟩:=mk.bm;have V_:s.heap.get? bm=some ob:=I.bk _ _ b3;have hgP:mainGlobals≠P:=λz=>by obtain⟨o,es,ep,e,d,_⟩:=id hg;rw[z,MV]at e;cases e;cases d
 have hbG:bm≠mainGlobals:=λz=>by obtain⟨o,es,ep,e,d,_⟩:=id hg;rw[<-z,V_]at e;cases e;rw[b6]at d;cases d
 have hbP:bm≠P:=λz=>by rw[z,MV]at V_;cases V_;cases b4
 have hB:s.heap.BuiltinsAt X.mg P:=⟨bm,ob,b1,b2,hbG,hbP,V_,b4,b5,b6⟩;have hqs:H P≠none:=by rw[hP];nofun
 refine PySem.W.kla_eval Ht ?_;rw[hq];cases hf:codeAmong pos ps.toList with|none=>(refine PySem.W.kla_makeFunction Cs I.ok.glob hg ox hC MV ok.1 hf hgP hB λc' lB h' tk hx h1 h2 hr hp=>?_;obtain⟨c2,oc,vs,t,e2,VD,hd,hv⟩:=hr;cases e2;have J:=I.tab (tk:=tk) (fo:=xa X q params body scope ((X.mg "__name__").getD .none) (.ref c') lB) hP hx h1 h2 VD hp;have hcP:c'≠P:=λz=>absurd (zg (I.aM.lt hP)<|z ▸ h1)<|yj _;have nc:H c'=none:=I.aM.fresh h1;have fresh:∀b,h'.objs.size<=b->upd (upd H P<|.pJ<|ps++#[rawInt pos.line,rawInt pos.col,.ref c']) c' (.kB oc<|.own 0) b=none:=λb hb=>(by have rX:s.heap.objs.size<=b:=zH (zH h1<|yD h2) hb;rw[aq<|yg<|zg h2 hb,aq<|yg<|zg (I.aM.lt hP) rX];exact I.aM.fresh rX);have hsz:s.heap.objs.size<=h'.objs.size:=zH h1<|yD h2;refine h _ _ _ h'.objs.size _ _ _ {rfl,J.CH (zm _ rfl) (fresh _<|zp _) (I.V6 hsz) (λv z=>nomatch z),⟨c',oc,vs,t,rfl,aD,hd,hv⟩,λb=>?_};by_cases Q6:b=c';subst Q6;exact .inr<|.inr ⟨nc,oc,aD⟩;by_cases hb:b=P;subst hb;refine .inr<|.inl {rfl,_,by rw[aq Q6,aD],?_,λp2 cv e=>?_};rw[Array.toList_append];exact TriplesOk_snoc _ _ _ _ ok.1;rw[Array.toList_append]at e;rcases A8 _ ok.1 e with e|e;obtain⟨d,o,ws,t2,z1,z2,z3⟩:=ok.2 p2 cv e;exact{d,o,ws,t2,z1,by rw[aq<|ay z2 nc,aq λz=>by rw[z,hP]at z2;cases z2];exact z2,z3};exact⟨c',oc,vs,t,e,aD,hd,hv⟩;exact .inl<|by rw[aq Q6,aq hb])|some cv=>refine PySem.W.kla_makeFunctionHit Cs I.ok.glob hg ox hC MV ok.1 hf hB λlB h' tk hk hsz=>?_;have J:Inv X pins σ H {s with heap:=h'.push<|xa X q params body scope ((X.mg "__name__").getD .none) cv lB,toks:=tk}:=I.kept λb u e=>za _<|hk b u e;exact h _ _ _ h'.objs.size _ _ _ {rfl,J.CH (zm _ rfl) (I.aM.fresh hsz) (I.V6 hsz) (λv z=>nomatch z),ok.2 pos cv hf,λb=>.inl rfl}
end
def Ug:D->D->Prop|.int a,.int b=>a<b|.str a,.str b=>a.cps.toList<b.cps.toList|_,_=>False
def xf(ks:List D):Prop:=(∃zs:List Str,ks=zs.map D.str)\/∃ns:List Int,ks=ns.map D.int
structure Po(b:Bool)(key:Nat->D)(n:Nat)(g:Nat->Nat):Prop where
 lt:∀k,k<n->g k<n
 inj:∀i j,i<n->j<n->g i=g j->i=j
 ord:∀i j,i<j->j<n->(if b=true then Ug (key<|g j) (key<|g i) else Ug (key<|g i) (key<|g j))\/(key (g i)=key (g j)/\g i<g j)
def xg(b:Bool)(P:Addr)(q:Str)(src:List<|Option Nat)(te:TD)(σ:SD)(R:KD)(d:D)(S1:aw):Prop:=∃(l:Addr)(xs:List D)(f:D->D),d=.ref l/\S1 l=some (.lst xs)/\xs.length<64/\S1 P=some (.tab q)/\xf (xs.map f)/\(∀x,x∈xs->∀S',Sub S1 S'->∀Qk:KD,(∀S2,Sub S' S2->Qk (f x) S2)->te ((lU σ src).set 0<|some x) S' Qk Zf)/\∀g S2 p,Po b (λj=>f<|xs.getD j .ax) xs.length g->Sub S1 S2->S2 p=none->R (.ref p) (S2.set p<|.lst<|(List.range xs.length).map λk=>xs.getD (g k) .ax)
def MW(b:Bool)(P:Addr)(q:Str)(src:List<|Option Nat)(tl te:TD):TD:=λσ S R Z=>tl σ S (λd S1=>xg b P q src te σ R d S1) Z
def Hu(F:D->aw->Prop):List D->aw->Prop|[d],S=>F d S|_,_=>False
theorem CI{F:D->aw->Prop}{ds:List D}{S:aw}(h:Hu F ds S):∃d,ds=[d]/\F d S:=by match ds,h with|[d],h=>exact⟨d,rfl,h⟩
theorem qy:∀{ss:List Int}{au:List Value},Vals (ss.map V.int) au->IntsAre au ss|[],_,.nil=>.nil|z::ss,_,.cons r t=>by obtain⟨tk,rfl⟩:=r;exact .cons z tk<|qy t
theorem qz:∀{us:List Value}{zs:List Str},StrsAre us zs->∀j,j<zs.length->iA strKind us j=(zs.getD j "").cps.toList|_,_,.cons z t h,0,_=>rfl|_,_,.cons z t h,j+1,hj=>by have:=qz h j (by simpa using hj);unfold iA at this⊢;rw[List.getD_cons_succ,List.getD_cons_succ];exact this
theorem qA:∀{us:List Value}{zs:List Int},IntsAre us zs->∀j,j<zs.length->iA intK us j=zs.getD j 0|_,_,.cons z t h,0,_=>rfl|_,_,.cons z t h,j+1,hj=>by have:=qA h j (by simpa using hj);unfold iA at this⊢;rw[List.getD_cons_succ,List.getD_cons_succ];exact this
theorem Hv(h:StrsAre us zs):∀u∈us,∃x,strKind.keyOf u=some x:=by induction h with|nil=>(intro u hu;cases hu)|cons z t h ih=>intro u hu;rcases zh.mp hu with rfl|hu;exact{_,rfl};exact ih u hu
theorem Hw(h:IntsAre us zs):∀u∈us,∃x,intK.keyOf u=some x:=by induction h with|nil=>(intro u hu;cases hu)|cons z t h ih=>intro u hu;rcases zh.mp hu with rfl|hu;exact{_,rfl};exact ih u hu
theorem Hx{xs:List D}{f:D->D}{j:Nat}(hj:j<xs.length):(xs.map f)[j]?=some (f<|xs.getD j .ax):=by rw[zw,zM,zj hj];rfl
theorem uO{K:Frag}{H:Hp}{ds:List D}{xs:List V}(h:RvAll K H ds xs)(g:Nat->Nat):∀(ns:List Nat),(∀k∈ns,g k<ds.length)->RvAll K H (ns.map λk=>ds.getD (g k) .ax) (ns.map λk=>xs.getD (g k) .ax)|[],_=>bz|k::ns,hk=>by have YG:=hk k zi;obtain⟨v,e,r⟩:=h.get<|zj YG;refine aS ?_<|uO h g ns λk eY=>hk k<|ze _ eY;show Rv K H (ds.getD (g k) .ax) (xs.getD (g k) .ax);rw[zM,zj YG,zM,e];exact r
section
variable{K:Frag}{Y:Cx}{pins:List (Addr×Obj)}{τ:St}{H H2:Hp}{s:Shared}{N:List Str}{src:List (Option Nat)}{scope:Scope}{params:Arguments}{body:Expr}{q p:Str}{pm cv lB:Value}{f l:Addr}{te:TD}{b:Bool}{kw:List (Str×Value)}{k:Nat}
theorem xh{σ:SD}{S1:aw}{xs:List D}{fD:D->D}{Q:VK}{R:KD}{E:Value->Shared->Prop}(I:Inv Y (pins++[(f,xa Y q params body scope pm cv lB)]) τ H s)(hK:Y.K=K)(Uh:Y.calm=true)(hr:bO k Y.A)(ox:∃c o vs t,cv=.ref c/\H c=some (.kB o<|.own 0)/\o.data=.fields vs/\vs[1]?=some (.str q t)) (CS:bB Y N src scope) (K1:N[0]?=some p) (hp:scope.names.lookup p=some .local) (h0:src[0]?=some none) (y9:scope.isCoroutine=false) (A6:scope.isGenerator=false) (hb:∀cl pm cv lB u,bindArgs (kla_fn "<lambda>" q params body scope cl pm cv lB) {[u],[]}=pure [(p,u)]) (he:∀cv s H,DE K (Q1 Y N q scope f cv Y.A.in1.in1 s H) body te) (aC:g6 K H σ τ) (hS:Rs K S1 H) (hl:S1 l=some (.lst xs)) (FV:xs.length<64) (kd:xf<|xs.map fD) (step:∀x,x∈xs->∀S',Sub S1 S'->∀Qk:KD,(∀S2,Sub S' S2->Qk (fD x) S2)->te ((lU σ src).set 0<|some x) S' Qk Zf) (hR:Cn K H R Q) (fin:∀g S2 p,Po b (λj=>fD<|xs.getD j .ax) xs.length g->Sub S1 S2->S2 p=none->R (.ref p) (S2.set p<|.lst<|(List.range xs.length).map λk=>xs.getD (g k) .ax)) (V8:argsOk "sorted" {[.ref l],kw}) (V9:∀x,argsOk "list.sort" {[.ref x],kw}) (ht:∀x,Builtin.«list.sort» {[.ref x],kw}=ksk_tree x (.ref f) b): wpAny (model Y.prog Y.w) Y.A (call (.builtin "sorted") [.ref l] kw) (EP Y pins τ Q) E s:=by
 subst hK;obtain⟨vs,hv,rv⟩:=hS.lst hl;have Q3:vs.length=xs.length:=rv.len;obtain⟨c,oc,ws,tk,ecv,hc,rW,hcq⟩:=ox;have drop:∀{u:Value}{s':Shared},EP Y (pins++[(f,xa Y q params body scope pm cv lB)]) τ Q u s'->EP Y pins τ Q u s':=λ⟨v,H',J,r,q⟩=>{v,H',{J.ok,J.os,J.bare,J.base,J.loc,J.cell,J.free,J.eR,λp hp=>J.pin p<|by rcases zN.mp hp with z|z;exact zS _ z;exact zt _<|zS _ z,J.aM,J.len},r,q};have T:Hs Y (pins++[(f,xa Y q params body scope pm cv lB)]) τ Y.A.in1.in1 f vs λi ks H'=>∃S',Sub S1 S'/\Rs Y.K S' H'/\Kp Y.K H H'/\RvAll Y.K H' ((xs.take i).map fD) ks:=by rintro i x u ks s' H' more I' ⟨S',sb,rs,kp,rk⟩ hx ru;have hi:i<xs.length:=(by have:=(zk.mp hx).1;lia);obtain⟨v,e1,r1⟩:=rv.get<|zj hi;rw[hx]at e1;cases e1;have po:=(I'.pin (f,xa Y q params body scope pm cv lB)<|zt _<|zS _<|zt _<|by simp).1;have hcr:s'.heap.CodeRec cv q:={c,oc,ws,tk,ecv,(I'.aM c _<|kp.f _ _ _ hc).1,rW,hcq};refine Hn (A:=Y.A.in1.in1) I' CS K1 hp h0 I'.ok.frames (I'.ok.hd Uh) (by have:=hr.dp;show Y.A.depth<_;lia) ru po hcr y9 A6 (hb _ _ _ _ _) ((he cv s' H').of<|.none _ rfl) ?_;refine{_,S',λkk S2=>kk=fD xs[i]/\Sub S' S2,Zf,((aC.ts kp).pick src).set 0<|Rv.ts kp _ r1,rs,step _ (List.getElem_mem hi) S' sb _ λS2 h2=>⟨rfl,h2⟩,λkk S2 v2 H2 ⟨e2,Eu⟩ Q7 YJ Wa=>?_,.f};subst e2;refine{S2,sb.trans Eu,YJ,kp.trans Wa,?_};rw[show xs.take (i+1)=xs.take i++[xs[i]] by rw[List.take_add_one,zj hi];rfl,zL];exact(RvAll.ts Wa _ rk).app<|aS Q7 bz
 have w0:∃S',Sub S1 S'/\Rs Y.K S' H/\Kp Y.K H H/\RvAll Y.K H ((xs.take 0).map fD) []:={S1,.refl _,hS,.refl _,by rw[List.take_zero];exact bz};have VG:iQ Y.K H l vs:=.of hv;rcases kd with⟨zs,ez⟩|⟨zs,ez⟩;have hzl:zs.length=xs.length:=by have:=congrArg List.length ez;rw[zb,zb]at this;exact this.symm
 have ka:∀j,j<xs.length->fD (xs.getD j .ax)=.str (zs.getD j ""):=λj hj=>by have e1:=Hx (f:=fD) hj;rw[ez,zw,zj<|by lia]at e1;rw[zM (l:=zs),zj<|by lia];exact(zO e1).symm
 have kv:∀ks us H',(∃S',Sub S1 S'/\Rs Y.K S' H'/\Kp Y.K H H'/\RvAll Y.K H' ((xs.take vs.length).map fD) ks)->Vals ks us->StrsAre us zs:=λks us H' ⟨S',_,_,_,rk⟩ hu=>by rw[Q3,yJ,ez]at rk;rw[rk.strs]at hu;exact qw hu
 refine yF (t6 (κ:=strKind) (Q:=Q) (b:=b) strKind_oneLt I VG (by lia) V8 V9 ht T w0 (λks us H' w1 v1 l1=>{Hv<|kv ks us H' w1 v1,λnj nr rest e=>keyKind_strs<|by rw[<-e];exact kv ks us H' w1 v1}) λH' ks us g D w1 v1 l1 sr hD=>?_) (λu s' z=>drop z) λ_ _ z=>z;have sk:=kv ks us H' w1 v1;obtain⟨S',sb,rs,kp,rk⟩:=w1;rw[Q3]at sr⊢;refine(hR.kp kp).new rs hD (λhp=>fin g S' D {sr.lt,sr.inj,λi j kH hj=>?_} sb hp)<|uO (RvAll.ts kp _ rv) g _ λk hk=>sr.lt k<|zT.mp hk;have h1:=sr.lt i (by lia);have h2:=sr.lt j hj;have:=sr.ord i j kH hj;rw[qz sk _<|by lia,qz sk _<|by lia]at this;rw[ka _ h1,ka _ h2];rcases this with z|⟨z1,z2⟩;left;cases b with|false=>rw[if_neg zd]at z⊢;show(zs.getD (g i) "").cps.toList<(zs.getD (g j) "").cps.toList;exact zB z|true=>rw[if_pos rfl]at z⊢;show(zs.getD (g j) "").cps.toList<(zs.getD (g i) "").cps.toList;exact zB z
 exact .inr {by rw[Yy z1],z2};have hzl:zs.length=xs.length:=by have:=congrArg List.length ez;rw[zb,zb]at this;exact this.symm
 have ka:∀j,j<xs.length->fD (xs.getD j .ax)=.int (zs.getD j 0):=λj hj=>by have e1:=Hx (f:=fD) hj;rw[ez,zw,zj<|by lia]at e1;rw[zM (l:=zs),zj<|by lia];exact(zO e1).symm
 have kv:∀ks us H',(∃S',Sub S1 S'/\Rs Y.K S' H'/\Kp Y.K H H'/\RvAll Y.K H' ((xs.take vs.length).map fD) ks)->Vals ks us->IntsAre us zs:=λks us H' ⟨S',_,_,_,rk⟩ hu=>by rw[Q3,yJ,ez]at rk;rw[rk.ints]at hu;exact qy hu
 refine yF (t6 (κ:=intK) (Q:=Q) (b:=b) Ho I VG (by lia) V8 V9 ht T w0 (λks us H' w1 v1 l1=>{Hw<|kv ks us H' w1 v1,λnj nr rest e=>keyKind_ints<|by rw[<-e];exact kv ks us H' w1 v1}) λH' ks us g D w1 v1 l1 sr hD=>?_) (λu s' z=>drop z) λ_ _ z=>z;have sk:=kv ks us H' w1 v1;obtain⟨S',sb,rs,kp,rk⟩:=w1;rw[Q3]at sr⊢;refine(hR.kp kp).new rs hD (λhp=>fin g S' D {sr.lt,sr.inj,λi j kH hj=>?_} sb hp)<|uO (RvAll.ts kp _ rv) g _ λk hk=>sr.lt k<|zT.mp hk;have h1:=sr.lt i (by lia);have h2:=sr.lt j hj;have:=sr.ord i j kH hj;rw[qA sk _<|by lia,qA sk _<|by lia]at this;rw[ka _ h1,ka _ h2];rcases this with z|⟨z1,z2⟩;left;cases b with|false=>rw[if_neg zd]at z⊢;show zs.getD (g i) 0<zs.getD (g j) 0;exact zB z|true=>rw[if_pos rfl]at z⊢;show zs.getD (g j) 0<zs.getD (g i) 0;exact zB z
 exact .inr {by rw[z1],z2}
end
section
variable{K:Frag}{X:Cx}{N:List Str}{src:List (Option Nat)}{scope:Scope}{params:Arguments}{e body:Expr}{q p x:Str}{np pos lp kq kq2 cp:Pos}{ci}{tl te:TD}{k:Nat}{c P:Addr}
theorem Ue.kp{pins:List<|Addr×Obj}{τ:St}{H H':Hp}{u:Value}{s':Shared}{f:Addr}{pm cv lB:Value}{Y:Cx}(L:Ue Y pins τ H H' P q params body scope u s' f pm cv lB){ps:Array Value}(hP:H P=some (.pJ ps)):Kp K H H':=.of λb o e=>by rcases L.same b with z|⟨z,_⟩|⟨z,_⟩;exact .inl (by rw[z];exact e);rw[z,hP]at e;cases e;exact .inr {λ_=>nofun,λ_ _=>nofun};rw[z]at e;cases e
theorem Ue.rs{pins:List<|Addr×Obj}{τ:St}{H H':Hp}{u:Value}{s':Shared}{f:Addr}{pm cv lB:Value}{Y:Cx}{S:aw}(L:Ue Y pins τ H H' P q params body scope u s' f pm cv lB)(hS:Rs K S H)(ht:S P=some (.tab q)):Rs K S H':=λb x hb=>by obtain⟨ps,hP,_⟩:=hS P _ ht;have kp:Kp K H H':=L.kp hP;rcases L.same b with z|⟨rfl,Q5,z1,z2⟩|⟨z,_⟩;exact(hS b x hb).keep (λo e=>by rw[z];exact e) kp;rw[ht]at hb;cases hb;exact⟨Q5,z1,z2⟩;obtain⟨o,e,_⟩:=(hS b x hb).has;rw[z]at e;cases e
theorem Ui(ox:X.env.code=.ref c)(mk:YH K X.mg X.base c P)(hr:bO k X.A)(CS:bB X N src scope)(hl:DE K X e tl)(he:∀f cv s H,DE K (Q1 X N q scope f cv X.A.in1.in1 s H) body te)(hm:X.mg x=none)(hv:bootBuiltins x=some (.builtin "sorted")) (hq:autoParam (X.env.qual ++ "<lambda>"= q) qQJ) (K1:autoParam (N[0]?=some p) qQJ) (hp:autoParam (scope.names.lookup p=some .local) qQJ) (h0:autoParam (src[0]?=some none) qQJ) (y9:autoParam (scope.isCoroutine=false) qQJ) (A6:autoParam (scope.isGenerator=false) qQJ) (hb:autoParam (∀cl pm cv lB u,bindArgs (kla_fn "<lambda>" q params body scope cl pm cv lB) {[u],[]}=pure [(p,u)]) qJ1) (Ht:autoParam (defaultsOf params X.env=([],[])) qQJ) (hg:autoParam (Gl X x) qQJ) (hn:autoParam (x≠"__name__") qQZ) (o_:autoParam ((x==("__debug__": Str))=false) qQZ) (YK:autoParam (backTo pos (starEach [e] X.env)=(false,eval e X.env)::backTo pos (starEach [] X.env)) qQJ) (dr:autoParam ((backTo pos<|starEach [e] X.env).any (·.1)=false) qQJ) (K3:autoParam (isPlain e=true) qQJ) (hK:autoParam (X.K=K) qQJ) (hC:autoParam (X.calm=true) qQJ): DE K X (.Call (.Name x np) [e] [{some "key",.Lambda params body scope lp,kq}] pos) (MW false P q src tl te):=by subst hK;refine⟨λy=>?_⟩;rintro pins s τ H Q I ⟨σ,S,R,Z,aC,hS,t,hR,hZ⟩;refine wpAny_Call_Name_kw<|eS I hg hm hv ?_ hn o_;refine callWith_kw (bf (((ac hl an K3).of y) pos pins s τ H (λvs H1=>∃ds S1,Hu (xg false P q src te σ R) ds S1/\RvAll X.K H1 ds vs/\Rs X.K S1 H1/\Kp X.K H H1) I {σ,S,Hu<|xg false P q src te σ R,Z,aC,hS,t,λds S1 vs H1 r rv rs k1=>⟨ds,S1,r,rv,rs,k1⟩,hZ}) λus s1 ⟨vs,H1,I1,r1,ds,S1,r,rv,rs,k1⟩=>?_) YK dr;obtain⟨d,rfl,l,xs,fD,rfl,el,FV,et,kd,step,fin⟩:=CI r;obtain⟨v,Xz,rfl,Uj,Q7⟩:=rv.cons;cases Q7.nil;cases Uj.ref;obtain⟨u,rfl,ru⟩:=vals1 r1;cases ru;obtain⟨ps,hP,aM⟩:=rs P _ et;refine kws_cons<|xc I1 ⟨CS.kind,CS.fX,CS.loc,CS.tP,CS.len,CS.src⟩ ox mk hP aM hq Ht λw s2 H2 f pm cv lB L=>?_;refine kws_nil ?_;cases L.u;have k2:Kp X.K H1 H2:=L.kp hP;exact xh L.inv rfl hC hr L.code ⟨CS.kind,CS.fX,CS.loc,CS.tP,CS.len,CS.src⟩ K1 hp h0 y9 A6 hb (he f) ((aC.ts k1).ts k2) (L.rs rs et) el FV kd step (hR.kp<|k1.trans k2) fin (ksk_s1 _ _) (λx=>ksk_l1 _ _) λx=>ksk_t1 _ _
theorem MX(ox:X.env.code=.ref c)(mk:YH K X.mg X.base c P)(hr:bO k X.A)(CS:bB X N src scope)(hl:DE K X e tl)(he:∀f cv s H,DE K (Q1 X N q scope f cv X.A.in1.in1 s H) body te)(hm:X.mg x=none)(hv:bootBuiltins x=some (.builtin "sorted")) (hq:autoParam (X.env.qual ++ "<lambda>"= q) qQJ) (K1:autoParam (N[0]?=some p) qQJ) (hp:autoParam (scope.names.lookup p=some .local) qQJ) (h0:autoParam (src[0]?=some none) qQJ) (y9:autoParam (scope.isCoroutine=false) qQJ) (A6:autoParam (scope.isGenerator=false) qQJ) (hb:autoParam (∀cl pm cv lB u,bindArgs (kla_fn "<lambda>" q params body scope cl pm cv lB) {[u],[]}=pure [(p,u)]) qJ1) (Ht:autoParam (defaultsOf params X.env=([],[])) qQJ) (hg:autoParam (Gl X x) qQJ) (hn:autoParam (x≠"__name__") qQZ) (o_:autoParam ((x==("__debug__": Str))=false) qQZ) (YK:autoParam (backTo pos (starEach [e] X.env)=(false,eval e X.env)::backTo pos (starEach [] X.env)) qQJ) (dr:autoParam ((backTo pos<|starEach [e] X.env).any (·.1)=false) qQJ) (K3:autoParam (isPlain e=true) qQJ) (hK:autoParam (X.K=K) qQJ) (hC:autoParam (X.calm=true) qQJ): DE K X (.Call (.Name x np) [e] [{some "key",.Lambda params body scope lp,kq},{some "reverse",.Constant (.bool true) ci cp,kq2}] pos) (MW true P q src tl te):=by subst hK;refine⟨λy=>?_⟩;rintro pins s τ H Q I ⟨σ,S,R,Z,aC,hS,t,hR,hZ⟩;refine wpAny_Call_Name_kw<|eS I hg hm hv ?_ hn o_;refine callWith_kw (bf (((ac hl an K3).of y) pos pins s τ H (λvs H1=>∃ds S1,Hu (xg true P q src te σ R) ds S1/\RvAll X.K H1 ds vs/\Rs X.K S1 H1/\Kp X.K H H1) I {σ,S,Hu<|xg true P q src te σ R,Z,aC,hS,t,λds S1 vs H1 r rv rs k1=>⟨ds,S1,r,rv,rs,k1⟩,hZ}) λus s1 ⟨vs,H1,I1,r1,ds,S1,r,rv,rs,k1⟩=>?_) YK dr;obtain⟨d,rfl,l,xs,fD,rfl,el,FV,et,kd,step,fin⟩:=CI r;obtain⟨v,Xz,rfl,Uj,Q7⟩:=rv.cons;cases Q7.nil;cases Uj.ref;obtain⟨u,rfl,ru⟩:=vals1 r1;cases ru;obtain⟨ps,hP,aM⟩:=rs P _ et;refine kws_cons<|xc I1 ⟨CS.kind,CS.fX,CS.loc,CS.tP,CS.len,CS.src⟩ ox mk hP aM hq Ht λw s2 H2 f pm cv lB L=>?_;refine kws_cons<|bf (Mh (X:=y.cx) _ s2 τ H2 (λv H'=>v=.bl true/\H'=H2) L.inv ⟨rfl,rfl⟩) λw2 s3 ⟨v2,H3,I3,r3,e3,e4⟩=>?_;subst e3 e4;obtain rfl:w2=Value.bool true:=r3;refine kws_nil ?_;cases L.u;have k2:Kp X.K H1 H3:=L.kp hP;exact xh I3 rfl hC hr L.code ⟨CS.kind,CS.fX,CS.loc,CS.tP,CS.len,CS.src⟩ K1 hp h0 y9 A6 hb (he f) ((aC.ts k1).ts k2) (L.rs rs et) el FV kd step (hR.kp<|k1.trans k2) fin (ksk_s2 _ _ _) (λx=>ksk_l2 _ _ _) λx=>ksk_t2 _ _ _
end
section
variable{P:Program}{w:World}{K:Frag}{mg:Str->Option Value}{base:Heap}
theorem uK.okC{x qual:Str}{st:Stmt}{f:Addr}{fd:FuncData}{N ps:List Str}{k:Nat}{sp:jE}(F:uK K x qual st f fd)(S:fE N ps<|ag st)(len:∀ds S R Z,sp ds S R Z->ds.length=ps.length) (lG:∀(gu:Value)(A:Around)(outer:List Env)(s:Shared)(H:Hp)(E:XK)(ds:List D)(S:aw)(R:KD)(Z:KX),gu=fd.code->bO k (A.deeper<|envOfC qual (ag st) s.heap.objs.size f gu)->sp ds S R Z->∃t,FU K (jP (eU P w mg) P w K mg base N qual (ag st) f gu A outer s H E) true (aY st) t/\t {nx:=λ_ S'=>Fo S'<|R .ax,rt:=λd S'=>Fo S'<|R d} (g8 N ds) S λ_ C S'=>Fo S'<|Z C):bG P w K mg base (eU P w mg) (k+1) f fd ps (ph K sp):=by
 obtain⟨oc,od,dV,kV,doc,pm,an,gu,ct,Oc,rfl,lk,rW⟩:=F.ex;have dr:ps.length<=N.length:=by have:=congrArg List.length S.pre;rw[yy]at this;lia
 refine Mq lk rW S (by rintro vs H Q E ⟨ds,S',R,Z,v,_,h,_⟩;exact by rw[v.len];exact len _ _ _ _ h) λA outer s H vs Q E hr ⟨ds,S',R,Z,v,hS,h,hR,hZ⟩=>?_;obtain⟨t,ht,q⟩:=lG gu A outer s H E ds S' R Z rfl hr h;have L:cJ (jP (eU P w mg) P w K mg base N qual (ag st) f gu A outer s H E) E:=tR;let y:Ev (jP (eU P w mg) P w K mg base N qual (ag st) f gu A outer s H E) true:={_,(jP (eU P w mg) P w K mg base N qual (ag st) f gu A outer s H E).xe,λ_=>E,{λp2 τ H1 s1 e s' I h=>Mx L p2 τ H1 s1 e s' I h,λ_ p2 τ H1 s1 h' a cls args I hx he=>ot L I hx he,λ_=>PassesOwn.leaving}};refine{L2.Tl K (λ_=>E) t,ht.of y,g8 N ds,S',_,λ_ C S'=>Fo S'<|Z C,?_,hS,q,{by rintro σ S1 τ H1 ⟨S2,sb,r⟩ a b c;exact(hR.kp c).now (b.sub sb) r gW,by rintro d S1 v H1 ⟨S2,sb,r⟩ a b c;exact hR _ _ _ _ r a (b.sub sb) c,λ_ _ _ _ z=>z.elim,λ_ _ _ _ z=>z.elim},by rintro σ τ C S1 H1 ⟨S2,sb,r⟩ a b c;exact hZ C S2 H1 r (b.sub sb) c};unfold g8 start;refine(qt v).app ?_;rw[v.len];exact qr _ _<|by rw[List.length_replicate]
end
structure xi(ts:List Addr)(H:Hp):Prop where
 all:∀b,H b=none\/(∃o xs,H b=some (.kB o<|.lst xs))\/(b∈ts/\H b=some (.pJ #[]))
 tab:∀b∈ts,H b=some (.pJ #[])
theorem EU{P:Program}{w:World}{K:Frag}{mg mb:Str->Option Value}{CX:Ar}{k:Nat}{fa a:Addr}{fd:FuncData}{x:Str}{sp:Sp}{a_:Shared}{vs:List Value}{ns:List Int}{ts:List Addr} (KX:K.In a_.heap) (Pl:a_.heap.Ns mainGlobals mg) (hb:a_.heap.Ns builtinsNs mb) (hbb:∀x:Str,x≠"__name__"->mb x=bootBuiltins x) (YL:a_.heap.NoLimit) (hbm:Bm mg a_.heap) (hg:a_.gens=#[]) (hT:∀b∈ts,a_.heap.get? b=some (tabObj #[])) (hC:∀b∈ts,isCodeTable a_.heap b) (hN:∀b∈ts,K.lookup b=none) (ha:a_.heap.get? a=some {cls:=.type "list",data:=.seq vs.toArray}) (hi:IntsAre vs ns) (hl:ns.length<=sizeLine) (hr:bO k callerA) (F:∀base:Heap,Bm mg base->K.In base->base.Ns mainGlobals mg->bG P w K mg base CX k fa fd [x] sp) (Uk:∀(s:Shared) (u:Value),BindsTo s fd {[u],[]} [(x,u)]) (QP:∀H:Hp,xi ts H->iQ K H a (ns.map V.int)->sp [.ref a] H (λv _=>v=.bl true) λ_ _ _=>False) (YM:∀H e s',CX [] H a_ (λ_ _ _=>False) e s'->False): codeAny (model P w) callerA (.call (.ref fa) {[.ref a],[]}) (λr s'=>r=.ok (.ret<|.bool true)/\OldK a_.heap s'.heap/\s'.os=a_.os/\AllBare s'.gens) a_:=by
 have rv:=tM hi;have YN:=hi.length;have Jv:a∉ts:=λz=>by rw[hT a z]at ha;cases ha
 have core:∀H:Hp,xi ts H->iQ K H a (ns.map V.int)->kC P w H a_.heap->(∀b,H b≠none->b=a\/b∈ts)->(H a≠none->K.lookup a=none)->codeAny (model P w) callerA (.call (.ref fa) {[.ref a],[]}) (λr s'=>r=.ok (.ret<|.bool true)/\OldK a_.heap s'.heap/\s'.os=a_.os/\AllBare s'.gens) a_:=by intro H hO hS aM hA hK;have uP:∀{b:Addr}{o:Obj},a_.heap.get? b=some o->H b=none->(sj a_.heap H).get? b=some o:=λe n=>Ga e n;have JY:∀{b:Addr}{o:Obj}{es:Array DictEntry}{ep:Nat},a_.heap.get? b=some o->o.data=.dict es ep->H b=none:=λ{b o es ep} e d=>(by cases q:H b with|none=>rfl|some u=>rcases hA b (by rw[q];simp) with e'|e';subst e';rw[ha]at e;cases e;have d':Data.seq vs.toArray _=Data.dict es ep:=d;cases d';rw[hT b e']at e;cases e;cases d);have Wb:∀{b:Addr}{m:Str->Option Value},a_.heap.Ns b m->(sj a_.heap H).Ns b m:=λ{b m} ⟨o,es,ep,e,d,r⟩=>{o,es,ep,uP e<|JY e d,d,r};have hKb:K.In (sj a_.heap H):=λb o e=>uP (KX b o e) (by cases q:H b with|none=>rfl|some u=>rcases hA b (by rw[q];simp) with e'|e';subst e';rw[hK<|by rw[q];simp]at e;cases e;rw[hN b e']at e;cases e);have hM:Mod K mg (sj a_.heap H):={hKb,Wb Pl,{mb,Wb hb,hbb},by obtain⟨mc,h1,h2⟩:=YL;exact{mc,Wb h1,h2}};have e0:wx P w K mg (sj a_.heap H) callerA [] a_ H:={rfl,hM,λb o e=>JE e,Nat.le_of_eq<|DY _ _,trivial,λb hb=>absurd (show b∈([]:List Addr) from hb)<|by simp,aM,.of_eq hg};have hBm:Bm mg (sj a_.heap H):=(by obtain⟨bm,ob,b1,b2,b3,b4,b5,b6⟩:=hbm;refine{bm,ob,b1,b2,uP b3 ?_,b4,b5,b6};cases q:H bm with|none=>rfl|some u=>rcases hA bm (by rw[q];simp) with e'|e';rw[e',ha]at b3;cases b3;cases b6;rw[hT bm e']at b3;cases b3;cases b4);refine yS ((F _ hBm hKb<|Wb Pl).run callerA [] a_ H {[.ref a],[]} [.ref a] [.ref a] _ _ hr e0 (Uk a_<|.ref a) (.cons rfl .nil)<|QP H hO hS) λr s' h=>?_;cases r with|error e=>exact(YM H e s' h).elim|ok fl=>cases fl with|next=>exact False.elim h|brk=>exact False.elim h|cont=>exact False.elim h|ret u=>obtain⟨v,H',os,bare,un,Ul,r',q⟩:=h;have q':v=.bl true:=q;subst q';obtain rfl:u=Value.bool true:=r';refine{rfl,{λb o e=>?_,λb o e=>un.there b o e<|by simp},os,bare};rcases hO.all b with z|⟨ob,xs,z⟩|⟨z1,z⟩;exact .inl<|un.keep b o e z (by intro z;exact absurd (show b∈([]:List Addr) from z)<|by simp) (by simp);have z2:=un.jM b ob _ z;obtain⟨e1,_⟩:=aM b _ z;obtain⟨e2,_⟩:=Ul b _ z2;rw[e]at e1;cases e1;exact .inl e2;obtain⟨more,z2⟩:=un.jN b _ z;have e2:=hT b z1;rw[e]at e2;cases e2;exact .inr<|.inl {hC b z1,rfl,#[],more,rfl,by have:=Ul b _ z2;exact this}
 have tabs:∀(H:Hp),(∀b,b∈ts->H b=some (.pJ #[]))->∀b u,b∈ts->H b=some u->bj P w H a_.heap b u:=λH h b u hb e=>by rw[h b hb]at e;cases e;exact hT b hb
 cases hk:K.lookup a with|some o=>(have e:=KX a o hk;rw[ha]at e;cases e;refine core (λb=>if b∈ts then some (.pJ #[]) else none) {λb=>?_,λb hb=>if_pos hb} (.inr {_,vs.toArray,_,hk,rfl,rfl,rfl,by rw[zo,YN];exact hl,by simpa using rv}) (λb u z=>?_) (λb z=>?_) λz=>absurd (if_neg Jv) z;by_cases hb:b∈ts;exact .inr<|.inr {hb,if_pos hb};exact .inl<|if_neg hb;by_cases hb:b∈ts;exact tabs _ (λb hb=>if_pos hb) b u hb z;have z':=(if_neg hb).symm.trans z;cases z';by_cases hb:b∈ts;exact .inr hb;exact absurd (if_neg hb) z)|none=>refine core (λb=>if b=a then some (.kB {cls:=.type "list",data:=.seq vs.toArray}<|.lst<|ns.map V.int) else if b∈ts then some (.pJ #[]) else none) {λb=>?_,λb hb=>?_} (.inl<|.inr {{cls:=.type "list",data:=.seq vs.toArray},if_pos rfl}) (λb u z=>?_) (λb z=>?_) λ_=>hk;by_cases hb:b=a;exact .inr<|.inl {_,_,if_pos hb};by_cases FW:b∈ts;exact .inr<|.inr {FW,(if_neg hb).trans<|if_pos FW};exact .inl<|(if_neg hb).trans<|if_neg FW;have:b≠a:=λz=>Jv<|z ▸ hb;exact(if_neg this).trans<|if_pos hb;by_cases hb:b=a;have z':=(if_pos hb).symm.trans z;cases z';subst hb;exact{ha,by rw[zb];exact hl,vs,_,rv,ha};have z':=(if_neg hb).symm.trans z;by_cases FW:b∈ts;have z2:=(if_pos FW).symm.trans z';cases z2;exact hT b FW;have z2:=(if_neg FW).symm.trans z';cases z2;by_cases hb:b=a;exact .inl hb;by_cases FW:b∈ts;exact .inr FW;exact absurd ((if_neg hb).trans<|if_neg FW) z
theorem CJ:∀{K:Frag},b∉K.map (·.1)->K.lookup b=none|[],_=>rfl| (a,o)::K,h=>by rw[zq,zh,not_or]at h;rw[yd,show(b==a)=false from beq_false_of_ne h.1];exact CJ h.2
theorem K4{K:Params->Frag}{as:List Addr}{e:∀P,as=(K P).map (·.1)}{ts:List Addr}{w:World}{h:Heap}(_:(PySem.W.kmHook K as e ts).says w h)(d:∀b∈ts,b∉as):∀b∈ts,(K w.params).lookup b=none:=λb hb=>CJ<|by rw[<-e];exact d b hb
theorem Hy{l:PySem.W.OpenLaw}{n k:Nat}{q:Program}{loose:List Str}{XP:(Str->Option Value)->Heap->Prop}{YP:World->Heap->Prop}{d:DefRec}{K:Params->Frag}{CX:Ar}{x:Str}{ts:List Addr} (hn:l.most=some n) (Jo:n<=sizeLine) (Xl:d.params.defaults=[]) (hr:bO k callerA) (hY:∀(w:World)(h:Heap),YP w h->(K w.params).In h) (hT:∀(w:World)(h:Heap),YP w h->∀b∈ts,h.get? b=some (tabObj #[])) (hN:∀(w:World)(h:Heap),YP w h->∀b∈ts,(K w.params).lookup b=none) (F:∀(w:World)(mg:Str->Option Value)(fa:Addr)(h:Heap),(K w.params).In h->h.Ns mainGlobals mg->mg d.name=some (.ref fa)->∃(fd:FuncData)(sp:Sp),(∀b∈ts,∃c,codeHdIn (K w.params) c b=true)/\(∀(s:Shared)(u:Value),BindsTo s fd {[u],[]} [(x,u)])/\(∀base:Heap,Bm mg base->(K w.params).In base->base.Ns mainGlobals mg->bG l.prog w (K w.params) mg base CX k fa fd [x] sp)/\∀(H:Hp)(a:Addr)(ns:List Int),ns.length<=n->xi ts H->iQ (K w.params) H a (ns.map V.int)->sp [.ref a] H (λv _=>v=.bl true) λ_ _ _=>False) (YM:∀(H:Hp)(s:Shared)(e:Value)(s':Shared),CX [] H s (λ_ _ _=>False) e s'->False): PySem.W.WalkO q loose XP YP l.row.toRowW d [] (λf vs=>PySem.call f vs):=by refine Att.wF hn Xl λw cI a_ mg mb fa o pm cd doc a vs ns G Y ho hd rW OA OB hints hlen hg=>?_;have KX:=hY w _ Y;obtain⟨fd,sp,hC,hb,hF,QP⟩:=F w mg fa _ KX G.T.g OA;have hT':=hT w _ Y;exact EU KX G.T.g G.T.b G.T.builtins G.T.nolimit G.T.bmain hg hT' (λb z=>by obtain⟨c,hc⟩:=hC b z;exact((codeHd_of_K KX hc).tab<|hT' b z).isCodeTable) (hN w _ Y) OB hints (zH hlen Jo) hr hF hb (λH hO hS=>QP H a ns hlen hO hS) λH e s'=>YM H a_ e s'
namespace Rt
theorem own:Manifest.owners.lookup (String.ofList ['d','e','s','r','e','v','e','r'].reverse)=some Manifest.sig_reversed:=by kernel_rfl
theorem lW:Slot "reversed" "__next__" "reversed.__next__":=.of (owner:="reversed") (n:="__next__") (by rw[typeLookup_type,builtinLookup_eq_fast];kernel_rfl) (by trivial) (by trivial) (by trivial) (by first|exact .inl (by trivial)|exact .inr (by trivial))<|by rw[isSubtype_type];kernel_rfl
theorem CK:entryFor table "reversed.__next__"= some Builtin.«reversed.__next__»:=entryFor_of_tree<|by kernel_rfl
theorem CL(a:Value):argsOk "reversed.__next__" {[a],[]}:=by unfold argsOk;rw[signature?_of (id:="reversed.__next__") (n:=['_','_','t','x','e','n','_','_']) (o:=['d','e','s','r','e','v','e','r']) (by kernel_rfl) own];kernel_rfl
theorem CM:Slot "reversed" "__iter__" "reversed.__iter__":=.of (owner:="reversed") (n:="__iter__") (by rw[typeLookup_type,builtinLookup_eq_fast];kernel_rfl) (by trivial) (by trivial) (by trivial) (by first|exact .inl (by trivial)|exact .inr (by trivial))<|by rw[isSubtype_type];kernel_rfl
theorem K5(a:Value):argsOk "reversed.__iter__" {[a],[]}:=by unfold argsOk;rw[signature?_of (id:="reversed.__iter__") (n:=['_','_','r','e','t','i','_','_']) (o:=['d','e','s','r','e','v','e','r']) (by kernel_rfl) own];kernel_rfl
theorem K6:entryFor table "reversed.__iter__"= some Builtin.«dict_keyiterator.__iter__»:=entryFor_alias (id':="dict_keyiterator.__iter__") (by kernel_rfl) (by first|rfl|decide +kernel|(unfold String.splitOn;simp +decide [String.splitOnAux])) (by trivial)<|by kernel_rfl
theorem K7:Slot "reversed" "__init__" "object.__init__":=.of (owner:="object") (n:="__init__") (by rw[typeLookup_type,builtinLookup_eq_fast];kernel_rfl) (by trivial) (by trivial) (by trivial) (by first|exact .inl (by trivial)|exact .inr (by trivial))<|by rw[isSubtype_type];kernel_rfl
theorem called:TypeCalled "reversed" "reversed.__new__" "object.__init__":={by trivial,by trivial,{_,_,F.mro_reversed},F.made_reversed,by trivial,by rw[isSubtype_type];kernel_rfl,K7}
theorem Pp:typeLookup (.type "tuple") "__reversed__"= pure none:=by rw[typeLookup_type,builtinLookup_eq_fast];kernel_rfl
theorem CO:typeLookup (.type "tuple") "__getitem__"= pure (some<|.builtin "tuple.__getitem__"):=by rw[typeLookup_type,builtinLookup_eq_fast];kernel_rfl
theorem K8:isSubtype (.type "tuple") (.type "dict")=pure false:=by rw[isSubtype_type];kernel_rfl
end Rt
noncomputable def xj(l:Addr)(i:Int):Obj:={cls:=.type "reversed",data:=.fields #[.ref l,rawInt i]}
def qB(h:Heap)(a l:Addr)(i:Int):Prop:=∃o,h.get? a=some o/\o.cls=.type "reversed"/\o.data=.fields #[.ref l,rawInt i]
section
variable{prog:Program}{w:World}{A:Around}{E:Value->Shared->Prop}{s:Shared}
theorem qB.typeIs(x:qB s.heap a l i):s.TypeIs (.ref a) "reversed":=by obtain⟨o,ho,hc,_⟩:=x;exact⟨o,ho,hc⟩
theorem qB.keep(x:qB h a l i)(e:∀o,h.get? a=some o->h'.get? a=some o):qB h' a l i:=by obtain⟨o,ho,r⟩:=x;exact{o,e _ ho,r}
theorem Pq(hl:IsTup s.heap l items)(hz:items.size<=sizeLine)(h:Q₁ (.ref s.heap.objs.size) {s with heap:=s.heap.push<|xj l<|(items.size:Int)-1,toks:=s.toks+1+1}): codeAny (model prog w) A (.call (.builtin "reversed.__new__") {[.type "reversed",.ref l],[]}) (wants Q₁ E) s:=by
 refine codeAny_of_tree ?_;show wpAny _ A.in1 (do checkBuiltinCall "reversed.__new__" {[.type "reversed",.ref l],[]};again (.builtin "reversed.__new__" {[.type "reversed",.ref l],[]})) _ _ s;refine zc<|yV (F.newCall_reversed_1 _)<|zA {plainId_quiet F.plain_reversed_new _,yQ F.entry_reversed_new ?_};rw[Around.under_plainId F.plain_reversed_new _];unfold Builtin.«reversed.__new__»;refine zc<|yV (newClass_reversed _) ?_;refine zc<|yV (a:=()) (by first|rfl|kernel_rfl)<|zc<|yV (a:=()) (by first|rfl|kernel_rfl) ?_;refine zc<|wpAny_specialOf hl.typeIs Rt.Pp ?_;refine zc<|zc<|wpAny_isInstance hl.typeIs Rt.K8<|zc<|wpAny_specialOf hl.typeIs Rt.CO ?_;show wpAny _ _ (if (["tuple.__getitem__","str.__getitem__","bytes.__getitem__","bytearray.__getitem__","memoryview.__getitem__","numpy.ndarray.__getitem__","sqlite3.Row.__getitem__"]:List String).contains "tuple.__getitem__"= true then pure true else _) _ _ _;rw[if_pos<|by trivial];refine zA ?_
 show wpAny _ _ (do
     let nv <-call (Value.builtin "len") [Value.ref l]
     let __x <-asInt? nv
     match __x with
      |some n=>do
       let nv <-Builtin.SmallTypes.newRecord (Value.type "reversed") [Value.ref l,rawInt (n-1)]
       ret nv
      |x=>unsupported "internal:reversed.__new__") _ _ _
 refine zc<|len_tuple hl (by rw[ye]at hz;lia) ?_;refine zc<|yV (a:=some ((items.size:Nat):Int)) rfl ?_;exact zc (m:=newObj (.type "reversed")<|.fields #[.ref l,rawInt<|((items.size:Nat):Int)-1])<|yA<|zA h
theorem K9(hl:IsTup s.heap l items)(hz:items.size<=sizeLine)(h:Q (.ref s.heap.objs.size) {s with heap:=s.heap.push<|xj l<|(items.size:Int)-1,toks:=s.toks+1+1}): wpAny (model prog w) A (call (.type "reversed") [.ref l]) Q E s:=by refine callType_codes Rt.called (F.typeCall_reversed_1 _) F.entry_object_init (Q₁:=λobj a_=>a_.TypeIs obj "reversed"/\Q obj a_) (Pq hl hz {{_,zm _ rfl,rfl},h}) λobj a_ h₁=>?_;exact{h₁.1,F.args_object_init_2 obj _,object_init_meets Rt.called.init.lookup Rt.called.made (by decide) prog w A.in1 _ a_ ⟨h₁.1,rfl,h₁.2⟩}
theorem sqx(h:k<n):seqIndex? ((k:Nat):Int) n=some k:=by have e:(if ((k:Nat):Int)<0 then ((k:Nat):Int)+(n:Int) else ((k:Nat):Int))=((k:Nat):Int):=if_neg (by lia);unfold seqIndex?;dsimp only;rw[e,if_pos<|by simp;lia];rfl
theorem K_{it l:Addr}{i:Nat}{items:Array Value}{x:Value}{Q:Option Value->Shared->Prop}(hit:qB s.heap it l (i:Int))(hl:IsTup s.heap l items)(hz:items.size<=sizeLine)(hx:items[i]?=some x) (hQ:∀h' tk,qB h' it l ((i:Int)-1)->Heap.SameBut it s.heap h'->Q (some x) {s with heap:=h',toks:=tk}):wpAny (model prog w) A (pyNext<|.ref it) Q E s:=by obtain⟨o,ho,hc,hd⟩:=id hit;have hi:i<items.size:=(Array.getElem?_eq_some_iff.mp hx).1;unfold pyNext;refine zc<|wpAny_attempt<|wpAny_callSpecial?_slot (name:=Str.ofString "__next__") hit.typeIs Rt.lW<|yK Rt.lW hit.typeIs Rt.CK ?_<|Rt.CL _;unfold Builtin.«reversed.__next__»;refine zc<|yV (a:=(Value.ref it,[])) rfl<|zc<|yf ho hd (x:=.ref l) rfl<|zc<|yf ho hd (x:=rawInt (i:Int)) rfl ?_;show wpAny _ _ (if (i:Int)<0 then _ else _) _ _ s;rw[if_neg<|by lia];show wpAny _ _ (specialOf (.ref l) "__getitem__" >>=_) _ _ s;refine zc<|wpAny_specialOf hl.typeIs Rt.CO ?_;show wpAny _ _ (mkInt (i:Int) >>=_) _ _ s;refine zc<|wpAny_mkInt ?_;refine zc<|wpAny_attempt<|getItem_tuple (j:=i) hl (by lia) (by rw[ye]at hz;lia) (sqx hi) hx ?_;refine zc<|yf ho hd (x:=rawInt (i:Int)) rfl ?_;show wpAny _ _ (setField (.ref it) 1 (rawInt<|(i:Int)-1) >>=λ_=>ret x) _ _ _;refine zc<|yR ho hd (by simp)<|zA {x,rfl,zA<|hQ _ _ ?_<|yB ..};exact{_,yu _ ho<|Obj.isFreed_of_fields<|yx hd _,(Obj.cls_mapFields ..).trans hc,by rw[yx hd];simp}
theorem Pr(hh:A.handled=none)(hit:qB s.heap it l (-1))(hQ:∀h',Heap.ExtBut it s.heap h'->Q none {s with heap:=h'}):wpAny (model prog w) A (pyNext<|.ref it) Q E s:=by
 obtain⟨o,ho,hc,hd⟩:=id hit;unfold pyNext;refine zc<|wpAny_attempt<|wpAny_callSpecial?_slot (name:=Str.ofString "__next__") hit.typeIs Rt.lW<|yK Rt.lW hit.typeIs Rt.CK ?_<|Rt.CL _;unfold Builtin.«reversed.__next__»;refine zc<|yV (a:=(Value.ref it,[])) rfl<|zc<|yf ho hd (x:=.ref l) rfl<|zc<|yf ho hd (x:=rawInt (-1)) rfl ?_;show wpAny _ _ (if (-1:Int)<0 then _ else _) _ _ s;rw[if_pos<|by decide];refine zc<|wpAny_rule ?_;have hd1:=yx hd (·.setIfInBounds 1 (rawInt (-1)));have Q4:=yu (Obj.mapFields (·.setIfInBounds 1 (rawInt (-1)))) ho<|Obj.isFreed_of_fields hd1;refine zc (m:=setField (.ref it) 1 (rawInt (-1)) >>=λ_=>setField (.ref it) 0 .none)<|zc<|yR ho hd (by simp)<|yR Q4 hd1 (by simp) ?_;have eb:Heap.ExtBut it s.heap ((s.heap.update it (Obj.mapFields (·.setIfInBounds 1 (rawInt (-1))))).update it (Obj.mapFields (·.setIfInBounds 0 Value.none))):=λb u hb e=>by rw[yp _ _<|Ne.symm hb,yp _ _<|Ne.symm hb];exact e
 refine zc ?_;show wpAny _ _ (newExc (.type "StopIteration") [] >>=_) _ _ _;refine zc ?_;simp only[newExc,newTuple];refine zc<|yA ?_ (by size_fits);refine zc (m:=firstArgMember _ _)<|yV (a:=Value.none) (by first|rfl|(simp only[firstArgMember];rfl)) ?_;refine yA ?_ (by size_fits);simp only[raiseNew];refine zc<|wpAny_handled ?_;first|rw[show A.in1.handled=none from hh]|rw[hh]
 refine zc<|zA<|wpAny_throw ?_;refine zc<|wpAny_isInstance (T:="StopIteration") (b:=true) {_,zm _ rfl,rfl} isSubtype_stop ?_;exact zA<|hQ _<|(eb.push _).push _
theorem CP(hit:qB s.heap it l i)(h:Q (.ref it) s):wpAny (model prog w) A (pyIter<|.ref it) Q E s:=by refine wpAny_pyIter_slot hit.typeIs Rt.CM<|yK Rt.CM hit.typeIs Rt.K6 ?_<|Rt.K5 _;show wpAny _ _ (ret<|.ref it) _ _ s;exact zA !{"reversed",_,hit.typeIs,Rt.lW.lookup,h}
end
end L2
namespace L2
open PySem PySem.Spec PyProof.Rows
def Um(K:Frag)(a:Addr)(n:Nat):It:={λi H=>∃xs x,iu K H a xs/\xs.length=n/\i<n/\xs[n-1-i]?=some x,λi H x H'=>H'=H/\∀xs,iu K H a xs->xs.length=n->xs[n-1-i]?=some x,λi _=>n<=i}
theorem La{P:Program}{w:World}{K:Frag}{tg:Expr}(a it:Addr)(n:Nat):Turn P w K tg (Um K a n) [it] it (λi h=>i<=n/\qB h it a ((n:Int)-1-(i:Int))) where
 mem:=by simp
 obj:=λi h st b hb=>by
  have e:b=it:=by simpa using hb
  subst e
  obtain⟨_,o,e,c,d⟩:=st
  exact{o,e,λv z=>by rw[d]at z;cases z}
 keep:=λi h h' st k=>{st.1,st.2.keep λo e=>k it (by simp) o e}
 item:=by
  intro X hP hw hK hc i pins s σ H E I hf st hg
  subst hP hw hK
  obtain⟨xs,x,hq,hn,hi,hx⟩:=hg
  obtain⟨au,rv,p,hz⟩:=I.tuple hq
  obtain⟨u,hu,ru⟩:=rv.get hx
  obtain⟨f0,f1,f2,f3,f4,f5⟩:=hf it<|by simp
  have e:(n:Int)-1-(i:Int)=((n-1-i:Nat):Int):=by lia
  have hit:=st.2
  rw[e]at hit
  refine K_ hit p (by rw[zo,<-rv.length];exact hz) (x:=u) (by simpa using hu) λh' tk dW sb=>?_
  have I1:Inv X pins σ H {s with heap:=h',toks:=tk}:=I.turned (t':=tk) (λb o hb e=>(sb.2 b hb).trans e) f0 f1 f3 f4 f5
  obtain⟨o,e1,c,d⟩:=id dW
  refine{u,rfl,tq (s:={s with heap:=h',toks:=tk}) e1 c d (by decide) {x,H,I1,ru,{rfl,λys hy _=>by rw[I.mY hy hq];exact hx},{hi,?_},λb hb=>(hf b hb).1}}
  have e2:(n:Int)-1-((i+1:Nat):Int)=((n-1-i:Nat):Int)-1:=by lia
  rw[e2];exact dW
 done:=by
  intro X hP hw hK hc i pins s σ H E I hf st hg
  subst hP hw hK
  obtain⟨f0,f1,f2,f3,f4,f5⟩:=hf it<|by simp
  have hg:n<=i:=hg
  have e:(n:Int)-1-(i:Int) = -1:=by have:=st.1;lia
  have hit:=st.2
  rw[e]at hit
  exact Pr (I.ok.hd hc) hit λh' eb=>{rfl,I.turned (t':=s.toks) (λb o hb e=>eb b o hb e) f0 f1 f3 f4 f5}
 self:=λ_ _ _ _ _ st h=>CP st.2 h
def iRt(K:Frag)(ta:TA):TI:=λσ H R=>ta σ H λvs H1=>∃a xs,vs=[.ref a]/\iu K H1 a xs/\R (Um K a xs.length) H1
theorem Uo{X:Cx}{tg a:Expr}{ta:TA}{p pos:Pos}(hg:Gl X "reversed")(hm:X.mg "reversed"= none)(ha:PA X [a] ta)(hs:starEach [a] X.env=[(false,eval a X.env)]):PI X tg (.Call (.Name "reversed" p) [a] [] pos) (iRt X.K ta):=by
 intro pins s σ H R I h;refine Call_<|eS I hg hm boot_reversed<|PyProof.Rows.callWith_type1 (bf (ha pos pins s σ H _ I h) λus s1 ⟨vs,H1,I1,r1,q1⟩=>?_) hs rfl;obtain⟨l,xs,e,q,hR⟩:=q1;subst e;obtain⟨u,rfl,ru⟩:=vals1 r1;cases ru;obtain⟨au,rv,pl,hz⟩:=I1.tuple q;have hn:au.toArray.size=xs.length:=by rw[zo,rv.length]
 refine K9 pl (by rw[hn];exact hz) ?_;rw[hn];have st:qB (s1.heap.push<|xj l<|(xs.length:Int)-1) s1.heap.objs.size l ((xs.length:Int)-1-((0:Nat):Int)):={_,zm _ rfl,rfl,by show Data.fields _=Data.fields _;simp};have I2:Inv X pins σ H1 {s1 with heap:=s1.heap.push<|xj l<|(xs.length:Int)-1,toks:=s1.toks+1+1}:=I1.kept (t':=s1.toks+1+1) λb o e=>za _ e;refine CP (s:={s1 with heap:=s1.heap.push<|xj l<|(xs.length:Int)-1,toks:=s1.toks+1+1}) st {_,_,_,_,H1,rfl,I2,La l s1.heap.objs.size xs.length,{zZ _,st},λb hb=>?_,hR};have hb:b=s1.heap.objs.size:=by simpa using hb
 subst hb;exact I1.jO (zp _)<|I1.aM.fresh<|zp _
section
variable{K:Frag}{X:Cx}{tg:Expr}
def YO(t:g7):w4:=λσ S R Z=>t σ S (λds S1=>∃es,ds=[.tup es]/\R {es.reverse,λ_=>True} S1) Z
theorem irt{t:g7}(hm:X.mg "reversed"= none)(ha:DA K X [a] t)(hg:autoParam (Gl X "reversed") qQJ)(hs:autoParam (starEach [a] X.env=[(false,eval a X.env)]) qQJ)(hK:autoParam (X.K=K) qQJ):DI K X tg (.Call (.Name "reversed" p) [a] [] pos) (YO t):=by subst hK;exact⟨λy=>(Uo (X:=y.cx) hg hm (ha.of y) hs).mono <| by rintro τ H R ⟨σ,S,RI,Z,aC,hS,q,hR,hZ⟩;exact{σ,S,_,Z,aC,hS,q,by rintro ds S1 vs H1 ⟨es,e,r1⟩ v1 s1 k1;subst e;obtain⟨v,rfl,r⟩:=v1.one;obtain⟨a,xs,rfl,hq,t⟩:=r.tup;refine{a,xs,rfl,.inl<|.of hq,hR _ S1 _ H1 r1 (λi S2 H2 k2 s2 VX=>?_) s1 k1};have QZ:iu X.K H2 a xs:=.inl<|.of<|k2.t _ _ hq;have t2:=RvAll.ts k2 _ t;have hl:xs.length=es.length:=t.len;refine{λd hd=>?_,λh=>by rw[yC]at h;show xs.length<=i;lia};have hi:i<es.length:=(by have:=(zk.mp hd).1;rwa [yC]at this);rw[List.getElem?_reverse hi]at hd;obtain⟨v,e1,r⟩:=t2.get hd;rw[hl];refine{⟨xs,v,QZ,hl,hi,e1⟩,λx' H' ⟨e2,e3⟩=>?_};subst e2;have:=e3 xs QZ hl;rw[e1]at this;cases this;exact{r,.refl _,s2},hZ}⟩
end
section
variable{K:Frag}{X:Cx}{pos:Pos}
def Pt(tc:j8)(tb:lA):lA:=λDe σ S Z=>∃P:Nat->SD->aw->Prop,(∃m,P m σ S)/\∀m σ S,P m σ S->tc σ S (λb S1=>if b=true then tb {De with nx:=λaJ S'=>∃m',m'<m/\P m' aJ S',ct:=λaJ S'=>∃m',m'<m/\P m' aJ S',bk:=De.nx} σ S1 Z else De.nx σ S1) (Z σ)
theorem swh(hc:DT K X c tc)(hb:FU K X true body tb):DS K X true (.While c body [] pos) (Pt tc tb):=
 ⟨λy=>(Gj (X:=y.cx) (y.ok.loop rfl) (hc.of y)<|hb.of y).mono <| by rintro D τ H ⟨σ,S,De,Z,aC,hS,⟨P,⟨m,p0⟩,turn⟩,hD,hZ⟩;exact
  ⟨λm QV H'=>∃σ S,g6 K H' σ QV/\Rs K S H'/\P m σ S/\Kp K H H',⟨m,σ,S,aC,hS,p0,.refl _⟩,by rintro m Yj H1 ⟨wd,S1,a1,s1,p1,k1⟩;exact⟨wd,S1,_,Z wd,a1,s1,turn m wd S1 p1,λb S2 H2 r2 s2 k2=>by
   cases b with
   |true =>
    rw[if_pos rfl]at r2⊢
    refine{λτ3 H3=>∃σ S,g6 K H3 σ τ3/\Rs K S H3/\(∃m',m'<m/\P m' σ S)/\Kp K H H3,by rintro τ3 H3 ⟨eM,S3,a3,s3,⟨m',hm,p3⟩,k3⟩;exact⟨m',hm,eM,S3,a3,s3,p3,k3⟩,?_}
    have kk:=k1.trans k2
    exact{wd,S2,_,Z,a1.ts k2,s2,r2,{λO_ S5 Yr H5 r5 a5 s5 k5=>{O_,S5,a5,s5,r5,kk.trans k5},hD.rt.kp kk,hD.nx.kp kk,λO_ S5 Yr H5 r5 a5 s5 k5=>{O_,S5,a5,s5,r5,kk.trans k5}},hZ.kp kk}
   |false =>
    rw[if_neg zd]at r2⊢
    exact hD.nx _ _ _ _ r2 (a1.ts k2) s2<|k1.trans k2,(hZ.kp k1).at a1⟩⟩⟩
def YQ(i:Nat)(te:TD):lA:=λDe σ S Z=>∃a:Int,σ[i]?=some (some<|.int a)/\te σ S (λd S1=>∃b:Int,d=.int b/\De.nx (σ.set i<|some<|.int<|a+b) S1) (Z σ)
theorem sau(hN:X.N.Nodup)(he:DE K X e te)(hi:autoParam (X.N[i]?=some x) qQJ)(hx:autoParam (Loc X.env.scope x) qQ8)(hf:autoParam (X.fn x=true\/X.env.scope.names.lookup x=some .local) qQ8): DS K X b (.AugAssign (.Name x pos') .Add e pos) (YQ i te):=⟨λy=>(NR (X:=y.cx) hN hi hx (he.of y) NS hf).mono <| by rintro D τ H ⟨σ,S,De,Z,aC,hS,⟨a,ha,t⟩,hD,hZ⟩;obtain⟨v,e1,r⟩:=aC.get ha;exact{v,e1,σ,S,_,Z σ,aC,hS,t,by rintro d S1 u H1 ⟨c,e2,n⟩ rv s1 k1;subst e2;exact{a,c,r.int,rv.int,hD.nx _ _ _ _ n ((aC.ts k1).set i<|aO _) s1 k1},hZ.at aC}⟩
noncomputable def vD:V->D|.int i=>.int i|.str z=>.str z|.bl b=>.bl b|_=>.ax
noncomputable def Hz:V->Bool|.int _=>true|.str _=>true|_=>false
def Up(kvs:List<|Str×V)(ty:TD):TD:=λσ S R Z=>ty σ S (λy S1=>∃z,y=.str z/\R ((kvs.lookup z).elim .ax vD) S1) Z
theorem mgk{w:World}{ad:Addr}{kvs:List<|Str×V}{o e:Expr}{apos aQ:Pos}{ty:TD}(d:Jq w K ad kvs)(hf:(kvs.all λp=>Hz p.2)=true)(ho:∀Y:Cx,Y.env=X.env->Y.mg=X.mg->PE Y o (tC<|.ref ad))(he:DE K X e ty)(hw:autoParam (X.w=w) qQJ)(hK:autoParam (X.K=K) qQJ)(m:autoParam (M1 X o "get" apos e aQ) qQ4): DE K X (.Call (.Attribute o "get" apos) [e] [] aQ) (Up kvs ty):=⟨λy=>(GZ (X:=y.cx) hw hK (ho y.cx rfl rfl) (he.of y) ⟨m.base,m.FP,m.line,m.trees⟩).mono <| by rintro τ H Q ⟨σ,S,R,Z,aC,hS,q,hR,hZ⟩;exact⟨ad,kvs,rfl,d,σ,S,_,Z,aC,hS,q,by
 rintro yv S1 v H1 ⟨z,e1,r⟩ rv s1 k1;subst e1;refine{z,rv.str,hR _ _ _ _ r ?_ s1 k1};have fl:∀v,kvs.lookup z=some v->Hz v=true:=λv hv=>by have:=zV hv;exact ya.mp hf _ this
 cases q:kvs.lookup z with|none=>exact gW|some v=>have:=fl v q;cases v with|int i=>exact aO i|str i=>exact gX i|_=>(cases this),hZ⟩⟩
end
theorem gK(hm:X.mg x=some (.ref a))(hg:autoParam (Gl X x) qQJ)(hd:autoParam ((x==("__debug__": Str))=false) qQZ):∀Y:Cx,Y.env=X.env->Y.mg=X.mg->PE Y (.Name x pos) (tC<|.ref a):=λY e1 e2=>Ca (X:=Y) (u:=.ref a) (show Y.env.kindOf x=_ by rw[e1];exact hg) (by rw[e2];exact hm) rfl hd
structure Fb(K:Frag)(x q:Str)(st:Stmt)(ps:List Str)(f:Addr)(d:FuncData):Prop where
 F:uK K x q st f d
 b:Binds K d ps []
structure CQ(K:Frag)(mg:Str->Option Value)(x:Str)(st:Stmt)(ps:List Str)(f:Addr)(d:FuncData):Prop extends Fb K x x st ps f d where
 k:keepIn K (.ref f)=true
 m:mg x=some (.ref f)
structure MY(K:Frag)(c:Addr)(x q:Str)(st:Stmt)(ps:List Str)(f:Addr)(d:FuncData):Prop extends Fb K x q st ps f d where
 e:Meth K c x f
abbrev Ok(P:Program)(w:World)(base:Heap){K:Frag}{mg:Str->Option Value}{x:Str}{st:Stmt}{ps:List Str}{f:Addr}{d:FuncData}(_:CQ K mg x st ps f d)(k:Nat)(sp:jE):Prop:=bG P w K mg base (eU P w mg) k f d ps<|ph K sp
abbrev FX(P:Program)(w:World)(mg:Str->Option Value)(base:Heap){K:Frag}{c:Addr}{x q:Str}{st:Stmt}{ps:List Str}{f:Addr}{d:FuncData}(_:MY K c x q st ps f d)(k:Nat)(sp:jE):Prop:=bG P w K mg base (eU P w mg) k f d ps<|ph K sp
theorem fsc{N P:List Str}{sc:Scope}(a:autoParam (sc.kind=.function/\sc.isCoroutine=false/\sc.isGenerator=false/\N.take P.length=P) qQ4)(b:autoParam (N.Nodup/\(∀x∈P,sc.names.lookup x=some .local\/sc.names.lookup x=some .cell)/\∀y∈sc.names,y.2≠.free) qJ3):fE N P sc:=⟨a.1,a.2.1,a.2.2.1,b.1,a.2.2.2,b.2.1,b.2.2⟩
section
variable{R:Prop}{K:Frag}{h:Heap}{mg:Str->Option Value}{od an:Option Addr}{sl:Array (Option Value)}{oc dV kV dc pm cd ct:Value}{f da:Addr}{Jz:Option Addr}{dn:Nat}{JA:Array (Option Value)}{c:Addr}{tk:Tok}{d:FuncData}
theorem fn1(X:K.In h)(G:h.Ns mainGlobals mg)(x:Str)(st:Stmt)(ps:List Str)(a:nsIn K mainGlobals x=some (some<|.ref f))(l:K.lookup f=some {oc,od,.func<|fnOf x x (ba st) (aY st) (ag st) dV kV dc pm an cd ct,sl}) (e:codeIn K cd x=true) (k:keepIn K (.ref f)=true) (b:∀us:List Value,us.length=ps.length->bindArgs (fnOf x x (ba st) (aY st) (ag st) dV kV dc pm an cd ct) {us,[]}=pure (ps.zip us)) (g:∀d,CQ K mg x st ps f d->R):R:=g _ {{{_,_,_,_,_,_,_,_,_,_,rfl,l,e},.all b},k,mg_of X G a}
theorem YR(X:K.In h)(G:h.Ns mainGlobals mg)(x:Str)(st:Stmt)(ps:List Str)(a:nsIn K mainGlobals x=some (some<|.ref f))(l:K.lookup f=some {oc,od,.func<|fnOf x x (ba st) (aY st) (ag st) dV kV dc pm an cd ct,sl}) (e:codeIn K cd x=true) (k:keepIn K (.ref f)=true) (b:∀us:List Value,us.length=ps.length->bindArgs (fnOf x x (ba st) (aY st) (ag st) dV kV dc pm an cd ct) {us,[]}=pure (ps.zip us)) (g:∀d,d.code=cd->(∀(s:Shared)(us:List Value),us.length=ps.length->BindsTo s d {us,[]} (ps.zip us))->CQ K mg x st ps f d->R):R:=g _ rfl (λs us h=>.of_eq<|b us h) {{{_,_,_,_,_,_,_,_,_,_,rfl,l,e},.all b},k,mg_of X G a}
theorem fm1(C:p7 K c)(x q:Str)(st:Stmt)(ps:List Str)(a:findIn K (.ref c) x=some (some<|.ref f))(i:isFn K (.ref f)=true)(l:K.lookup f=some {oc,od,.func<|fnOf x q (ba st) (aY st) (ag st) dV kV dc pm an cd ct,sl}) (e:codeIn K cd q=true) (k:keepIn K (.ref f)=true) (b:∀us:List Value,us.length=ps.length->bindArgs (fnOf x q (ba st) (aY st) (ag st) dV kV dc pm an cd ct) {us,[]}=pure (ps.zip us)) (g:∀d,MY K c x q st ps f d->R):R:=g _ {{{_,_,_,_,_,_,_,_,_,_,rfl,l,e},.all b},a,i,k}
theorem fnd(X:K.In h)(G:h.Ns mainGlobals mg)(x:Str)(st:Stmt)(ps:List Str)(a:nsIn K mainGlobals x=some (some<|.ref f))(l:K.lookup f=some {oc,od,.func<|fnOf x x (ba st) (aY st) (ag st) (.ref da) kV dc pm an cd ct,sl}) (t:K.lookup da=some {.type "tuple",Jz,.seq #[.none] dn,JA}) (e:codeIn K cd x=true) (k:keepIn K (.ref f)=true) (b:∀(s:Shared) (us:List Value),s.heap.get? da=some {.type "tuple",Jz,.seq #[.none] dn,JA}->us.length=ps.length->BindsTo s (fnOf x x (ba st) (aY st) (ag st) (.ref da) kV dc pm an cd ct) {us,[]} (ps.zip us)) (b2:∀(s:Shared) (us:List Value),s.heap.get? da=some {.type "tuple",Jz,.seq #[.none] dn,JA}->us.length+1=ps.length->BindsTo s (fnOf x x (ba st) (aY st) (ag st) (.ref da) kV dc pm an cd ct) {us,[]} (ps.zip<|us++[.none])) (g:∀d,CQ K mg x st ps f d->Binds K d ps [.none]->R):R:=g _ {{{_,_,_,_,_,_,_,_,_,_,rfl,l,e},λs us hK hl=>by rw[List.append_nil]at hl⊢;exact b s us (hK _ _ t) hl},k,mg_of X G a} λs us hK hl=>b2 s us (hK _ _ t)<|by simpa using hl
theorem fmd(C:p7 K c)(x q:Str)(st:Stmt)(ps:List Str)(a:findIn K (.ref c) x=some (some<|.ref f))(i:isFn K (.ref f)=true)(l:K.lookup f=some {oc,od,.func<|fnOf x q (ba st) (aY st) (ag st) (.ref da) kV dc pm an cd ct,sl}) (t:K.lookup da=some {.type "tuple",Jz,.seq #[.none] dn,JA}) (e:codeIn K cd q=true) (k:keepIn K (.ref f)=true) (b:∀(s:Shared) (us:List Value),s.heap.get? da=some {.type "tuple",Jz,.seq #[.none] dn,JA}->us.length=ps.length->BindsTo s (fnOf x q (ba st) (aY st) (ag st) (.ref da) kV dc pm an cd ct) {us,[]} (ps.zip us)) (b2:∀(s:Shared) (us:List Value),s.heap.get? da=some {.type "tuple",Jz,.seq #[.none] dn,JA}->us.length+1=ps.length->BindsTo s (fnOf x q (ba st) (aY st) (ag st) (.ref da) kV dc pm an cd ct) {us,[]} (ps.zip<|us++[.none])) (g:∀d,MY K c x q st ps f d->Binds K d ps [.none]->R):R:=g _ {{{_,_,_,_,_,_,_,_,_,_,rfl,l,e},λs us hK hl=>by rw[List.append_nil]at hl⊢;exact b s us (hK _ _ t) hl},a,i,k} λs us hK hl=>b2 s us (hK _ _ t)<|by simpa using hl
theorem xk(X:K.In h)(G:h.Ns mainGlobals mg)(x:Str)(a:nsIn K mainGlobals x=some none)(g:mg x=none->R):R:=g<|PySem.W.mg_none_of X G a
theorem Lb(X:K.In h)(G:h.Ns mainGlobals mg)(x:Str)(i:Int)(a:nsIn K mainGlobals x=some (some<|.int i tk))(g:mg x=some (.int i tk)->R):R:=g<|mg_of X G a
theorem Uq(X:K.In h)(G:h.Ns mainGlobals mg)(x:Str)(a:nsIn K mainGlobals x=some (some<|.ref c))(l:K.lookup c=some o)(g:mg x=some (.ref c)->K.lookup c=some o->R):R:=g (mg_of X G a) l
theorem Le(X:K.In h)(G:h.Ns mainGlobals mg)(x:Str)(a:nsIn K mainGlobals x=some (some<|.ref c))(e:excIn K c L2.ng "ValueError.__new__"= true)(g:mg x=some (.ref c)->excIn K c L2.ng "ValueError.__new__"= true->R):R:=g (mg_of X G a) e
theorem gvc(X:K.In h)(G:h.Ns mainGlobals mg)(x:Str)(a:nsIn K mainGlobals x=some (some<|.ref c))(pg:plainGet K c Str.empty=true)(hd:hasDictIn K c=true)(po:plainOver K c=true)(sa:findIn K (.ref c) "__setattr__"= some (some<|.builtin "object.__setattr__"))(ms:makesIn K c=true)(kc:keepIn K (.ref c)=true) (g:mg x=some (.ref c)->p7 K c->makesIn K c=true->keepIn K (.ref c)=true->R):R:=g (mg_of X G a) ⟨pg,hd,po,sa⟩ ms kc
theorem YS(C:p7 K c)(x:Str)(a:findIn K (.ref c) x=some none)(g:findIn K (.ref c) x=some none->R):R:=g a
theorem Pu{P:Addr}(l:K.lookup c=some o)(e:codeHdIn [(c,o)] c P=true):codeHdIn K c P=true:=by unfold codeHdIn at e⊢;rw[l];rw[show([(c,o)]:Frag).lookup c=some o by simp]at e;exact e
theorem gvm{P:Addr}(X:K.In h)(e:d.code=.ref c)(o:K.lookup c=some {oC,od,.fields vC,sl})(q:vC[11]?=some (.ref P))(hh:codeHdIn [(c,{oC,od,.fields vC,sl})] c P=true)(g:codeHdIn K c P=true->R):R:=g<|Pu o hh
end
section
variable{Q:List Value->Prop}
theorem YT(h:Q [])(us:List Value)(e:us.length=0):Q us:=by cases us with|nil=>exact h|cons a us=>cases e
theorem xl(h:∀a us,us.length=n->Q (a::us))(us:List Value)(e:us.length=n+1):Q us:=by cases us with|nil=>(cases e)|cons a us=>exact h a us<|Nat.succ.inj e
theorem Ur(h:∀a,Q [a]):∀us:List Value,us.length=1->Q us:=xl λa=>YT<|h a
theorem ln2(h:∀a b,Q [a,b]):∀us:List Value,us.length=2->Q us:=xl λa=>Ur<|h a
theorem Pw(h:∀a b c,Q [a,b,c]):∀us:List Value,us.length=3->Q us:=xl λa=>ln2<|h a
theorem Wc(h:∀a b c d,Q [a,b,c,d]):∀us:List Value,us.length=4->Q us:=xl λa=>Pw<|h a
theorem YU(h:∀a b c d e,Q [a,b,c,d,e]):∀us:List Value,us.length=5->Q us:=xl λa=>Wc<|h a
theorem Q8(h:∀a b c d e f,Q [a,b,c,d,e,f]):∀us:List Value,us.length=6->Q us:=xl λa=>YU<|h a
theorem YV(h:∀a,Q [a])(us:List Value)(e:us.length+1=2):Q us:=Ur h us<|Nat.succ.inj e
theorem Us(h:∀a b,Q [a,b])(us:List Value)(e:us.length+1=3):Q us:=ln2 h us<|Nat.succ.inj e
theorem YW(h:∀a b c,Q [a,b,c])(us:List Value)(e:us.length+1=4):Q us:=Pw h us<|Nat.succ.inj e
end
section
variable{K:Frag}{X:Cx}{x:Str}{st:Stmt}{ps:List Str}{f:Addr}{fd:FuncData}{sp:jE}{e:Expr}{es:List Expr}{p pos:Pos}
theorem aH{t:g7}(T:CQ K X.mg x st ps f fd)(F:bG X.prog X.w K X.mg X.base (eU X.prog X.w X.mg) k f fd ps<|ph K sp)(hr:bO k' X.A)(ha:DA K X (e::es) t)(hle:autoParam (k<=k') qJX) (hg:autoParam (Gl X x) qQJ) (o_:autoParam ((x==("__debug__": Str))=false) qQZ) (he:autoParam (starEach (e::es) X.env=(false,eval e X.env)::starEach es X.env) qQJ) (dr:autoParam ((backTo pos<|starEach es X.env).any (·.1)=false) qQJ) (hK:autoParam (X.K=K) qQJ): DE K X (.Call (.Name x p) (e::es) [] pos) (MH sp [] t):=cf (F.mono hle) hr T.m T.k T.b d0 ha hg o_ he dr hK
end
theorem bO.u(r:bO k A):A.units+64<cLine:=r.units
end L2
namespace L2
open PySem PySem.Spec PyProof.Rows PySem.SeqAt
def isStrOf(z:Str):Value->Bool|.str y _=>y==z|_=>false
end L2
namespace L2
open PySem PySem.Spec PyProof.Rows
section
variable{K:Frag}
theorem RvAll.thr(h:RvAll K H [a,b,c] vs):∃x y z,vs=[x,y,z]/\Rv K H a x/\Rv K H b y/\Rv K H c z:=by obtain⟨x,vs1,rfl,h1,h⟩:=h.cons;obtain⟨y,vs2,rfl,h2,h⟩:=h.cons;obtain⟨z,vs3,rfl,h3,h⟩:=h.cons;rw[h.nil];exact⟨x,y,z,rfl,h1,h2,h3⟩
theorem HA:bootBuiltins "max"= some (.builtin "max"):=by with_unfolding_all rfl
noncomputable def i4:List D->List D->List D->List D|x::xs,y::ys,z::zs=>.tup [x,y,z]::i4 xs ys zs|_,_,_=>[]
theorem nA:∀{xs ys zs:List D},xs.length=ys.length->xs.length=zs.length->(i4 xs ys zs).length=xs.length|[],_,_,_,_=>by rw[i4.eq_def]|x::xs,y::ys,z::zs,h,k=>congrArg Nat.succ<|nA (Nat.succ.inj h)<|Nat.succ.inj k
theorem nB:∀{xs ys zs:List D}{i:Nat}{d:D},(i4 xs ys zs)[i]?=some d->∃x y z,xs[i]?=some x/\ys[i]?=some y/\zs[i]?=some z/\d=.tup [x,y,z]|x::xs,y::ys,z::zs,0,d,h=>{x,y,z,rfl,rfl,rfl,(zO h).symm}|x::xs,y::ys,z::zs,i+1,d,h=>nB (i:=i) h|[],_,_,i,d,h=>by rw[i4.eq_def]at h;simp at h|_::_,[],_,i,d,h=>by rw[i4.eq_def]at h;simp at h|_::_,_::_,[],i,d,h=>by rw[i4.eq_def]at h;simp at h
def Px(t:g7):w4:=λσ S R Z=>t σ S (λds S1=>∃xs ys zs,ds=[.tup xs,.tup ys,.tup zs]/\xs.length=ys.length/\xs.length=zs.length/\R {i4 xs ys zs,λ_=>True} S1) Z
end
section
variable{R:Prop}{K:Frag}{h:Heap}{mg:Str->Option Value}{od an:Option Addr}{sl:Array (Option Value)}{oc kV dc pm cd ct:Value}{f da:Addr}{Jz:Option Addr}{dn:Nat}{JA:Array (Option Value)}
theorem fne(X:K.In h)(G:h.Ns mainGlobals mg)(x:Str)(st:Stmt)(ps:List Str)(ar:Array Value)(a:nsIn K mainGlobals x=some (some<|.ref f))(l:K.lookup f=some {oc,od,.func<|fnOf x x (ba st) (aY st) (ag st) (.ref da) kV dc pm an cd ct,sl}) (t:K.lookup da=some {.type "tuple",Jz,.seq ar dn,JA}) (e:codeIn K cd x=true) (k:keepIn K (.ref f)=true) (b:∀(s:Shared) (us:List Value),s.heap.get? da=some {.type "tuple",Jz,.seq ar dn,JA}->us.length=ps.length->BindsTo s (fnOf x x (ba st) (aY st) (ag st) (.ref da) kV dc pm an cd ct) {us,[]} (ps.zip us)) (g:∀d,CQ K mg x st ps f d->R):R:=g _ {{{_,_,_,_,_,_,_,_,_,_,rfl,l,e},λs us hK hl=>by rw[List.append_nil]at hl⊢;exact b s us (hK _ _ t) hl},k,mg_of X G a}
end
mutual
inductive Dr (S:aw):D->PyData->Prop where
 |ax:Dr S .ax .none
 |bl (b:Bool):Dr S (.bl b) (.bool b)
 |int (i:Int):Dr S (.int i) (.int i)
 |str (z:Str):Dr S (.str z) (.str z)
 |tup {ds:List D}{ps:List PyData} : FY S ds ps->Dr S (.tup ds) (.tuple ps)
 |ref {a:Addr}{ds:List D}{ps:List PyData} : S a=some (.lst ds)->FY S ds ps->Dr S (.ref a) (.list ps)
inductive FY (S:aw):List D->List PyData->Prop where
 |nil:FY S [] []
 |cons {d:D}{ds:List D}{p:PyData}{ps:List PyData} : Dr S d p->FY S ds ps->FY S (d::ds) (p::ps)
end
section
variable{K:Frag}{H:Hp}{S:aw}
mutual
theorem Dr.dt(hS:Rs K S H):Dr S d p->Rv K H d v->Dt K H p v|.ax,r=>by simp only[Dt];exact r.ax|.bl b,r=>by simp only[Dt];exact r.bl|.int b,r=>by simp only[Dt];exact r.int|.str b,r=>by simp only[Dt];exact r.str|.tup h,r=>(by obtain⟨a,xs,rfl,q,t⟩:=r.tup;simp only[Dt];exact{a,xs,rfl,.of q,FY.dt hS h t})|.ref e h,r=>by obtain⟨xs,e1,t⟩:=hS.lst e;rw[r.ref];simp only[Dt];exact{_,xs,rfl,.of e1,FY.dt hS h t}
theorem FY.dt(hS:Rs K S H){ds:List D}{ps:List PyData}{vs:List V} : FY S ds ps->RvAll K H ds vs->DtAll K H ps vs|.nil,r=>by rw[r.nil];simp only[DtAll]|.cons h t,r=>by obtain⟨y,ys,rfl,r1,r2⟩:=r.cons;simp only[DtAll];exact{y,ys,rfl,Dr.dt hS h r1,FY.dt hS t r2}
end
end
def Wd(neg:Bool):tV:=λx y S R=>∃p q,Dr S x p/\Dr S y q/\p.canLay0=true/\q.canLay0=true/\(p.depth<=64\/q.depth<=64)/\R (.bl<|if neg then !PyData.eqv p q else PyData.eqv p q) S
section
variable{K:Frag}
theorem HB:mV K (compareOp .Eq) (Wd false):=by rintro X hK hu pins s σ H x y v u Q I rx ry ⟨d,e,S,R,r1,r2,hS,⟨p,q,h1,h2,c1,c2,dp,h⟩,hR⟩;subst hK;exact GR hu pins s σ H x y v u Q I rx ry {p,q,h1.dt hS r1,h2.dt hS r2,c1,c2,dp,hR.now hS h<|bp _}
theorem Ut:mV K (compareOp .NotEq) (Wd true):=by rintro X hK hu pins s σ H x y v u Q I rx ry ⟨d,e,S,R,r1,r2,hS,⟨p,q,h1,h2,c1,c2,dp,h⟩,hR⟩;subst hK;exact GS hu pins s σ H x y v u Q I rx ry {p,q,h1.dt hS r1,h2.dt hS r2,c1,c2,dp,hR.now hS h<|bp _}
end
theorem xm(h1:Dr S x p)(h2:Dr S y p)(c:p.canLay0=true)(d:p.depth<=64)(q:R (.bl<|!neg) S):Wd neg x y S R:={p,p,h1,h2,c,c,.inl d,by rw[show(if neg then !PyData.eqv p p else PyData.eqv p p)=!neg by rw[SeqAt.eqv_refl p c];cases neg<;>rfl];exact q}
def kI:Stmt->Str|.FunctionDef n _ _ _ _ _ _ _ _ _=>n|_=>Str.empty
def sJ(s:Stmt):List Str:=(ba s).args.map λa=>a.arg
def EV(K:Frag)(mg:Str->Option Value)(top:Nat->Stmt)(f:Nat->Addr)(d:Nat->FuncData)(l:List Nat):Prop:=∀i∈l,CQ K mg (kI<|top i) (top i) (sJ<|top i) (f i)<|d i
def EW(K:Frag)(c:Addr)(q:Str)(cl:Stmt)(f:Nat->Addr)(d:Nat->FuncData)(l:List Nat):Prop:=∀i∈l,MY K c (kI<|inClass cl i) (q++kI (inClass cl i)) (inClass cl i) (sJ<|inClass cl i) (f i)<|d i
section
variable{K:Frag}{h:Heap}{mg:Str->Option Value}{od an:Option Addr}{sl:Array (Option Value)}{oc dV kV dc pm cd ct:Value}{x:Addr}{top:Nat->Stmt}{l:List Nat}{c:Addr}{q:Str}{cl:Stmt}
theorem af(X:K.In h)(G:h.Ns mainGlobals mg)(i:Nat)(ni:i∉l)(a:nsIn K mainGlobals (kI<|top i)=some (some<|.ref x))(o:K.lookup x=some {oc,od,.func<|fnOf (kI<|top i) (kI<|top i) (ba<|top i) (aY<|top i) (ag<|top i) dV kV dc pm an cd ct,sl}) (e:codeIn K cd (kI<|top i)=true) (k:keepIn K (.ref x)=true) (b:∀us:List Value,us.length=(sJ<|top i).length->bindArgs (fnOf (kI<|top i) (kI<|top i) (ba<|top i) (aY<|top i) (ag<|top i) dV kV dc pm an cd ct) {us,[]}=pure ((sJ<|top i).zip us)) (g:∃f d,EV K mg top f d l):∃f d,EV K mg top f d (i::l):=by refine fn1 X G _ _ _ a o e k b λd0 F=>?_;obtain⟨f,d,A⟩:=g;refine{λj=>if j=i then x else f j,λj=>if j=i then d0 else d j,λj hj=>?_};by_cases z:j=i;subst z;dsimp only;rw[if_pos rfl,if_pos rfl];exact F;dsimp only;rw[if_neg z,if_neg z];exact A j<|(zh.mp hj).resolve_left z
theorem af0:∃f d,EV K mg top f d []:={λ_=>0,λ_=>fnOf Str.empty Str.empty (ba<|.Pass {0,0,0,0}) [] (ag<|.Pass {0,0,0,0}) .none .none .none .none none .none .none,λ_ h=>nomatch h}
theorem afx{R:Prop}(_:K.In h)(_:h.Ns mainGlobals mg)(g:∃f d,EV K mg top f d l)(r:∀f d,EV K mg top f d l->R):R:=by obtain⟨f,d,A⟩:=g;exact r f d A
theorem amx{R:Prop}(_:p7 K c)(g:∃f d,EW K c q cl f d l)(r:∀f d,EW K c q cl f d l->R):R:=by obtain⟨f,d,A⟩:=g;exact r f d A
theorem am(C:p7 K c)(i:Nat)(ni:i∉l)(a:findIn K (.ref c) (kI<|inClass cl i)=some (some<|.ref x))(w:isFn K (.ref x)=true)(o:K.lookup x=some {oc,od,.func<|fnOf (kI<|inClass cl i) (q++kI (inClass cl i)) (ba<|inClass cl i) (aY<|inClass cl i) (ag<|inClass cl i) dV kV dc pm an cd ct,sl}) (e:codeIn K cd (q++kI (inClass cl i))=true) (k:keepIn K (.ref x)=true) (b:∀us:List Value,us.length=(sJ<|inClass cl i).length->bindArgs (fnOf (kI<|inClass cl i) (q++kI (inClass cl i)) (ba<|inClass cl i) (aY<|inClass cl i) (ag<|inClass cl i) dV kV dc pm an cd ct) {us,[]}=pure ((sJ<|inClass cl i).zip us)) (g:∃f d,EW K c q cl f d l):∃f d,EW K c q cl f d (i::l):=by refine fm1 C _ _ _ _ a w o e k b λd0 F=>?_;obtain⟨f,d,A⟩:=g;refine{λj=>if j=i then x else f j,λj=>if j=i then d0 else d j,λj hj=>?_};by_cases z:j=i;subst z;dsimp only;rw[if_pos rfl,if_pos rfl];exact F;dsimp only;rw[if_neg z,if_neg z];exact A j<|(zh.mp hj).resolve_left z
theorem am0:∃f d,EW K c q cl f d []:={λ_=>0,λ_=>fnOf Str.empty Str.empty (ba<|.Pass {0,0,0,0}) [] (ag<|.Pass {0,0,0,0}) .none .none .none .none none .none .none,λ_ h=>nomatch h}
end
section
variable{K:Frag}{X:Cx}{x q:Str}{st:Stmt}{ps:List Str}{C f:Addr}{fd:FuncData}{sp:jE}{o e:Expr}{es:List Expr}{apos pos:Pos}{k k':Nat}
theorem FZ{t:g7}(he:DE K X o ta)(c:p7 K C)(T:MY K C x q st ps f fd)(F:bG X.prog X.w K X.mg X.base (eU X.prog X.w X.mg) k f fd ps<|ph K sp)(hr:bO k' X.A)(ha:DA K X (e::es) t)(hle:autoParam (k<=k') qJX)
  (wq:autoParam (starEach (e::es) X.env=(false,eval e X.env)::starEach es X.env) qQJ) (dr:autoParam ((backTo pos<|starEach es X.env).any (·.1)=false) qQJ)
  (ht:autoParam (eval (.Call (.Attribute o x apos) (e::es) [] pos) X.env=(do
   let ov <-eval o X.env
   standAt apos.atName
   let (f,first) <-holding [ov] (getMethod ov x pl)
   callWith pos f first (backTo pos<|starEach (e::es) X.env) (backToKw pos<|keywordEach [] X.env))) qQJ) (hK:autoParam (X.K=K) qQJ):
  DE K X (.Call (.Attribute o x apos) (e::es) [] pos) (CB C x sp [] ta t):=Yf he c T.e (F.mono hle) hr T.b d0 ha wq dr ht hK
theorem lX(he:DE K X o ta)(c:p7 K C)(T:MY K C x q st ps f fd)(F:bG X.prog X.w K X.mg X.base (eU X.prog X.w X.mg) k f fd ps<|ph K sp)(hr:bO k' X.A)(hle:autoParam (k<=k') qJX)
  (ht:autoParam (eval (.Call (.Attribute o x apos) [] [] pos) X.env=(do
   let ov <-eval o X.env
   standAt apos.atName
   let (f,first) <-holding [ov] (getMethod ov x pl)
   callWith pos f first (backTo pos<|starEach [] X.env) (backToKw pos<|keywordEach [] X.env))) qQJ) (hK:autoParam (X.K=K) qQJ):
  DE K X (.Call (.Attribute o x apos) [] [] pos) (CB C x sp [] ta KL):=Yg he c T.e (F.mono hle) hr T.b d0 ht hK
end
section
variable{K:Frag}{X:Cx}
def Uu:D->Option Int->Option Int->aw->KD->Prop:=λx lo hi S R=>match x with|.ref a=>∃ds,S a=some (.lst ds)/\∀p,S p=none->R (.ref p) (S.set p<|.lst<|wW ds lo hi)|.iX ds=>∀p,S p=none->R (.ref p) (S.set p<|.lst<|wW ds lo hi)|_=>False
theorem Uv(hK:X.K=K):W_ X (λx lo hi H Q=>∃d S R,Rv K H d x/\Rs K S H/\Uu d lo hi S R/\Cn K H R Q):=by rintro pins s σ H x v vl vu lo hi sl Q I rx hs pl pu ⟨d,S,R,r1,hS,h,hR⟩;subst hK;cases d with|ref a=>(obtain⟨ds,e,h⟩:=h;obtain⟨xs,e1,t⟩:=hS.lst e;exact Cp pins s σ H _ v vl vu lo hi sl Q I rx hs pl pu {a,xs,r1.ref,.of e1,λp hp=>hR.new hS hp (h p)<|t.cut lo hi})|iX ds=>(obtain⟨a,xs,rfl,q,t⟩:=r1.iX;exact Cp pins s σ H _ v vl vu lo hi sl Q I rx hs pl pu {a,xs,rfl,q.sq,λp hp=>hR.new hS hp (h p)<|t.cut lo hi})|_=>exact h.elim
def YX(te:TD)(tl th:SS):TD:=λσ S R Z=>te σ S (λx S1=>tl σ S1 (λl S2=>th σ S2 (λu S3=>Uu x l u S3 R) Z) Z) Z
theorem YY{e:Expr}{lo hi:Option Expr}{te:TD}{tl th:SS}{p2 pos:Pos}(he:DE K X e te)(hl:DO K X lo tl)(hu:DO K X hi th)(hK:autoParam (X.K=K) qQJ):DE K X (.Subscript e (.Slice lo hi none p2) pos) (YX te tl th):=
 ⟨λy=>(Gv (X:=y.cx) (Uv hK) (he.of y) (hl.of y)<|hu.of y).mono <| by rintro τ H Q ⟨σ,S,R,Z,aC,hS,q,hR,hZ⟩;exact
  ⟨σ,S,_,Z,aC,hS,q,λd S1 x H1 r1 v1 s1 k1=>⟨σ,S1,_,Z,aC.ts k1,s1,r1,λl S2 H2 r2 s2 k2=>⟨σ,S2,_,Z,aC.ts<|k1.trans k2,s2,r2,λu S3 H3 r3 s3 k3=>⟨d,S3,R,Rv.ts (k2.trans k3) _ v1,s3,r3,hR.kp<|(k1.trans k2).trans k3⟩,hZ.kp<|k1.trans k2⟩,hZ.kp k1⟩,hZ⟩⟩
def Uw:tV:=λx y S R=>match x,y with|.int i,.int j=>R (.int<|i+j) S|.str a,.str b=>a.length+b.length<=sizeLine/\R (.str<|a++b) S|.ref a,.ref b=>∃xs ys,S a=some (.lst xs)/\S b=some (.lst ys)/\xs.length+ys.length<=sizeLine/\∀p,S p=none->R (.ref p) (S.set p<|.lst<|xs++ys)|_,_=>False
theorem cw:mV K (binaryOp .Add) Uw:=by rintro X hK hu pins s σ H x y v u Q I rx ry ⟨d,e,S,R,r1,r2,hS,h,hR⟩;subst hK;cases d<;>cases e<;>first|exact False.elim h|exact NY pins s σ H x y v u Q I rx ry {_,_,r1.int,r2.int,hR.now hS h<|aO _}|exact Ai pins s σ H x y v u Q I rx ry {_,_,r1.str,r2.str,h.1,hR.now hS h.2<|gX _}|skip;obtain⟨xs,ys,e1,e2,hl,q⟩:=h;obtain⟨vs,h1,t1⟩:=hS.lst e1;obtain⟨ws,h2,t2⟩:=hS.lst e2;exact Oq pins s σ H x y v u Q I rx ry {_,_,vs,ws,r1.ref,r2.ref,h1,h2,by rw[t1.len,t2.len];exact hl,λp hp=>hR.new hS hp (q p)<|t1.app t2}
end
structure W(sp:jE)(ds:List D)(S:aw)(R:KD)(Z:KX):Prop where
 of:sp ds S R Z
theorem bG.w{P:Program}{w:World}{K:Frag}{mg:Str->Option Value}{base:Heap}{k:Nat}{f:Addr}{fd:FuncData}{ps:List Str}{sp:jE}(F:bG P w K mg base (eU P w mg) k f fd ps<|ph K sp):bG P w K mg base (eU P w mg) k f fd ps (ph K<|W sp):=F.Pa λ_ _ _ _ h=>h.of
def We(s:Stmt):List Str:=((ag s).names.filter λp=>p.2==.local||p.2==.cell).map (·.1)
theorem bN(s:Stmt)(a:autoParam ((ag s).kind=.function/\(ag s).isCoroutine=false/\(ag s).isGenerator=false/\(We s).take (sJ s).length=sJ s) qQ4)(b:autoParam ((We s).Nodup/\(∀x∈sJ s,(ag s).names.lookup x=some .local\/(ag s).names.lookup x=some .cell)/\∀y∈(ag s).names,y.2≠.free) qJ3):fE (We s) (sJ s) (ag s):=fsc a b
section
variable{P:Program}{w:World}{K:Frag}{mg:Str->Option Value}{base:Heap}{x qual:Str}{st:Stmt}{f:Addr}{fd:FuncData}{N ps:List Str}{k:Nat}{sp:jE}
theorem uK.b_(F:uK K x qual st f fd)(S:fE N ps<|ag st) (lG:∀(gu:Value)(A:Around)(outer:List Env)(s:Shared)(H:Hp)(E:XK)(ds:List D)(S:aw)(R:KD)(Z:KX),bO k (A.deeper<|PyProof.Rows.envOfC qual (ag st) s.heap.objs.size f gu)->sp ds S R Z->∃t,FU K (jP (eU P w mg) P w K mg base N qual (ag st) f gu A outer s H E) true (aY st) t/\t {nx:=λ_ S'=>Fo S'<|R .ax,rt:=λd S'=>Fo S'<|R d} (g8 N ds) S λ_ C S'=>Fo S'<|Z C) (len:∀ds S R Z,sp ds S R Z->ds.length=ps.length:=by intro _ _ _ _ h;first|(cases h;subst_vars;rfl;done)|(repeat first|(obtain⟨e,_⟩:=h;rw[e];rfl;done)|obtain⟨_,h⟩:=h)):bG P w K mg base (eU P w mg) (k+1) f fd ps (ph K sp):=F.ok S len lG
end
theorem dD:∀(names:List (Str×NameKind))(n:Nat)(acc:List (Str×Addr)),cellsFrom n names acc=cellsFrom n names []++acc|[],_,_=>rfl| (x,k)::r,n,acc=>by unfold cellsFrom;split;rw[dD r (n+1)<|(x,n)::acc,dD r (n+1) [(x,n)],List.append_assoc];rfl;exact dD r n acc
theorem xn:∀{l:List (Str×Addr)},(x,c)∈l->∃c,l.lookup x=some c| (y,d)::l,h=>by rw[yd];cases e:x==y with|true=>exact⟨d,rfl⟩|false=>rcases zh.mp h with q|q;cases q;simp at e;exact xn q
theorem t9:∀{names:List (Str×NameKind)}{n:Nat},(x,NameKind.cell)∈names->∃c,(cellsFrom n names []).lookup x=some c:=λ{names n} h=>by
 have:∀(names:List (Str×NameKind))(n:Nat),(x,NameKind.cell)∈names->∃c,(x,c)∈cellsFrom n names []:=by intro names;induction names with|nil=>exact λ_ h=>(nomatch h)|cons p r ih=>intro n h;obtain⟨y,k⟩:=p;unfold cellsFrom;rcases zh.mp h with q|q;cases q;rw[if_pos<|by decide,dD];exact{n,zt _ zi};split;obtain⟨c,hc⟩:=ih (n+1) q;rw[dD];exact{c,zS _ hc};exact ih n q
 obtain⟨c,hc⟩:=this names n h;exact xn hc
theorem qC:∀{names:List (Str×NameKind)}{n:Nat},(x,c)∈cellsFrom n names []->(x,NameKind.cell)∈names
 |[],_,h=>(nomatch h)
 | (y,k)::r,n,h=>by
  unfold cellsFrom at h;split at h;rename_i hk;rw[dD]at h;rcases zN.mp h with h|h;exact ze _<|qC h;have:(x,c)=(y,n):=by simpa using h
  cases this;have:k=.cell:=by simpa using hk
  rw[this];exact zi;exact ze _<|qC h
theorem xo:∀{r:List (Str×NameKind)},(r.map Prod.fst).Nodup->(x,k)∈r->(x,k')∈r->k=k'|p::r,nd,h1,h2=>by rw[zq,yo]at nd;rcases zh.mp h1 with h1|h1<;>rcases zh.mp h2 with h2|h2;rw[<-h2]at h1;exact(Prod.mk.inj h1).2;exact absurd (by rw[<-h1];exact zf.mpr {_,h2,rfl}) nd.1;exact absurd (by rw[<-h2];exact zf.mpr {_,h1,rfl}) nd.1;exact xo nd.2 h1 h2
theorem HC(nd:(names.map Prod.fst).Nodup)(h:(x,NameKind.free)∈names):(cellsFrom n names []).lookup x=none:=by cases e:(cellsFrom n names []).lookup x with|none=>rfl|some c=>cases xo nd (qC<|mem_of_lookup e) h
theorem HD{x:Str}{c:Addr}{l m:List<|Str×Addr}(h:(l++m).lookup x=some c):l.lookup x=some c\/(l.lookup x=none/\m.lookup x=some c):=by rw[List.lookup_append]at h;cases e:l.lookup x with|none=>rw[e]at h;exact .inr ⟨rfl,h⟩|some d=>rw[e]at h;exact .inl h
theorem xp{x:Str}{l m:List<|Str×Addr}(h:(∃c,l.lookup x=some c)\/∃c,m.lookup x=some c):∃c,(l++m).lookup x=some c:=by rw[List.lookup_append];cases e:l.lookup x with|some d=>exact⟨d,rfl⟩|none=>rcases h with⟨c,h⟩|⟨c,h⟩;rw[e]at h;cases h;exact⟨c,h⟩
theorem Lg (hQ:∀h',h'.Ns s.heap.objs.size (λ_=>none)->(∀b o,s.heap.get? b=some o->h'.get? b=some o)->CellsOk h' (s.heap.objs.size+1) (cellsFrom (s.heap.objs.size+1) scope.names [])->Q (newEnv scope s.heap.objs.size globals (cellsFrom (s.heap.objs.size+1) scope.names []++cl) qual none .none (some env) builtinsNs) {s with heap:=h'}): wpAny M A (newFunctionEnv scope globals cl [] qual none .none<|some env) Q E s:=by simp only[newFunctionEnv,Option.isSome_some,if_true];refine zc<|wpAny_alloc ?_;refine zc<|wpAny_layCells _ (λname kind cells=>by cases hkc:kind==NameKind.cell<;>simp[hkc]) _ _ _ _ ?_;have ok:=cellsFrom_ok scope.names (s.heap.push {cls:=.type "dict",data:=.dict #[]}) (s.heap.objs.size+1) [] {λ_ _ hm=>(nomatch hm),List.Pairwise.nil} (by rw[zR];exact zp _);rw[zR]at ok;rw[show({s with heap:=s.heap.push {cls:=.type "dict",data:=.dict #[]}} : Shared).heap.objs.size=s.heap.objs.size+1 from zR ..,dD];rw[List.forIn_nil];exact zc<|zA<|zA<|hQ _ ((Heap.Ns.new s.heap<|.type "dict").keeps<|pushCells_keeps _ _) (λb o e=>pushCells_keeps _ _ b o<|za _ e) ok
noncomputable def Lh(X:Cx)(scope:Scope)(C:Addr):List (Str×Addr):=cellsFrom (C+1) scope.names []++clOf X.env.cells scope.names
noncomputable def oy(X:Cx)(N:List Str)(scope:Scope)(C:Addr)(s:Shared)(H:Hp)(ex:List Addr)(pn:List<|Addr×Obj):Cx:={X with N:=N,cI:=s,so:=H,env:=compEnvC scope (Lh X scope C) C X.env,outer:=X.stack,ex:=ex,fn:=λx=>decide<|scope.names.lookup x=some .cell,pn:=pn,xe:=λ_ _=>False}
structure CT(X:Cx)(N:List Str)(src:List (Option Nat))(scope:Scope):Prop where
 kind:scope.kind=.function
 nd:(scope.names.map Prod.fst).Nodup
 loc:∀y∈scope.names,y.2=.local->scope.names.lookup y.1=some .local
 tP:∀y∈scope.names,y.2=.free->X.env.kindOf y.1=some .cell\/X.env.kindOf y.1=some .free
 len:src.length=N.length
 src:∀(i j:Nat)(x:Str),src[i]?=some (some j)->N[i]?=some x->X.N[j]?=some x/\scope.names.lookup x=some .free/\Md X.env.scope x
section
variable{X:Cx}{N:List Str}{src:List (Option Nat)}{scope:Scope}{tg iter elt:Expr}{ifs:List Expr}{pos:Pos}{wi:TI}{g:TG}{tc:TT}{te:TE}
theorem A9{pins:List<|Addr×Obj}{aN:Shared}{σ:St}{cj:Hp}{Q:VK}{it:Addr}{fp:List Addr}{tn:Nat->Heap->Prop}{J:It}{E:Value->Shared->Prop}(S:CT X N src scope)(hc:X.calm=true) (hg:∀C s H ex pn,PG (oy X N scope C s H ex pn) tg g) (hx:sv g src) (hi:∀C s H ex pn,Mv (oy X N scope C s H ex pn) ifs tc) (he:∀C s H ex pn,PE (oy X N scope C s H ex pn) elt te) (I:Inv X pins σ cj aN) (T:Turn X.prog X.w X.K tg J fp it tn) (st:tn 0 aN.heap) (ff:∀b∈fp,oY X pins cj b) (W:Nat->Nat->List V->Hp->Prop) (w0:∃m,W 0 m [] cj) (turn:∀i m out H',W i m out H'->(J.stop i H'/\∀D,H' D=none->Q (.ref D) (upd H' D<|.lst out))\/(J.go i H'/\out.length<sizeLine/\∀x H2,J.QN i H' x H2->g x (pick σ src) H2 λeM H3=>tc eM H3 λb H4=>if b=true then te eM H4 λv H5=>∃m',m'<m/\W (i+1) m' (out++[v]) H5 else ∃m',m'<m/\W (i+1) m' out H4)) {RR:Value->Addr->Result->Shared->Prop} (Xt:∀D C s',CompEnd X pins σ Q D C s'->RR (.ref D) C (.ok .next) s'): wpAny (model X.prog X.w) X.A (newList []) (λacc uv=>wpAny (model X.prog X.w) X.A (newFunctionEnv scope X.env.globals (clOf X.env.cells scope.names) [] X.env.qual none .none<|some X.env) (λGL lO=>codeAny (model X.prog X.w) X.A (.compStart (.ListComp elt [{tg,iter,ifs,0}] scope pos) 0 (.ref it) acc {GL with scope:=relabel scope X.env}) (RR acc GL.locals) lO) E uv) E aN:=by
 refine yA<|Lg λh₁ gT fY y9=>?_;dsimp only at gT fY y9⊢;generalize OD:aN.heap.push {cls:=.type "list",dict:=none,data:=.seq ([]:List Value).toArray}=G2 at gT fY y9⊢;have hC:G2.objs.size=aN.heap.objs.size+1:=by rw[<-OD,zR]
 have FR:aN.heap.objs.size≠G2.objs.size:=by rw[hC];exact zu<|yI _
 have wH:aN.heap.objs.size<=G2.objs.size:=by rw[hC];exact yN _
 have old:∀b o,aN.heap.get? b=some o->h₁.get? b=some o:=λb o e=>fY b o<|OD ▸ za _ e;have lP:h₁.get? aN.heap.objs.size=some {cls:=.type "list",dict:=none,data:=.seq ([]:List Value).toArray}:=fY _ _<|OD ▸ zm _ rfl;generalize hCC:G2.objs.size=C at hC FR wH gT y9⊢;have cn:aN.heap.objs.size<=C:=wH;generalize hD:aN.heap.objs.size=D at hC FR wH lP⊢;have Ux:∀x c,(clOf X.env.cells scope.names).lookup x=some c->X.env.cells.lookup x=some c:=lN X.env.cells scope.names [] (by intro x c h;simp at h);have cT:∀x c,(Lh X scope C).lookup x=some c->(X.env.cells.lookup x=some c/\c<C)\/((x,c)∈cellsFrom (C+1) scope.names []/\h₁.IsCell c none/\C<c):=λx c e=>by rcases HD e with e|⟨_,e⟩;have m:=mem_of_lookup e;exact .inr {m,y9.empty x c m};have e:=Ux x c e;obtain⟨v,q⟩:=I.cell x c e;exact .inl {e,zg q.lt cn}
 have qj:∀x c,X.env.cells.lookup x=some c->c<aN.heap.objs.size:=λx c e=>by obtain⟨v,q⟩:=I.cell x c e;exact q.lt
 have uC:∀b∈fp,b<aN.heap.objs.size:=λb hb=>by obtain⟨o,e,_⟩:=T.obj _ _ st b hb;exact zr e
 have ok:(oy X N scope C aN cj fp<|X.pn++pins).Ok:=by refine{I.ok.mod,S.kind,I.ok.glob,I.ok.blt,cn,λx y c h1 h2=>?_,λx hk=>?_,λx c h h1=>?_,I.ok.hd,I.ok.frames,.inl rfl,λb hb=>{?_,λx c h=>?_},I.bs,zH I.ok.Gb I.sz,λb o e hb=>?_,λb hb hf=>?_,I.stack,I.lE};rcases cT _ _ h1 with⟨h1,l1⟩|⟨h1,_,l1⟩<;>rcases cT _ _ h2 with⟨h2,l2⟩|⟨h2,_,l2⟩;exact I.ok.inj x y c h1 h2;exact absurd l1<|Nat.lt_asymm l2;exact absurd l1<|Nat.lt_asymm l2;exact name_of_addr y9.apart h1 h2;have hk:(relabel scope X.env).names.lookup x=some .cell\/(relabel scope X.env).names.lookup x=some .free:=hk;unfold relabel at hk;dsimp only at hk;rw[cX]at hk;(cases hl:scope.names.lookup x with|none=>(rw[hl]at hk;rcases hk with z|z<;>cases z)|some k=>rw[hl]at hk;have hm:=zV hl;by_cases Ka:k=.free;subst Ka;obtain⟨c,Et⟩:=I.ok.has x<|S.tP _ hm rfl;exact xp<|.inr {c,eT X.env.cells scope.names [] x c (by intro x c h;simp at h) hm Et};have e1:(k==NameKind.free)=false:=(by simpa using Ka);simp only[Option.map,e1,zU,Bool.false_eq_true,if_false]at hk;have:k=.cell:=(by rcases hk with z|z;exact zO z;exact absurd (zO z) Ka);subst this;exact xp<|.inl<|t9 hm);have h:decide (scope.names.lookup x=some .cell)=true:=h;obtain⟨c',FO⟩:=t9 (n:=C+1)<|zV<|zB h;have h1:(Lh X scope C).lookup x=some c:=h1;unfold Lh at h1;rw[List.lookup_append,FO]at h1;cases h1;exact zH cn<|yD (y9.empty x c<|zV FO).2;exact zu<|zg (uC b hb) cn;rcases cT _ _ h with⟨h,_⟩|⟨_,_,l⟩;exact(ff b hb).2.2.2.2.1 x c h;exact yg<|Nat.lt_trans (zg (uC b hb) cn) l;have q:b∈X.ex\/X.cI.heap.objs.size<=b:=(ff b hb).2.2.2.1;rcases q with q|q;exact I.ok.JG b o e q;exact absurd (zg (zr e)<|zH I.ok.Gb q)<|yj _;rcases zh.mp (I.fW b hf) with z|z;exact(ff b hb).2.1 z;exact(ff b hb).2.2.1 z
 have GN:∀p∈X.pn++pins,p.1∉kE X.stack:=λp hp z=>by obtain⟨_,_,ne,nf,_⟩:=I.pin p hp;rcases zh.mp (I.fW _ z) with q|q;exact ne q;exact nf q
 have qk:∀p∈X.pn++pins,p.1<aN.heap.objs.size:=λp hp=>zr (I.pin p hp).1;have GO:∀b∈kE X.stack,b<aN.heap.objs.size:=λb hb=>by rcases zh.mp (I.fW b hb) with z|z;rw[z];exact I.lt;obtain⟨_,o,ho,_⟩:=I.ok.mX.mem z;exact zg (zr ho) I.sz
 have OE:∀(i:Nat)(x:Str)(v:V),N[i]?=some x->(pick σ src)[i]?=some (some v)->∃u c,RelV v u/\(Lh X scope C).lookup x=some c/\aN.heap.IsCell c (some u)/\scope.names.lookup x=some .free:=λi x v e1 e2=>by unfold pick at e2;rw[zw]at e2;cases es:src[i]? with|none=>(rw[es]at e2;cases e2)|some o=>rw[es]at e2;cases o with|none=>(cases e2)|some j=>have e3:(σ[j]?).join=some v:=zO e2;have e4:σ[j]?=some (some v):=(by cases q:σ[j]? with|none=>(rw[q]at e3;cases e3)|some z=>rw[q]at e3;exact congrArg some e3);obtain⟨a1,a2,a3⟩:=S.src i j x es e1;obtain⟨m0,_,hl⟩:=I.loc;obtain⟨u,r,l⟩:=hl j x v a1 e4 a3;have hm:=zV a2;have hk:=S.tP _ hm rfl;rcases l with⟨k,_⟩|⟨_,c,Et,z⟩;rcases hk with hk|hk<;>(rw[k]at hk;cases hk);refine{u,c,r,?_,z,a2};unfold Lh;rw[List.lookup_append,HC S.nd hm];exact eT X.env.cells scope.names [] x c (by intro x c h;simp at h) hm Et
 have kinds:∀x,scope.names.lookup x=some .free->(compEnvC scope (Lh X scope C) C X.env).kindOf x=some .cell\/(compEnvC scope (Lh X scope C) C X.env).kindOf x=some .free:=λx hx=>by show(relabel scope X.env).names.lookup x=some .cell\/(relabel scope X.env).names.lookup x=some .free;unfold relabel;dsimp only;rw[cX,hx];dsimp only[Option.map];split;exact .inl rfl;exact .inr rfl
 have Ic:Inv (oy X N scope C aN cj fp<|X.pn++pins) [] (pick σ src) cj {aN with heap:=h₁}:=by refine{ok,rfl,I.bare,Un.kept old,{_,gT,λi x v e1 e2 e3=>?_},λx c e=>?_,I.aM.fresh cn,λx c e=>?_,λp hp=>?_,I.aM.kept old,?_};obtain⟨u,c,r,e5,⟨o,ho,hd⟩,hf⟩:=OE i x v e1 e2;exact{u,r,.inr {kinds x hf,c,e5,{o,old _ _ ho,hd}}};rcases cT x c e with⟨e,_⟩|⟨_,q,_⟩;obtain⟨v,o,ho,hd⟩:=I.cell x c e;exact{v,o,old _ _ ho,hd};exact{_,q};rcases cT x c e with⟨e,_⟩|⟨_,_,l⟩;exact I.eR x c e;exact I.aM.fresh<|zH cn<|yD l;have hp:p∈X.pn++pins:=(by simpa [oy]using hp);obtain⟨e,n,_,_,d⟩:=I.pin p hp;exact{old _ _ e,n,zu<|zg (qk p hp) cn,GN p hp,d};show(pick σ src).length=N.length;unfold pick;rw[zb,S.len]
 have iW:aN.heap.objs.size<=D:=Nat.le_of_eq hD;have Az:D∉kE X.stack:=λz=>absurd (zg (GO D z) iW)<|yj _;have wI:D∉fp:=λz=>absurd (zg (uC D z) iW)<|yj _;have jO:∀{pl:List (Addr×Obj)}{H':Hp},(∀b∈fp,H' b=none)->(∀p∈pl,p.1∉fp)->∀b∈fp,oY (oy X N scope C aN cj fp<|X.pn++pins) pl H' b:=λ{pl H'} hn dr b hb=>by obtain⟨f0,f1,f2,f3,f4,f5⟩:=ff b hb;refine{hn b hb,zu<|zg (uC b hb) cn,λz=>?_,.inl hb,λx c e=>?_,λp hp=>?_};rcases zh.mp (I.fW b z) with q|q;exact f1 q;exact f2 q;rcases cT x c e with⟨e,_⟩|⟨_,_,l⟩;exact f4 x c e;exact yg<|Nat.lt_trans (zg (uC b hb) cn) l;have hp:p∈(X.pn++pins)++pl:=hp;rcases zN.mp hp with hp|hp;exact f5 p hp;exact λz=>dr p hp<|z ▸ hb
 have back:∀{s':Shared}{H':Hp}{out:List V}{au:List Value}{nn:Nat}{aJ:St},Inv (oy X N scope C aN cj fp<|X.pn++pins) [] aJ H' s'->H' D=none->out.length<=sizeLine->Vals out au->s'.heap.get? D=some {cls:=.type "list",data:=.seq au.toArray nn}->(∀D,H' D=none->Q (.ref D) (upd H' D<|.lst out))->CompEnd X pins σ Q D C s':=λ{s' H' out au nn aJ} I' hn hl hv ho q=>by obtain⟨m,hm,_⟩:=I'.loc;have un:Un (kE X.stack) fp cj H' aN.heap s'.heap:=I'.base;have Xu:∀b o,aN.heap.get? b=some o->b≠D:=λb o e=>zu<|zg (zr e) iW;have fD:cj D=none:=I.aM.fresh iW;refine{upd H' D<|.lst out,m,?_,q D hn,hm,by rw[aq<|Ne.symm FR];exact I'.free,yg<|zg I.lt cn,zH I.sz cn,λx c e=>zu<|zg (qj x c e) cn,λp hp=>zu<|zg (qk p hp) cn};refine I.Mg (ch:=fp) I'.os {un.keep,un.slot,λb o e n hb=>?_,un.there,λb xs e=>?_,λb o u e=>?_,λb ps e=>?_} (λb o e=>?_) I'.bare λb hb=>?_;rw[aq<|Xu b o e];exact un.free b o e n hb;rw[aq<|ay e fD];exact un.kD b xs e;rw[aq<|ay e fD];exact un.jM b o u e;rw[aq<|ay e fD];exact un.jN b ps e;by_cases hb:b=D;subst hb;rw[aD]at e;cases e;exact⟨hl,au,nn,hv,ho⟩;rw[aq hb]at e;refine(I'.aM b o e).mW (λc v _ q=>q) (λc q=>?_) λc xs q=>?_;rw[aq<|ay q hn];exact q;rw[aq<|ay q hn];exact q;obtain⟨f0,f1,f2,f3,f4,f5⟩:=ff b hb;exact⟨f3,f1,f4,f5⟩
 obtain⟨m0,w0⟩:=w0;have loop:∀lO:Shared,lO={aN with heap:=h₁}->codeAny (model X.prog X.w) X.A (.compLoop (.ListComp elt [{tg,iter,ifs,0}] scope pos) 0 (.ref it) (.ref D)<|compEnvC scope (Lh X scope C) C X.env) (RR (.ref D) C) lO:=by rintro lO rfl;refine d_ (EE:=λ_ _=>False) (λ_ _ f=>f.elim) (λn s'=>∃i out au nn H',Inv (oy X N scope C aN cj fp<|X.pn++pins) [] (pick σ src) H' s'/\H' D=none/\out.length<=sizeLine/\Vals out au/\s'.heap.get? D=some {cls:=.type "list",data:=.seq au.toArray nn}/\tn i s'.heap/\(∀b∈fp,H' b=none)/\W i n out H') ?_ m0 {0,[],[],0,cj,Ic,I.aM.fresh iW,zZ _,.nil,lP,T.keep _ _ _ st λb hb o e=>old b o e,λb hb=>(ff b hb).1,w0};rintro n s3 ⟨i,out,au,nn,H3,I3,Sh,OF,Kb,Xv,Ml,Mm,w3⟩;have AA:∀(au:List Value) (nn:Nat) (v:Option Value),({cls:=.type "list",data:=.seq au.toArray nn} : Obj).data≠.cell v:=λ_ _ _ z=>nomatch z;have Si:Inv (oy X N scope C aN cj fp<|X.pn++pins) [(D,{cls:=.type "list",data:=.seq au.toArray nn})] (pick σ src) H3 s3:=I3.fC λp hp=>(by have e:p=(D,{cls:=.type "list",data:=.seq au.toArray nn}):=(by simpa using hp);subst e;exact{Xv,Sh,FR,Az,AA au nn});have OH:∀p∈[((D,{cls:=.type "list",data:=.seq au.toArray nn}):Addr×Obj)],p.1∉fp:=λp hp=>(by have e:p=(D,{cls:=.type "list",data:=.seq au.toArray nn}):=(by simpa using hp);subst e;exact wI);rcases turn i n out H3 w3 with⟨stop,qn⟩|⟨go,eN,step⟩;refine bf (T.done (oy X N scope C aN cj fp<|X.pn++pins) rfl rfl rfl hc i _ s3 _ H3 _ Si (jO Mm OH) Ml stop) λr s4 ⟨hr,I4⟩=>?_;subst hr;have p4:=(I4.pin (D,{cls:=.type "list",data:=.seq au.toArray nn})<|zt _<|by simp).1;exact Xt D C s4<|back (I4.fC (pins':=[]) λp hp=>nomatch hp) Sh OF Kb p4 qn;refine bf (T.item (oy X N scope C aN cj fp<|X.pn++pins) rfl rfl rfl hc i _ s3 _ H3 _ Si (jO Mm OH) Ml go) λr s4 ⟨u,hr,h4⟩=>?_;subst hr;refine bf h4 λ_ s5 ⟨x,H5,I5,r5,y5,st5,fr5⟩=>?_;have RL:=I5.pinned (jO fr5 OH)<|T.obj _ _ st5;refine bf (hg _ _ _ _ _ _ s5 _ H5 x u _ RL r5<|hx x σ H5 _<|step x H5 y5) λ_ s6 ⟨JP,H6,I6,e6,q6⟩=>?_;have fin:∀{s7:Shared}{H7:Hp},Inv (oy X N scope C aN cj fp<|X.pn++pins) ([(D,{cls:=.type "list",data:=.seq au.toArray nn})]++mZ fp s5.heap) JP H7 s7->Inv (oy X N scope C aN cj fp<|X.pn++pins) [] (pick σ src) H7 s7/\H7 D=none/\s7.heap.get? D=some {cls:=.type "list",data:=.seq au.toArray nn}/\tn (i+1) s7.heap/\∀b∈fp,H7 b=none:=λ{s7 H7} I7=>(by have pD:=I7.pin (D,{cls:=.type "list",data:=.seq au.toArray nn})<|zt _ (by simp);refine{(I7.fC (pins':=[]) λp hp=>nomatch hp).weak e6.1.symm e6.2,pD.2.1,pD.1,T.keep _ _ _ st5 λb hb o e=>(I7.pin (b,o)<|zt _<|zt _<|dA hb e).1,λb hb=>?_};obtain⟨o,e,d⟩:=T.obj _ _ st5 b hb;exact(I7.pin (b,o)<|zt _<|zt _<|dA hb e).2.1);refine bf (hi _ _ _ _ _ _ s6 JP H6 _ I6 q6) λb s7 ⟨H7,I7,q7⟩=>?_;cases b with|false=>(rw[if_neg zd]at q7⊢;obtain⟨m',hm,w7⟩:=q7;obtain⟨J7,d7,o7,t7,f7⟩:=fin I7;exact{m',hm,i+1,out,au,nn,H7,J7,d7,OF,Kb,o7,t7,f7,w7})|true=>rw[if_pos rfl]at q7⊢;refine bf (he _ _ _ _ _ _ s7 JP H7 _ I7 q7) λv s8 ⟨y,H8,I8,r8,m',hm,w8⟩=>?_;obtain⟨J8,d8,o8,t8,f8⟩:=fin I8;have hsz:au.toArray.size<=sizeLine:=(by rw[zo,<-Kb.length];exact OF);refine wpAny_list_append_plain (items:=au.toArray) (hsz:=hsz) ⟨nn,o8⟩ λh9 ⟨n9,e9⟩ sb=>?_;have J9:Inv (oy X N scope C aN cj fp<|X.pn++pins) [] (pick σ src) H8 {s8 with heap:=h9}:=J8.turned (t':=s8.toks) (it:=D) (λb o hb e=>(sb.2 b hb).trans e) d8 FR (.inr iW) (λx c e=>(cT x c e).elim (λe=>zu<|zg (qj x c e.1) iW) λe=>yg<|Nat.lt_of_le_of_lt (by rw[hC];lia) e.2.2) λp hp=>(by have hp:p∈X.pn++pins:=(by simpa [oy]using hp);exact zu<|zg (qk p hp) iW);refine{m',hm,i+1,out++[y],au++[v],n9,H8,J9,d8,?_,Kb.append<|.cons r8 .nil,?_,T.keep _ _ _ t8 λb hb o e=>(sb.2 b λz=>wI<|z ▸ hb).trans e,f8,w8};rw[zC];exact eN;rw[e9];simp
 exact codeAny_compStart_list (loop _ rfl)<|T.self _ _ _ _ _ (T.keep _ _ _ st λb hb o e=>old b o e)<|loop _ rfl
theorem HE(S:CT X N src scope)(hc:X.calm=true)(hit:PI X tg iter wi) (hg:∀C s H ex pn,PG (oy X N scope C s H ex pn) tg g) (hx:sv g src) (hi:∀C s H ex pn,Mv (oy X N scope C s H ex pn) ifs tc) (he:∀C s H ex pn,PE (oy X N scope C s H ex pn) elt te) (hs:autoParam (∀x,foldedSetIterable iter X.env x=pure x) qQ0):PE X (.ListComp elt [{tg,iter,ifs,0}] scope pos) (Cr wi src g tc te):=by intro pins s σ H Q I h;rw[eval_ListComp];have Cs:closureFor scope X.env=pure (clOf X.env.cells scope.names):=dM λy hy hf=>I.ok.has y.1<|S.tP y hy hf;refine wpAny_comprehension_free (use:=none) rfl hs Cs S.kind S.loc<|bf (hit pins s σ H _ I h) λv s1 h1=>bf h1 λRF s2 h2=>?_;obtain⟨it,fp,tn,J,H2,e,I2,T,p5,f2,W,w0,turn⟩:=h2;subst e;refine A9 (RR:=λacc C=>compPost (model X.prog X.w) X.A X.xe none (EP X pins σ Q) acc C) S hc hg hx hi he I2 T p5 f2 W w0 turn λD C s' ⟨H',m,I',q,hm,hn,h1,h2,h3,h4⟩=>?_;exact{m,hm,λh' sb=>{.ref D,H',I'.turned (t':=s'.toks) (it:=C) (λb o hb e=>(sb.2 b hb).trans e) hn h1 (.inr h2) h3 h4,rfl,q}}
end
def Uy(sc:Scope)(N0 N:List Str)(src:List<|Option Nat)(scope:Scope):Bool :=
 decide (scope.kind=.function)&&(decide (scope.names.map Prod.fst).Nodup&&(scope.names.all (λy=>(decide (y.2≠.local)||decide (scope.names.lookup y.1=some .local))&&(decide (y.2≠.free)||(decide (sc.names.lookup y.1=some .cell)||decide (sc.names.lookup y.1=some .free)))) &&
  (decide (src.length=N.length)&&(List.range src.length).all λi=>match src[i]?,N[i]? with
   |some (some j),some x=>decide (N0[j]?=some x)&&(decide (scope.names.lookup x=some .free)&&(decide (sc.names.lookup x=some .cell)||decide (sc.names.lookup x=some .free)))
   |_,_=>true)))
theorem csn(sc:Scope)(N0:List Str)(hs:X.env.scope=sc)(hN:X.N=N0)(h:Uy sc N0 N src scope=true):CT X N src scope:=by unfold Uy at h;simp only[zK,zX,ya,Bool.or_eq_true]at h;obtain⟨h1,YZ,h2,h3,h4⟩:=h;refine{h1,YZ,λy hy e=>?_,λy hy e=>?_,h3,λi j x e1 e2=>?_};rcases (h2 y hy).1 with z|z;exact absurd e z;exact z;rcases (h2 y hy).2 with z|z;exact absurd e z;show X.env.scope.names.lookup y.1=some .cell\/X.env.scope.names.lookup y.1=some .free;rw[hs];exact z;have hi:i<src.length:=(zk.mp e1).1;have q:=h4 i<|zT.mpr hi;rw[e1,e2]at q;simp only[zK,zX,Bool.or_eq_true]at q;refine{by rw[hN];exact q.1,q.2.1,?_};unfold Md;rw[hs];exact .inr q.2.2
def rlb(sc scope:Scope):Scope:={scope with names:=scope.names.map λp=>if (p.2==NameKind.free&&(sc.kind==.function&&sc.names.lookup p.1==some .cell)) then (p.1,.cell) else p}
theorem Uz(sc:Scope)(hs:X.env.scope=sc)(h:chkC (rlb sc scope) N N2 src scope2=true):bB (oy X N scope C s H ex pn) N2 src scope2:=by refine j7 _ N ?_ rfl h;subst hs;show relabel scope X.env=_;unfold relabel rlb;congr 1;refine zW λp _=>?_;rw[<-Bool.and_assoc];rfl
section
variable{K:Frag}{X:Cx}{b:Bool}{N:List Str}{src:List (Option Nat)}{scope:Scope}{tg iter elt:Expr}{ifs:List Expr}{pos:Pos}{ti:w4}{g:TG}{gd:wZ}{tc:j8}{te:TD}
theorem UA(S:CT X N src scope)(hit:DI K X tg iter ti)(hg:∀C s H ex pn,PG (oy X N scope C s H ex pn) tg g)(hx:sv g src)(TR:∀v τ H Q,Tg K gd v τ H Q->g v τ H Q) (hi:∀C s H ex pn,TQ K (oy X N scope C s H ex pn) ifs tc) (he:∀C s H ex pn,DE K (oy X N scope C s H ex pn) elt te) (hs:autoParam (∀x,foldedSetIterable iter X.env x=pure x) qQ0) (hc:autoParam (X.calm=true) qQJ):DE K X (.ListComp elt [{tg,iter,ifs,0}] scope pos) (w6 ti src gd tc te):=⟨λy=>(HE (X:=y.cx) (tc:=Tt K (λ_=>E0) tc) (te:=T K (λ_=>E0) te) ⟨S.kind,S.nd,S.loc,S.tP,S.len,S.src⟩ hc (hit.of y) hg hx (λC s H ex pn=>(hi C s H ex pn).of<|.none _ rfl) (λC s H ex pn=>(he C s H ex pn).of<|.none _ rfl) hs).mono λ_ _ _ h=>h.comp TR⟩
theorem UB(nd:N.Nodup)(h0:autoParam (N[0]?=some a) qQJ)(hx:∀C s H ex pn,Loc (oy X N scope C s H ex pn).env.scope a/\(oy X N scope C s H ex pn).fn a=true:=by intro _ _ _ _ _;exact{Or.inr rfl,rfl}): ∀C s H ex pn,PG (oy X N scope C s H ex pn) (.Name a p) (gr 0):=λC s H ex pn=>lF (i:=0) nd h0 (hx C s H ex pn).1<|.inl (hx C s H ex pn).2
def dTf(t:j8):j8:=λσ S R Z=>t σ S (λb S'=>Fo S'<|R b) Z
theorem tfo{t:j8}(h:DT K X e t):DT K X e (dTf t):=⟨λy=>(h.of y).mono <| by rintro τ H Q ⟨σ,S,R,Z,aC,hS,q,hR,hZ⟩;exact{σ,S,_,Z,aC,hS,q,by rintro b S' H' ⟨S2,sb,r⟩ s k;exact hR b S2 H' r (s.sub sb) k,hZ}⟩
end
section
variable{K:Frag}
def Each(S:aw)(x:D)(ds:List D)(g:D->Bool):Prop:=∃p,Dl S x p/\p.canLay0=true/\∀d∈ds,∃q,Dl S d q/\q.canLay0=true/\(q.depth<=62\/p.depth<=62)/\PyData.eqv q p=g d
def inE(neg:Bool):tV:=λx y S R=>∃a ds g,y=.ref a/\S a=some (.lst ds)/\Each S x ds g/\R (.bl<|if neg then !ds.any g else ds.any g) S
theorem CU:∀{ds:List D}{xs:List V}{us:List Value},RvAll K H ds xs->Vals xs us->∃L:List (D×V×Value),L.map (·.1)=ds/\L.map (·.2.2)=us/\∀q∈L,Rv K H q.1 q.2.1/\RelV q.2.1 q.2.2|[],_,_,h,.nil=>{[],rfl,rfl,λ_ h=>(nomatch h)}|[],_,_,h,.cons _ _=>(by cases h.nil)|d::ds,xs,us,h,v=>by obtain⟨z,zs,rfl,h1,h2⟩:=h.cons;cases v with|cons r t=>obtain⟨L,e1,e2,e3⟩:=CU h2 t;exact{(d,z,_)::L,by rw[zq,e1],by rw[zq,e2],List.forall_mem_cons.mpr {⟨h1,r⟩,e3}}
theorem HF{X:Cx}{pins:List<|Addr×Obj}{s:Shared}{σ:St}{H:Hp}{S:aw}{x:D}{v:V}{u:Value}{a:Addr}{ds:List D}{g:D->Bool}(hu:X.A.units+64<cLine)(I:Inv X pins σ H s)(rx:RelV v u)(hS:Rs X.K S H)(r1:Rv X.K H x v)(ha:S a=some (.lst ds))(al:Each S x ds g): ∃(au:List Value)(f:Value->Bool),s.heap.IsList a au.toArray/\(∀w∈au.toArray,SeqAt.EqAt X.A.in1 s w u<|f w)/\au.toArray.any f=ds.any g:=by
 obtain⟨p,h1,h2,h3⟩:=al;obtain⟨xs,e1,t⟩:=hS.lst ha;obtain⟨au,r,pl,hz⟩:=I.list<|.of e1;obtain⟨L,l1,l2,l3⟩:=CU t r;have Wf:∀q∈L,SeqAt.EqAt X.A.in1 s q.2.2 u (g q.1):=λq hq=>by obtain⟨rv,rl⟩:=l3 q hq;obtain⟨e,q1,q2,q3,q4⟩:=h3 q.1 (by rw[<-l1];exact zf.mpr ⟨q,hq,rfl⟩);obtain⟨as,ra⟩:=I.reads e (q1.dt hS rv) rl;obtain⟨bs,rb⟩:=I.reads p (h1.dt hS r1) rx;rw[<-q4];exact SeqAt.eqAt_reads e p _ s _ _ as bs ra rb q2 h2<|by rw[Around.in1_units];rcases q3 with q3|q3<;>lia
 have dq:DecidableEq Value:=λ_ _=>Classical.propDecidable _;refine{au,λw=>L.any λq=>decide (q.2.2=w)&&g q.1,pl.isList,λw hw=>?_,?_};have hw:w∈au:=by simpa using hw
 rw[<-l2]at hw;obtain⟨q,hq,rfl⟩:=zf.mp hw;cases e:(L.any λq'=>decide (q'.2.2=q.2.2)&&g q'.1) with|true=>(obtain⟨q',CA,e'⟩:=ym.mp e;rw[zK,zX]at e';have:=Wf q' CA;rw[e'.1,e'.2]at this;dsimp only;rw[e];exact this)|false=>have:=Wf q hq;have e2:g q.1=false:=(by cases e3:g q.1 with|false=>rfl|true=>have:=List.any_eq_false.mp e q hq;rw[zx rfl,e3]at this;exact absurd rfl this);rw[e2]at this;dsimp only;rw[e];exact this
 rw[List.any_toArray,yk,ym,ym];constructor;rintro⟨w,_,e⟩;obtain⟨q,hq,e⟩:=ym.mp e;rw[zK]at e;exact{q.1,by rw[<-l1];exact zf.mpr ⟨q,hq,rfl⟩,e.2};rintro⟨d,hd,e⟩;rw[<-l1]at hd;obtain⟨q,hq,rfl⟩:=zf.mp hd;exact{q.2.2,by rw[<-l2];exact zf.mpr ⟨q,hq,rfl⟩,ym.mpr {q,hq,by rw[zx rfl,e];rfl}}
theorem UC:mV K (compareOp .In) (inE false):=by rintro X hK hu pins s σ H x y v u Q I rx ry ⟨d,e,S,R,r1,r2,hS,⟨a,ds,g,rfl,ha,al,h⟩,hR⟩;subst hK;cases r2.ref;cases ry;obtain⟨au,f,e1,e2,e3⟩:=HF hu I rx hS r1 ha al;refine SeqAt.in_listAt f e1 e2 {.bl _,H,I,rfl,?_};rw[e3];exact hR.now hS h<|bp _
theorem HG:mV K (compareOp .NotIn) (inE true):=by rintro X hK hu pins s σ H x y v u Q I rx ry ⟨d,e,S,R,r1,r2,hS,⟨a,ds,g,rfl,ha,al,h⟩,hR⟩;subst hK;cases r2.ref;cases ry;obtain⟨au,f,e1,e2,e3⟩:=HF hu I rx hS r1 ha al;refine SeqAt.notIn_listAt f e1 e2 {.bl _,H,I,rfl,?_};rw[e3];exact hR.now hS h<|bp _
end
noncomputable def eZ(N:Nat)(v:Nat->Value):Array Value:=((List.range N).map v).toArray
structure ZN(n N:Nat)(l:Nat->Addr)(i:Nat)(h:Heap):Prop where
 z:IsZip h (n+N+2) (n+N) (n+N+1) .none
 t:lR h (n+N) (eZ N λj=>.ref<|n+j)
 o:∃arr:Array Value,arr.size=N/\lR h (n+N+1) arr
 it:∀j,j<N->h.IsTupleIter (n+j) (l j) i
theorem jF:(eZ N v).size=N:=by unfold eZ;simp
theorem i5:(eZ N v).toList.length=N:=by unfold eZ;simp
theorem Li(h:arr.size=N)(e:∀j,j<N->arr[j]?=some (v j)):arr=eZ N v:=by refine Array.ext (by rw[h,jF]) λj h1 h2=>?_;have:=e j (by lia);rw[Array.getElem?_eq_getElem h1]at this;rw[zO this];simp[eZ]
section
variable{prog:Program}{w:World}{A:Around}{E:Value->Shared->Prop}{s:Shared}{n N:Nat}{l:Nat->Addr}{i:Nat}{xs:Nat->Array Value}
theorem EX{v:Nat->Value}{Q:Value->Shared->Prop}(h1:1<=N)(h3:N<=3)(lt:∀j,j<N->l j<n)(hs:ZN n N l i s.heap)(tu:∀j,j<N->s.heap.IsTuple (l j) (xs j))(ev:∀j,j<N->(xs j)[i]?=some (v j)) (hQ:∀h',IsZip h' (n+N+2) (n+N) (n+N+1) (rawInt s.heap.objs.size)->lR h' (n+N+1) (eZ N v)->(∀j,j<N->h'.IsTupleIter (n+j) (l j) (i+1))->lR h' s.heap.objs.size (eZ N v)->(∀c o,c≠n+N+2->c≠n+N+1->(∀j,j<N->c≠n+j)->s.heap.get? c=some o->h'.get? c=some o)->Q (.ref s.heap.objs.size) {s with heap:=h'}): wpAny (model prog w) A (Builtin.«zip.__next__» {[.ref<|n+N+2],[]}) (λfin s'=>∃v,fin=.done (.ret v)/\Q v s') E s:=by
 obtain⟨hz,hI,⟨arr,na,hO⟩,hit⟩:=hs;show wpAny _ _ (field (.ref<|n+N+2) 2 >>=_) _ _ _;refine zc<|yf hz rfl (x:=.bool false) rfl ?_;show wpAny _ _ (field (.ref<|n+N+2) 3 >>=_) _ _ _;refine zc<|yf hz rfl (x:=.ref<|n+N) rfl ?_;refine zc<|wpAny_seqItems hI rfl ?_;have he:(eZ N λj=>Value.ref<|n+j).isEmpty=false:=by rw[Array.isEmpty_eq_false_iff];intro e;have:=congrArg Array.size e;rw[jF]at this;simp at this;lia
 dsimp only;rw[if_neg<|by rw[he];exact zd];refine zc ?_;unfold Builtin.SmallTypes.ownedTupleIsFree;refine zc<|yf hz rfl (x:=.none) rfl<|zA ?_;simp only[if_true];refine zc<|wpAny_rule ?_;refine zc<|yf hz rfl (x:=.ref<|n+N+1) rfl ?_;refine zc<|wpAny_setField_rec hz (by simp) λh0 Py q0=>?_;replace Py:IsZip h0 (n+N+2) (n+N) (n+N+1) .ellipsis:=Py;have k0:∀c o,c≠n+N+2->s.heap.get? c=some o->h0.get? c=some o:=λc o d e=>q0.extBut _ _ d e;refine zc<|wpAny_forIn_list _ (λrest b s'=>∃(k:Nat)(h':Heap)(a':Array Value),k<=N/\rest=((eZ N λj=>Value.ref<|n+j).toList.zipIdx).drop k/\b=(none,())/\s'={s with heap:=h'}/\lR h' (n+N+1) a'/\a'.size=N/\(∀j,j<k->a'[j]?=some (v j))/\(∀j,j<N->h'.IsTupleIter (n+j) (l j) (if j<k then i+1 else i))/\IsZip h' (n+N+2) (n+N) (n+N+1) .ellipsis/\h'.objs.size=s.heap.objs.size/\(∀c o,c≠n+N+2->c≠n+N+1->(∀j,j<N->c≠n+j)->s.heap.get? c=some o->h'.get? c=some o)) _ ?_ ?_ _ _ ?_;rintro x rest b s' ⟨k,h',a',hk,e1,rfl,rfl,O,ha,hv,J,Z,sz,kp⟩;have eY:k<N:=by have:=congrArg List.length e1;rw[zJ,List.length_drop,List.length_zipIdx,i5]at this;lia
 have e2:((eZ N λj=>Value.ref<|n+j).toList.zipIdx).drop k=(Value.ref<|n+k,k)::((eZ N λj=>Value.ref<|n+j).toList.zipIdx).drop (k+1):=by rw[List.drop_eq_getElem_cons<|by rw[List.length_zipIdx,i5];exact eY];simp[eZ]
 rw[e2]at e1;cases e1;have lk:@LT.lt Nat _ (l k) n:=lt k eY;have Jk:=J k eY;rw[if_neg<|yj _]at Jk;have T0:Heap.IsTuple h' (l k) (xs k):=by obtain⟨o,a1,a2⟩:=tu k eY;exact{o,kp _ _ (by show @Ne Nat _ _;lia) (by show @Ne Nat _ _;lia) (λj _=>by show @Ne Nat _ _;lia) a1,a2}
 refine zc<|wpAny_onRaise ?_;show wpAny _ _ (Builtin.SmallTypes.nextOf (.ref<|n+k) >>=_) _ _ _;refine zc<|AJ (s:={s with heap:=h'}) Jk T0 (ev k eY) λg1 m0 q1=>zA ?_;have O1:lR g1 (n+N+1) a':=q1.extBut _ _ (by show @Ne Nat _ _;lia) O;refine zc<|wpAny_seqItems (s:={s with heap:=g1}) O1 rfl ?_;refine zc<|EC (s:={s with heap:=g1}) O1 (by lia) λg2 O2 q2=>?_;refine zc<|wpAny_letGo<|zA ?_;refine{k+1,g2,_,eY,rfl,rfl,rfl,O2,by rw[Array.size_setIfInBounds];exact ha,λj hj=>?_,λj hj=>?_,q2.extBut _ _ (by show @Ne Nat _ _;lia)<|q1.extBut _ _ (by show @Ne Nat _ _;lia) Z,by rw[q2.1,q1.1];exact sz,λc o d1 d2 d3 e=>q2.extBut _ _ d2<|q1.extBut _ _ (d3 k eY)<|kp c o d1 d2 d3 e};by_cases z:j=k;subst z;rw[Array.getElem?_setIfInBounds_self_of_lt<|by lia];rw[Array.getElem?_setIfInBounds_ne<|Ne.symm z];exact hv j (by lia);by_cases z:j=k;subst z;rw[if_pos<|yI _];exact uE q2.extBut (by show @Ne Nat _ _;lia) m0;have:=J j hj;rw[show(if j<k+1 then i+1 else i)=if j<k then i+1 else i by by_cases y:j<k;rw[if_pos y,if_pos<|by lia];rw[if_neg y,if_neg<|by lia]];exact uE q2.extBut (by show @Ne Nat _ _;lia)<|uE q1.extBut (by show @Ne Nat _ _;lia) this;rintro b s' ⟨k,h',a',hk,e1,rfl,rfl,O,ha,hv,J,Z,sz,kp⟩;have eY:k=N:=by have:=congrArg List.length e1;rw[List.length_nil,List.length_drop,List.length_zipIdx,i5]at this;lia
 subst eY;have ea:=Li ha hv;subst ea;refine zc<|wpAny_seqItems (s:={s with heap:=h'}) O rfl ?_;refine zc<|wpAny_newTuple ?_ (hsz:=by rw[i5];exact XM h3);have lz:n+k+2<h'.objs.size:=zr Z;show wpAny _ _ (Builtin.SmallTypes.ownedTupleHandOut (.ref<|n+k+2) (.ref h'.objs.size) >>=_) _ _ _;refine zc ?_;unfold Builtin.SmallTypes.ownedTupleHandOut;have hzM:IsZip (h'.push {cls:=.type "tuple",data:=.seq<|eZ k v}) (n+k+2) (n+k) (n+k+1) .ellipsis:=za _ Z;refine zc<|wpAny_setField_rec (s:={s with heap:=h'.push {cls:=.type "tuple",data:=.seq<|eZ k v}}) hzM (by simp) λg1 Q9 r1=>?_;replace Q9:IsZip g1 (n+k+2) (n+k) (n+k+1) (rawInt h'.objs.size):=Q9;refine wpAny_setField_rec (s:={s with heap:=g1}) Q9 (by simp) λg2 Jy r2=>?_;replace Jy:IsZip g2 (n+k+2) (n+k) (n+k+1) (rawInt h'.objs.size):=Jy;have up:∀c o,c≠n+k+2->h'.get? c=some o->g2.get? c=some o:=λc o d e=>r2.extBut _ _ d<|r1.extBut _ _ d<|za _ e;have hT:lR g2 h'.objs.size (eZ k v):=r2.extBut _ _ (yg lz)<|r1.extBut _ _ (yg lz)<|zm _ rfl;rw[sz]at Jy hT;refine zA !⟨?_⟩;show Q (.ref h'.objs.size) _;rw[sz];refine hQ g2 Jy (up _ _ (by show @Ne Nat _ _;lia) O) (λj hj=>?_) hT λc o d1 d2 d3 e=>up c o d1<|kp c o d1 d2 d3 e;have:=J j hj;rw[if_pos hj]at this;exact Mz (λo e=>up _ o (by show @Ne Nat _ _;lia) e) this;refine{0,h0,arr,zZ _,rfl,rfl,rfl,k0 _ _ (by show @Ne Nat _ _;lia) hO,na,λj hj=>absurd hj<|Nat.not_lt_zero _,λj hj=>?_,Py,q0.1,λc o d _ _ e=>k0 c o d e};rw[if_neg<|Nat.not_lt_zero _];obtain⟨o,a1,a2⟩:=hit j hj;exact{o,k0 _ _ (by show @Ne Nat _ _;lia) a1,a2}
theorem HH(h1:1<=N)(hh:A.handled=none)(hs:ZN n N l i s.heap)(lt:l 0<n)(t0:s.heap.IsTuple (l 0)<|xs 0)(e0:(xs 0)[i]?=none) (hE:∀h' e,(∀c o,c≠n+N+2->c≠n+0->s.heap.get? c=some o->h'.get? c=some o)->(∃o,h'.get? e=some o/\o.cls=.type "StopIteration")->E (.ref e) {s with heap:=h'}): wpAny (model prog w) A (Builtin.«zip.__next__» {[.ref<|n+N+2],[]}) Q E s:=by
 obtain⟨hz,hI,⟨arr,na,hO⟩,hit⟩:=hs;show wpAny _ _ (field (.ref<|n+N+2) 2 >>=_) _ _ _;refine zc<|yf hz rfl (x:=.bool false) rfl ?_;show wpAny _ _ (field (.ref<|n+N+2) 3 >>=_) _ _ _;refine zc<|yf hz rfl (x:=.ref<|n+N) rfl ?_;refine zc<|wpAny_seqItems hI rfl ?_;have he:(eZ N λj=>Value.ref<|n+j).isEmpty=false:=by rw[Array.isEmpty_eq_false_iff];intro e;have:=congrArg Array.size e;rw[jF]at this;simp at this;lia
 dsimp only;rw[if_neg<|by rw[he];exact zd];refine zc ?_;unfold Builtin.SmallTypes.ownedTupleIsFree;refine zc<|yf hz rfl (x:=.none) rfl<|zA ?_;simp only[if_true];refine zc<|wpAny_rule ?_;refine zc<|yf hz rfl (x:=.ref<|n+N+1) rfl ?_;refine zc<|wpAny_setField_rec hz (by simp) λh0 Py q0=>?_;replace Py:IsZip h0 (n+N+2) (n+N) (n+N+1) .ellipsis:=Py;have lk:@LT.lt Nat _ (l 0) n:=lt;have J0:Heap.IsTupleIter h0 (n+0) (l 0) i:=by obtain⟨o,a1,a2⟩:=hit 0 h1;exact{o,q0.extBut _ _ (by show @Ne Nat _ _;lia) a1,a2}
 have T0:Heap.IsTuple h0 (l 0) (xs 0):=by obtain⟨o,a1,a2⟩:=t0;exact{o,q0.extBut _ _ (by show @Ne Nat _ _;lia) a1,a2}
 have e2:(eZ N λj=>Value.ref<|n+j).toList.zipIdx=(Value.ref<|n+0,0)::((eZ N λj=>Value.ref<|n+j).toList.zipIdx).drop 1:=by have:=List.drop_eq_getElem_cons (l:=(eZ N λj=>Value.ref<|n+j).toList.zipIdx) (i:=0) (by rw[List.length_zipIdx,i5];exact h1);rw[List.drop_zero]at this;rw[this];simp[eZ]
 rw[e2,List.forIn_cons];refine zc<|zc<|zc<|wpAny_onRaise ?_;show wpAny _ _ (Builtin.SmallTypes.nextOf (.ref<|n+0) >>=_) _ _ _;refine zc<|qo (s:={s with heap:=h0}) hh J0 T0 e0 λh1 e q1 he=>?_;obtain⟨oe,Y0,hce⟩:=he;have Q9:IsZip h1 (n+N+2) (n+N) (n+N+1) .ellipsis:=q1 _ _ (by show @Ne Nat _ _;lia) Py;have ez:e≠n+N+2:=λx=>by subst x;rw[Q9]at Y0;cases Y0;simp at hce
 refine wpAny_setField_rec (s:={s with heap:=h1}) Q9 (by simp) λh2 _ q2=>hE h2 e (λc o dz d0 x=>q2.extBut _ _ dz<|q1 _ _ d0<|q0.extBut _ _ dz x) {oe,q2.extBut _ _ ez Y0,hce}
end
noncomputable def Pz(K:Frag)(N:Nat)(l:Nat->Addr):It:={λi H=>∃(xs:Nat->List V)(x:Nat->V),∀j,j<N->iu K H (l j) (xs j)/\(xs j)[i]?=some (x j),λi H y H'=>∃T,H T=none/\y=.ref T/\∀(xs:Nat->List V)(x:Nat->V),(∀j,j<N->iu K H (l j) (xs j)/\(xs j)[i]?=some (x j))->H'=upd H T (.tup<|(List.range N).map x),λi H=>∃xs:Nat->List V,(∀j,j<N->iu K H (l j) (xs j))/\(xs 0).length<=i}
noncomputable def Q_(n N:Nat):List Addr:=(List.range<|N+3).map λj=>n+j
theorem pQ(h:b∈Q_ n N):∃j,j<N+3/\b=n+j:=by obtain⟨j,hj,e⟩:=zf.mp h;exact{j,zT.mp hj,e.symm}
theorem e_(h:j<N+3):(n+j:Nat)∈Q_ n N:=zf.mpr {j,zT.mpr h,rfl}
theorem A_(h:∀j,j<N->RelV (x j) (u j)):Vals ((List.range N).map x) ((List.range N).map u):=by
 have:∀l:List Nat,(∀j∈l,j<N)->Vals (l.map x) (l.map u):=by intro l;induction l with|nil=>exact λ_=>.nil|cons a l ih=>exact λhl=>.cons (h a<|hl a zi)<|ih λj hj=>hl j<|ze _ hj
 exact this _ λj hj=>zT.mp hj
theorem t_{P:Program}{w:World}{K:Frag}{es:List Expr}{kk:Nat}{tp:Pos}{n N:Nat}{l:Nat->Addr}(h1:1<=N)(h3:N<=3)(lt:∀j,j<N->l j<n):Turn P w K (.Tuple es kk tp) (Pz K N l) (Q_ n N) (n+N+2) (ZN n N l) where
 mem:=e_ (j:=N+2)<|by lia
 obj:=λi h st b hb=>by
  obtain⟨j,hj,rfl⟩:=pQ hb
  by_cases q:j<N
  ·obtain⟨o,e,c,d⟩:=st.it j q;exact{o,e,λv z=>by rw[d]at z;cases z}
  ·obtain⟨arr,na,hO⟩:=st.o
   have:j=N\/j=N+1\/j=N+2:=by lia
   rcases this with rfl|rfl|rfl
   ·exact{_,st.t,λv z=>by cases z}
   ·exact{_,hO,λv z=>by cases z}
   ·exact{_,st.z,λv z=>by cases z}
 keep:=λi h h' st k=>by
  obtain⟨hz,hI,⟨arr,na,hO⟩,J⟩:=st
  exact{k _ (e_ (j:=N+2)<|by lia) _ hz,k _ (e_ (j:=N)<|by lia) _ hI,{arr,na,k _ (e_ (j:=N+1)<|by lia) _ hO},λj hj=>Mz (λo e=>k _ (e_<|by lia) o e)<|J j hj}
 item:=by
  intro X hP hw hK hc i pins s σ H E I hf st hg
  subst hP hw hK
  obtain⟨xs,x,hx⟩:=hg
  have ex:∀j,∃(au:List Value)(u:Value),j<N->Vals (xs j) au/\s.heap.IsTuple (l j) au.toArray/\au[i]?=some u/\RelV (x j) u:=λj=>by
   by_cases q:j<N
   ·obtain⟨au,rv,p,_⟩:=I.tuple (hx j q).1
    obtain⟨u,hu,ru⟩:=rv.get (hx j q).2
    exact{au,u,λ_=>⟨rv,p,hu,ru⟩}
   ·exact{[],.none,λh=>absurd h q}
  have fx:=Classical.axiomOfChoice ex
  obtain⟨au,fx⟩:=fx
  obtain⟨u,fx⟩:=Classical.axiomOfChoice fx
  have hT:s.TypeIs (.ref<|n+N+2) "zip":={_,st.z,rfl}
  have lz:@LT.lt Nat _ (n+N+2) s.heap.objs.size:=zr st.z
  unfold pyNext
  refine zc<|wpAny_attempt<|wpAny_callSpecial?_slot (name:=Str.ofString "__next__") hT F.slot_zip_next<|yK F.slot_zip_next hT F.entry_zip_next (EX h1 h3 lt st (xs:=λj=>(au j).toArray) (v:=u) (λj hj=>(fx j hj).2.1) (λj hj=>by simpa using (fx j hj).2.2.1) λg1 z1 O1 m1 T1 kp=>zA !⟨?_⟩)<|F.args_zip_next_1 _
  refine wpAny_letOwnedTupleGo_zip (s:={s with heap:=g1}) z1 λg2 z2 r2=>?_
  have Wa:∀c o,c∉Q_ n N->s.heap.get? c=some o->g2.get? c=some o:=λc o hc e=>r2.extBut _ _ (λz=>hc<|z ▸ e_ (j:=N+2) (by lia))<|kp c o (λz=>hc<|z ▸ e_ (j:=N+2) (by lia)) (λz=>hc<|z ▸ e_ (j:=N+1) (by lia)) (λj hj z=>hc<|z ▸ e_ (by lia)) e
  have T2:lR g2 s.heap.objs.size (eZ N u):=r2.extBut _ _ (yg lz) T1
  have I2:Inv X pins σ (upd H s.heap.objs.size<|.tup<|(List.range N).map x) {s with heap:=g2}:=I.Kr (t':=s.toks) (Q_ n N) hf Wa (Heap.get?_none_of_le<|zp _) {by rw[zb,List.length_range];exact Z8<|zH h3<|by decide,_,A_ λj hj=>(fx j hj).2.2.2,{_,T2,rfl,rfl,_,rfl}}
  refine{.ref s.heap.objs.size,_,I2,rfl,{_,I.aM.fresh<|zp _,rfl,λys y hy=>?_},{z2,?_,{_,jF,r2.extBut _ _ (by show @Ne Nat _ _;lia) O1},λj hj=>uE r2.extBut (by show @Ne Nat _ _;lia)<|m1 j hj},λb hb=>?_}
  ·congr 2
   refine zW λj hj=>?_
   have hj:=zT.mp hj
   have:=I.mY (hy j hj).1 (hx j hj).1
   have e:=(hy j hj).2
   rw[this,(hx j hj).2]at e
   exact zO e
  ·exact r2.extBut _ _ (by show @Ne Nat _ _;lia) (kp _ _ (by show @Ne Nat _ _;lia) (by show @Ne Nat _ _;lia) (λj hj=>by show @Ne Nat _ _;lia) st.t)
  ·obtain⟨j,hj,rfl⟩:=pQ hb
   rw[aq<|by show @Ne Nat _ _;lia]
   exact(hf _ hb).1
 done:=by
  intro X hP hw hK hc i pins s σ H E I hf st hg
  subst hP hw hK
  obtain⟨xs,hx,hl⟩:=hg
  obtain⟨HJ,Y1,p0,_⟩:=I.tuple<|hx 0 h1
  have hT:s.TypeIs (.ref<|n+N+2) "zip":={_,st.z,rfl}
  have UD:=Y1.length
  unfold pyNext
  refine zc<|wpAny_attempt<|wpAny_callSpecial?_slot (name:=Str.ofString "__next__") hT F.slot_zip_next<|yK F.slot_zip_next hT F.entry_zip_next (HH h1 (I.ok.hd hc) st (lt 0 h1) (xs:=λ_=>HJ.toArray) p0 (by simp;lia) λh1 e kp he=>?_)<|F.args_zip_next_1 _
  obtain⟨o,ho,y9⟩:=he
  refine zc<|wpAny_isInstance (T:="StopIteration") (b:=true) ⟨o,ho,y9⟩ isSubtype_stop<|zA {rfl,?_}
  exact I.Kq (t':=s.toks) (Q_ n N) hf λc o hc e=>kp c o (λz=>hc<|z ▸ e_ (j:=N+2) (by lia)) (λz=>hc<|z ▸ e_ (j:=0) (by lia)) e
 self:=λA' i s Q E st h=>wpAny_pyIter_zip st.z h
noncomputable def two(a b:Addr):Nat->Addr:=λj=>if j=0 then a else b
noncomputable def PB(a b c:Addr):Nat->Addr:=λj=>if j=0 then a else if j=1 then b else c
theorem Wh{p:Nat->Prop}(h0:p 0)(h1:p 1):∀j,j<2->p j|0,_=>h0|1,_=>h1|j+2,h=>by lia
theorem Wi{p:Nat->Prop}(h0:p 0)(h1:p 1)(h2:p 2):∀j,j<3->p j|0,_=>h0|1,_=>h1|2,_=>h2|j+3,h=>by lia
section
variable{X:Cx}{a b c:Expr}{ta:TA}{p pos tp:Pos}{es:List Expr}{kk:Nat}
theorem PC(hg:Gl X "zip")(hm:X.mg "zip"= none)(ha:PA X [a,b] ta)(hs:starEach [a,b] X.env=[(false,eval a X.env),(false,eval b X.env)])(rX:starEach [b] X.env=[(false,eval b X.env)]): PI X (.Tuple es kk tp) (.Call (.Name "zip" p) [a,b] [] pos) (λσ H R=>ta σ H λvs H1=>∃l0 l1,vs=[.ref l0,.ref l1]/\(∃xs,iu X.K H1 l0 xs)/\(∃xs,iu X.K H1 l1 xs)/\R (Pz X.K 2<|two l0 l1) H1):=by intro pins s σ H R I h;refine Call_<|eS I hg hm boot_zip<|PyProof.Rows.callWith_type1 (bf (ha pos pins s σ H _ I h) λus s1 ⟨vs,H1,I1,r1,q1⟩=>?_) (by rw[hs,rX]) (by rw[rX];rfl);obtain⟨l0,l1,e,⟨AK,q0⟩,⟨AL,q2⟩,q⟩:=q1;subst e;obtain⟨u,v,rfl,r,r'⟩:=r1.two;cases r;cases r';obtain⟨HJ,Y1,p0,_⟩:=I1.tuple q0;obtain⟨PD,Uj,p1,_⟩:=I1.tuple q2;refine AO (show s1.heap.IsTuple l0 HJ.toArray from p0) (show s1.heap.IsTuple l1 PD.toArray from p1) λh' zs kp=>?_;have zn:ZN s1.heap.objs.size 2 (two l0 l1) 0 h':={zs.1,zs.2.1,zs.2.2.1,Wh zs.2.2.2.1 zs.2.2.2.2};refine wpAny_pyIter_zip (s:={s1 with heap:=h'}) zs.1 {_,_,_,_,H1,rfl,I1.kept (t':=s1.toks) kp,t_ (by decide) (by decide)<|Wh p0.lt p1.lt,zn,λb hb=>?_,q};obtain⟨j,_,rfl⟩:=pQ hb;exact I1.jO (Nat.le_add_right _ _)<|I1.aM.fresh<|Nat.le_add_right _ _
theorem PF(hg:Gl X "zip")(hm:X.mg "zip"= none)(ha:PA X [a,b,c] ta)(hs:starEach [a,b,c] X.env=[(false,eval a X.env),(false,eval b X.env),(false,eval c X.env)])(rX:starEach [b,c] X.env=[(false,eval b X.env),(false,eval c X.env)]): PI X (.Tuple es kk tp) (.Call (.Name "zip" p) [a,b,c] [] pos) (λσ H R=>ta σ H λvs H1=>∃l0 l1 l2,vs=[.ref l0,.ref l1,.ref l2]/\(∃xs,iu X.K H1 l0 xs)/\(∃xs,iu X.K H1 l1 xs)/\(∃xs,iu X.K H1 l2 xs)/\R (Pz X.K 3<|PB l0 l1 l2) H1):=by intro pins s σ H R I h;refine Call_<|eS I hg hm boot_zip<|PyProof.Rows.callWith_type1 (bf (ha pos pins s σ H _ I h) λus s1 ⟨vs,H1,I1,r1,q1⟩=>?_) (by rw[hs,rX]) (by rw[rX];rfl);obtain⟨l0,l1,l2,e,⟨AK,q0⟩,⟨AL,q2⟩,⟨QT,q3⟩,q⟩:=q1;subst e;obtain⟨u,v,z,rfl,r,r',r''⟩:=r1.three;cases r;cases r';cases r'';obtain⟨HJ,Y1,p0,_⟩:=I1.tuple q0;obtain⟨PD,Uj,p1,_⟩:=I1.tuple q2;obtain⟨uz,Q7,p2,_⟩:=I1.tuple q3;refine AW (show s1.heap.IsTuple l0 HJ.toArray from p0) (show s1.heap.IsTuple l1 PD.toArray from p1) (show s1.heap.IsTuple l2 uz.toArray from p2) λh' zs kp=>?_;have zn:ZN s1.heap.objs.size 3 (PB l0 l1 l2) 0 h':={zs.1,zs.2.1,zs.2.2.1,Wi zs.2.2.2.1 zs.2.2.2.2.1 zs.2.2.2.2.2};refine wpAny_pyIter_zip (s:={s1 with heap:=h'}) zs.1 {_,_,_,_,H1,rfl,I1.kept (t':=s1.toks) kp,t_ (by decide) (by decide)<|Wi p0.lt p1.lt p2.lt,zn,λb hb=>?_,q};obtain⟨j,_,rfl⟩:=pQ hb;exact I1.jO (Nat.le_add_right _ _)<|I1.aM.fresh<|Nat.le_add_right _ _
end
section
variable{K:Frag}{X:Cx}{a c e:Expr}{t:g7}{p pos tp:Pos}{es:List Expr}{kk:Nat}
theorem izn(hm:X.mg "zip"= none)(ha:DA K X [a,c] t)(hg:autoParam (Gl X "zip") qQJ)(hs:autoParam (starEach [a,c] X.env=[(false,eval a X.env),(false,eval c X.env)]) qQJ)(rX:autoParam (starEach [c] X.env=[(false,eval c X.env)]) qQJ)(hK:autoParam (X.K=K) qQJ): DI K X (.Tuple es kk tp) (.Call (.Name "zip" p) [a,c] [] pos) (TY t):=by subst hK;exact⟨λy=>(PC (X:=y.cx) hg hm (ha.of y) hs rX).mono λτ H R ⟨σ,S,RI,Z,aC,hS,q,hR,hZ⟩=>{σ,S,_,Z,aC,hS,q,λds S1 vs H1 ⟨xs,ys,e,hl,r1⟩ v1 s1 k1=>by subst e;obtain⟨v,u,rfl,ra,rb⟩:=v1.two;obtain⟨a,va,rfl,qa,ta⟩:=ra.tup;obtain⟨b,vb,rfl,qb,tb⟩:=rb.tup;refine{a,b,rfl,{va,.of qa},{vb,.of qb},hR _ S1 _ H1 r1 (λi S2 H2 k2 s2 _=>?_) s1 k1};have Lj:iu X.K H2 a va:=.of<|k2.t _ _ qa;have UE:iu X.K H2 b vb:=.of<|k2.t _ _ qb;have la:va.length=xs.length:=ta.len;let f:Nat->List V:=λj=>if j=0 then va else vb;refine{λd hd=>?_,λh=>{f,Wh Lj UE,by show va.length<=i;unfold ck at h;rw[List.length_zipWith]at h;lia}};unfold ck at hd;obtain⟨x,y',e1,e2,e3⟩:=List.getElem?_zipWith_eq_some.mp hd;subst e3;obtain⟨vx,f1,g1⟩:=(RvAll.ts k2 _ ta).get e1;obtain⟨vy,f2,g2⟩:=(RvAll.ts k2 _ tb).get e2;let g:Nat->V:=λj=>if j=0 then vx else vy;have ok:∀j,j<2->iu X.K H2 (two a b j) (f j)/\(f j)[i]?=some (g j):=Wh ⟨Lj,f1⟩ ⟨UE,f2⟩;refine{⟨f,g,ok⟩,λx' H' ⟨T,hT,e4,e5⟩=>?_};have:=e5 f g ok;subst this e4;have kk:Kp X.K H2 (upd H2 T<|.tup [vx,vy]):=.new hT;exact{nh aD<|RvAll.ts kk _<|aS g1<|aS g2 bz,kk,s2.grow hT},hZ}⟩
theorem Y2(hm:X.mg "zip"= none)(ha:DA K X [a,c,e] t)(hg:autoParam (Gl X "zip") qQJ)(hs:autoParam (starEach [a,c,e] X.env=[(false,eval a X.env),(false,eval c X.env),(false,eval e X.env)]) qQJ)(rX:autoParam (starEach [c,e] X.env=[(false,eval c X.env),(false,eval e X.env)]) qQJ)(hK:autoParam (X.K=K) qQJ): DI K X (.Tuple es kk tp) (.Call (.Name "zip" p) [a,c,e] [] pos) (Px t):=by subst hK;exact⟨λy=>(PF (X:=y.cx) hg hm (ha.of y) hs rX).mono λτ H R ⟨σ,S,RI,Z,aC,hS,q,hR,hZ⟩=>{σ,S,_,Z,aC,hS,q,λds S1 vs H1 ⟨xs,ys,zs,e,hl,Jp,r1⟩ v1 s1 k1=>by subst e;obtain⟨v,u,w,rfl,ra,rb,rc⟩:=v1.thr;obtain⟨a,va,rfl,qa,ta⟩:=ra.tup;obtain⟨b,vb,rfl,qb,tb⟩:=rb.tup;obtain⟨c,vc,rfl,qc,tc⟩:=rc.tup;refine{a,b,c,rfl,{va,.of qa},{vb,.of qb},{vc,.of qc},hR _ S1 _ H1 r1 (λi S2 H2 k2 s2 _=>?_) s1 k1};have Lj:iu X.K H2 a va:=.of<|k2.t _ _ qa;have UE:iu X.K H2 b vb:=.of<|k2.t _ _ qb;have qc2:iu X.K H2 c vc:=.of<|k2.t _ _ qc;have la:va.length=xs.length:=ta.len;let f:Nat->List V:=λj=>if j=0 then va else if j=1 then vb else vc;refine{λd hd=>?_,λh=>{f,Wi Lj UE qc2,by show va.length<=i;rw[la,<-nA hl Jp];exact h}};obtain⟨x,y',z,e1,e2,e3,e4⟩:=nB hd;subst e4;obtain⟨vx,f1,g1⟩:=(RvAll.ts k2 _ ta).get e1;obtain⟨vy,f2,g2⟩:=(RvAll.ts k2 _ tb).get e2;obtain⟨vz,f3,g3⟩:=(RvAll.ts k2 _ tc).get e3;let g:Nat->V:=λj=>if j=0 then vx else if j=1 then vy else vz;have ok:∀j,j<3->iu X.K H2 (PB a b c j) (f j)/\(f j)[i]?=some (g j):=Wi ⟨Lj,f1⟩ ⟨UE,f2⟩ ⟨qc2,f3⟩;refine{⟨f,g,ok⟩,λx' H' ⟨T,hT,e4,e5⟩=>?_};have:=e5 f g ok;subst this e4;have kk:Kp X.K H2 (upd H2 T<|.tup [vx,vy,vz]):=.new hT;exact{nh aD<|RvAll.ts kk _<|aS g1<|aS g2<|aS g3 bz,kk,s2.grow hT},hZ}⟩
end
end L2
namespace My
open PySem L2
def top(i:Nat):Stmt:=PySem.Challenge.pw_pageturns_k87_whole_sieves_put_together.main.body.getD i<|.Pass {0,0,0,0}
abbrev EY:Stmt:=top 20
abbrev HK:Stmt:=top 21
abbrev EZ:Stmt:=top 22
abbrev px:Stmt:=top 29
abbrev Ba:Stmt:=top 31
abbrev uQ:Stmt:=top 34
abbrev ke:Stmt:=top 44
abbrev kJ:Stmt:=top 47
abbrev Bb:Stmt:=top 49
abbrev sL:Stmt:=top 57
abbrev xq:Stmt:=top 58
abbrev xr:Stmt:=top 62
abbrev qD:Stmt:=top 68
abbrev gz:Stmt:=top 70
abbrev gA:Stmt:=top 71
abbrev fb:Stmt:=top 72
abbrev HL:Stmt:=top 95
abbrev HM:Stmt:=top 98
abbrev Lk:Stmt:=top 101
abbrev HN:Stmt:=top 104
abbrev hG:Stmt:=top 105
abbrev qE:Stmt:=top 106
abbrev jG:Stmt:=top 107
abbrev br:Stmt:=top 88
structure iL where
 (Ll Bc nC kK E1 xt MZ lY qF uR i6 i7 hU ua lZ gB kL qG qH ub qI l4 fc aj fJ aU ee aL:Addr)
 (CV qJ gC fe E3 xu HP fK i8:FuncData)
 (l5 nD l6 qL jR xw jS l7 xx:Tok)
 ts:List Addr
 (f Bd:Nat->Addr)
 (d PH:Nat->FuncData)
structure Txt(w:World)(K:Frag)(mg:Str->Option Value)(t:iL):Prop where
 fn:EV K mg top t.f t.d [17,18,19,20,21,22,23,24,25,26,29,30,31,32,33,34,35,41,42,43,44,45,46,47,48,49,50,51,57,58,59,60,61,62,63,67,68,69,71,77,78,79,80,81,82,83,84,85,86,89,91,92,93,94,95,96,97,98,99,100,101,102,103,104,105,106,107]
 dN:EW K t.aj "Shelf." br t.Bd t.PH [0,1,2,3,4,5,6,7,8,13]
 plain:CQ K mg "plain" (top 65) ["shelf","order","sieve","moment"] t.Ll t.CV
 Rb:Binds K t.CV ["shelf","order","sieve","moment"] [.none]
 l8:CQ K mg "count_of" (top 66) ["shelf","sieve","moment"] t.Bc t.qJ
 Ln:Binds K t.qJ ["shelf","sieve","moment"] [.none]
 fg:CQ K mg "sorted_by_keys" (top 70) ["rows","way"] t.nC t.gC
 dE:CQ K mg "sorted_by_values" (top 72) ["columns","part","rows"] t.kK t.fe
 uS:CQ K mg "page_on" (top 75) ["shelf","order","sieve","size","gap","moment"] t.E1 t.E3
 nE:CQ K mg "page_back" (top 76) ["shelf","order","sieve","size","gap","moment"] t.xt t.xu
 Y3:CQ K mg "law" (top 108) ["_law_script"] t.MZ t.HP
 cO:MY K t.aj "worths_at" "Shelf.worths_at" (inClass br 9) ["self","key","moment"] t.lY t.fK
 eB:Binds K t.fK ["self","key","moment"] [.none]
 hX:MY K t.aj "all_at" "Shelf.all_at" (inClass br 10) ["self","moment"] t.qF t.i8
 E6:Binds K t.i8 ["self","moment"] [.none]
 kM:mg "MOST_NAME_SIGNS"= some (.int 8 t.l5)
 l9:mg "MOST_KEY_SIGNS"= some (.int 12 t.nD)
 kN:mg "MOST_WORD_SIGNS"= some (.int 40 t.l6)
 pz:mg "MOST_COLUMNS"= some (.int 8 t.qL)
 i9:mg "MOST_PARTS_orders"= some (.int 8 t.jR)
 uT:mg "MOST_DEEP"= some (.int 8 t.xw)
 i_:mg "MOST_PARTS_sieves"= some (.int 200 t.jS)
 kO:mg "MOST_IN_A_TUPLE"= some (.int 8 t.l7)
 uU:mg "MOST_ROWS"= some (.int 1000 t.xx)
 HQ:mg "KINDS"= some (.ref t.uR)
 HR:∀H,Rv K H (.kt [.str "number",.str "word"])<|.ref t.uR
 uV:mg "OTHER_WAY"= some (.ref t.i6)
 xy:Jq w K t.i6 [("up",.str "down"),("down",.str "up")]
 uW:mg "OTHER_END"= some (.ref t.i7)
 xA:Jq w K t.i7 [("first",.str "last"),("last",.str "first")]
 sM:mg "OTHER_SIDE"= some (.ref t.hU)
 uX:Jq w K t.hU [("ahead",.str "behind"),("behind",.str "ahead")]
 Be:mg "LENGTHS"= some (.ref t.ua)
 E7:Jq w K t.ua [("every",.int 1),("is",.int 3),("below",.int 3),("above",.int 3),("begins",.int 3),("key",.int 2),("not",.int 2),("and",.int 2),("or",.int 2)]
 aV:mg "len"= none
 kf:mg "all"= none
 UG:mg "any"= none
 az:mg "isinstance"= none
 eG:mg "range"= none
 HS:mg "int"= none
 l_:mg "str"= none
 PJ:mg "bool"= none
 bt:mg "tuple"= none
 PK:mg "list"= none
 HU:mg "dict"= none
 M0:mg "set"= none
 HV:mg "zip"= none
 ja:mg "sorted"= none
 UH:mg "min"= none
 M4:mg "max"= none
 qM:mg "reversed"= none
 gb:mg "BadColumns"= some (.ref t.lZ)
 cZ:excIn K t.lZ L2.ng "ValueError.__new__"= true
 jH:mg "BadRow"= some (.ref t.gB)
 gD:excIn K t.gB L2.ng "ValueError.__new__"= true
 dP:mg "BadOrder"= some (.ref t.kL)
 cQ:excIn K t.kL L2.ng "ValueError.__new__"= true
 oz:mg "BadSieve"= some (.ref t.qG)
 h_:excIn K t.qG L2.ng "ValueError.__new__"= true
 dQ:mg "BadPlace"= some (.ref t.qH)
 cR:excIn K t.qH L2.ng "ValueError.__new__"= true
 Bf:mg "BadSize"= some (.ref t.ub)
 nF:excIn K t.ub L2.ng "ValueError.__new__"= true
 E8:mg "HasKey"= some (.ref t.qI)
 qN:excIn K t.qI L2.ng "ValueError.__new__"= true
 HW:mg "NoKey"= some (.ref t.l4)
 uY:excIn K t.l4 L2.ng "ValueError.__new__"= true
 xB:mg "NoMoment"= some (.ref t.fc)
 kP:excIn K t.fc L2.ng "ValueError.__new__"= true
 HX:mg "Shelf"= some (.ref t.aj)
 ak:p7 K t.aj
 HY:Mk K t.aj (t.Bd 0)
 cE:findIn K (.ref t.aj) "columns"= some none
 cy:findIn K (.ref t.aj) "deeds"= some none
 bM:findIn K (.ref t.aj) "runs"= some none
 fL:t.gC.code=.ref t.fJ
 c0:codeHdIn K t.fJ t.aU=true
 ma:t.aU∈t.ts
 eC:t.fe.code=.ref t.ee
 cL:codeHdIn K t.ee t.aL=true
 jT:t.aL∈t.ts
 np:[t.aU,t.aL].Nodup
 ta:∀b∈t.ts,b=t.aU\/b=t.aL
 bl:∀(s:Shared)(u:Value),BindsTo s t.HP {[u],[]} [("_law_script",u)]
section
variable{w:World}{K:Frag}{mg:Str->Option Value}{t:iL}(T:Txt w K mg t)
def Txt.jb:=T.fn 17<|by decide
def Txt.gE:=T.fn 18<|by decide
def Txt.nG:=T.fn 19<|by decide
def Txt.pR:=T.fn 20<|by decide
def Txt.kQ:=T.fn 21<|by decide
def Txt.uZ:=T.fn 22<|by decide
def Txt.u0:=T.fn 23<|by decide
def Txt.jc:=T.fn 24<|by decide
def Txt.compared:=T.fn 25<|by decide
def Txt.cS:=T.fn 26<|by decide
def Txt.gf:=T.fn 29<|by decide
def Txt.nH:=T.fn 30<|by decide
def Txt.me:=T.fn 31<|by decide
def Txt.dF:=T.fn 32<|by decide
def Txt.jI:=T.fn 33<|by decide
def Txt.kR:=T.fn 34<|by decide
def Txt.bZ:=T.fn 35<|by decide
def Txt.u1:=T.fn 41<|by decide
def Txt.Bh:=T.fn 42<|by decide
def Txt.u3:=T.fn 43<|by decide
def Txt.fM:=T.fn 44<|by decide
def Txt.u4:=T.fn 45<|by decide
def Txt.jd:=T.fn 46<|by decide
def Txt.dG:=T.fn 47<|by decide
def Txt.nI:=T.fn 48<|by decide
def Txt.gF:=T.fn 49<|by decide
def Txt.dX:=T.fn 50<|by decide
def Txt.mf:=T.fn 51<|by decide
def Txt.dR:=T.fn 57<|by decide
def Txt.nJ:=T.fn 58<|by decide
def Txt.c_:=T.fn 59<|by decide
def Txt.je:=T.fn 60<|by decide
def Txt.gk:=T.fn 61<|by decide
def Txt.passes:=T.fn 62<|by decide
def Txt.ia:=T.fn 63<|by decide
def Txt.cz:=T.fn 67<|by decide
def Txt.eI:=T.fn 68<|by decide
def Txt.qO:=T.fn 69<|by decide
def Txt.fh:=T.fn 71<|by decide
def Txt.kT:=T.fn 77<|by decide
def Txt.ib:=T.fn 78<|by decide
def Txt.nK:=T.fn 79<|by decide
def Txt.kU:=T.fn 80<|by decide
def Txt.eJ:=T.fn 81<|by decide
def Txt.ic:=T.fn 82<|by decide
def Txt.kW:=T.fn 83<|by decide
def Txt.jf:=T.fn 84<|by decide
def Txt.fN:=T.fn 85<|by decide
def Txt.u5:=T.fn 86<|by decide
def Txt.fO:=T.fn 89<|by decide
def Txt.u6:=T.fn 91<|by decide
def Txt.aB:=T.fn 92<|by decide
def Txt.nL:=T.fn 93<|by decide
def Txt.qP:=T.fn 94<|by decide
def Txt.Bi:=T.fn 95<|by decide
def Txt.mh:=T.fn 96<|by decide
def Txt.xC:=T.fn 97<|by decide
def Txt.Bj:=T.fn 98<|by decide
def Txt.ie:=T.fn 99<|by decide
def Txt.u7:=T.fn 100<|by decide
def Txt.HZ:=T.fn 101<|by decide
def Txt.u9:=T.fn 102<|by decide
def Txt.kX:=T.fn 103<|by decide
def Txt.u_:=T.fn 104<|by decide
def Txt.qQ:=T.fn 105<|by decide
def Txt.eK:=T.fn 106<|by decide
def Txt.vd:=T.fn 107<|by decide
def Txt.fi:=T.dN 0<|by decide
def Txt.nM:=T.dN 1<|by decide
def Txt.ig:=T.dN 2<|by decide
def Txt.kY:=T.dN 3<|by decide
def Txt.bU:=T.dN 4<|by decide
def Txt.bJ:=T.dN 5<|by decide
def Txt.bV:=T.dN 6<|by decide
def Txt.aE:=T.dN 7<|by decide
def Txt.dH:=T.dN 8<|by decide
def Txt.bW:=T.dN 13<|by decide
end
def xD:=bN<|top 17
def ve:=bN<|top 18
def vf:=bN<|top 19
def Bk:=bN<|top 20
def E9:=bN<|top 21
def Bl:=bN<|top 22
def Bn:=bN<|top 23
def xE:=bN<|top 24
def oA:=bN<|top 25
def dw:=bN<|top 26
def nN:=bN<|top 29
def vg:=bN<|top 30
def xG:=bN<|top 31
def sN:=bN<|top 32
def vh:=bN<|top 33
def sO:=bN<|top 34
def xH:=bN<|top 35
def E_:=bN<|top 41
def Fc:=bN<|top 42
def Bo:=bN<|top 43
def fj:=bN<|top 44
def Bp:=bN<|top 45
def qR:=bN<|top 46
def jU:=bN<|top 47
def vi:=bN<|top 48
def oB:=bN<|top 49
def bD:=bN<|top 50
def oE:=bN<|top 51
def bE:=bN<|top 57
def vj:=bN<|top 58
def mi:=bN<|top 59
def jg:=bN<|top 60
def dI:=bN<|top 61
def uc:=bN<|top 62
def pB:=bN<|top 63
def H9:=bN<|top 65
def xI:=bN<|top 66
def mj:=bN<|top 67
def iB:=bN<|top 68
def fP:=bN<|top 69
def mm:=bN<|top 70
def cq:=bN<|top 71
def jV:=bN<|top 72
def Bq:=bN<|top 75
def vk:=bN<|top 76
def kh:=bN<|top 77
def iC:=bN<|top 78
def vm:=bN<|top 79
def sP:=bN<|top 80
def pC:=bN<|top 81
def sQ:=bN<|top 82
def sR:=bN<|top 83
def qS:=bN<|top 84
def bS:=bN<|top 85
def qU:=bN<|top 86
def jh:=bN<|top 89
def nO:=bN<|top 91
def jJ:=bN<|top 92
def de:=bN<|top 93
def oF:=bN<|top 94
def nQ:=bN<|top 95
def Br:=bN<|top 96
def xJ:=bN<|top 97
def gG:=bN<|top 98
def fk:=bN<|top 99
def dJ:=bN<|top 100
def qW:=bN<|top 101
def Bs:=bN<|top 102
def sS:=bN<|top 103
def nR:=bN<|top 104
def xK:=bN<|top 105
def b0:=bN<|top 106
def bb:=bN<|top 107
def df:=bN<|top 108
def mn:=bN<|inClass br 0
def vn:=bN<|inClass br 1
def pE:=bN<|inClass br 2
def sT:=bN<|inClass br 3
def iM:=bN<|inClass br 4
def gH:=bN<|inClass br 5
def dy:=bN<|inClass br 6
def ji:=bN<|inClass br 7
def vo:=bN<|inClass br 8
def fm:=bN<|inClass br 9
def dY:=bN<|inClass br 10
def iN:=bN<|inClass br 13
theorem sm(h:n<=1000):n<=sizeLine:=yD<|jC h
theorem vp:0<=sizeLine:=sm<|by decide
theorem pF:1<=sizeLine:=sm<|by decide
theorem bI:2<=sizeLine:=sm<|by decide
theorem mq:3<=sizeLine:=sm<|by decide
theorem mr:4<=sizeLine:=sm<|by decide
theorem Y4:8<=sizeLine:=sm<|by decide
theorem M5:12<=sizeLine:=sm<|by decide
theorem UI:15<=sizeLine:=sm<|by decide
abbrev FnD(P:Program)(w:World)(K:Frag)(mg:Str->Option Value)(base:Heap)(k:Nat)(f:Addr)(fd:FuncData)(ps:List Str)(sp:jE):Prop:=bG P w K mg base (eU P w mg) k f fd ps<|ph K sp
def Gt(S:aw)(d:D):Prop:=(∃k,O3 S d k)/\∀z,d=.str z->z.cps.size<=1000
noncomputable def isLet(c:Nat):Bool:=decide (97<=c)&&decide (c<=122)
noncomputable def CW(c:Nat):Bool:=decide (48<=c)&&decide (c<=57)
noncomputable def xM(c:Nat):Bool:=decide (32<=c)&&decide (c<=126)
noncomputable def ki(z:Str):Bool:=decide (1<=z.cps.size)&&decide (z.cps.size<=8)&&z.cps.toList.all isLet
noncomputable def jW(z:Str):Bool:=decide (1<=z.cps.size)&&decide (z.cps.size<=12)&&(z.cps.toList.head?.any isLet)&&z.cps.toList.all λc=>isLet c||CW c
noncomputable def jj(z:Str):Bool:=decide (z.cps.size<=40)&&z.cps.toList.all xM
noncomputable def ofStr(f:Str->Bool):D->Bool|.str z=>f z|_=>false
noncomputable def qX:D->Bool|.int _=>true|_=>false
noncomputable def iO(kind:Str)(d:D):Bool:=ah d||if kind ="number" then qX d else ofStr jj d
def Lo(f:D->Bool):jE:=λds S R _=>∃d,ds=[d]/\Gt S d/\R (.bl<|f d) S
def H_(f:Nat->Bool):jE:=λds S R _=>∃c,ds=[.str ⟨#[c]⟩]/\R (.bl<|f c) S
theorem oG:∀{xs ys:List D}{a b:D},Paired rel xs ys->rel a b->Paired rel (xs++[a]) (ys++[b])|_,_,_,_,.nil,r=>.cons r .nil|_,_,_,_,.cons q t,r=>.cons q<|oG t r
theorem take_snoc{α:Type}{l:List α}{i:Nat}{d:α}(h:l[i]?=some d):l.take (i+1)=l.take i++[d]:=by rw[List.take_add_one,h];rfl
theorem fq{I:uJ}{S1:aw}{g:wZ}{te:TD}{σ:SD}{src:List<|Option Nat}{R:KD}(rel:D->D->Prop)(aM:I.ok S1)(hz:I.xs.length<=1000) (step:∀d,d∈I.xs->∀Q:KD,(∀v,rel d v->Q v S1)->g d (lU σ src) S1 λeM S3=>te eM S3 Q Zf) (fin:∀out,Paired rel I.xs out->∀p,S1 p=none->R (.ref p) (S1.set p<|.lst out)): w5 σ src g lV te R I S1:=by
 refine{λi out S=>S=S1/\Paired rel (I.xs.take i) out,{rfl,.nil},λi out S h=>by rw[h.1];exact aM,?_,?_};rintro i d out S hd ⟨rfl,hp⟩;have hlen:=yT hp;rw[yy]at hlen;refine{jC<|by lia,?_};have e:(λ(eM:SD)(S3:aw)=>lV eM S3 (λb S4=>if b=true then te eM S4 (λv S5=>S5=S/\Paired rel (I.xs.take<|i+1) (out++[v])) Zf else S4=S/\Paired rel (I.xs.take<|i+1) out) Zf)=λeM S3=>te eM S3 (λv S5=>S5=S/\Paired rel (I.xs.take<|i+1) (out++[v])) Zf:=by funext eM S3;simp[lV]
 rw[e];exact step d (zG hd) _ λv hv=>{rfl,by rw[take_snoc hd];exact oG hp hv};rintro out S2 ⟨rfl,hp⟩;rw[yJ]at hp;exact fin out hp
theorem qY:∀{xs out:List D},Paired (λd v=>v=f d) xs out->out=xs.map f|_,_,.nil=>rfl|_,_,.cons r t=>by rw[r,qY t];rfl
theorem comp_map(f:D->D)(aM:I.ok S1)(hz:I.xs.length<=1000) (step:∀d,d∈I.xs->∀Q:KD,Q (f d) S1->g d (lU σ src) S1 λeM S3=>te eM S3 Q Zf) (fin:∀p,S1 p=none->R (.ref p) (S1.set p<|.lst<|I.xs.map f)): w5 σ src g lV te R I S1:=fq (λd v=>v=f d) aM hz (λd hd Q h=>step d hd Q<|h _ rfl) λout hp p Rf=>by rw[qY hp];exact fin p Rf
theorem cg{I:uJ}{S1:aw}{g:wZ}{tc:j8}{te:TD}{σ:SD}{src:List<|Option Nat}{R:KD}(keep:D->Bool)(f:D->D)(aM:I.ok S1)(hz:I.xs.length<=1000) (step:∀d,d∈I.xs->∀(Q:KD)(Q':aw->Prop),(keep d=true->Q (f d) S1)->(keep d=false->Q' S1)->g d (lU σ src) S1 λeM S3=>tc eM S3 (λb S4=>if b=true then te eM S4 Q Zf else Q' S4) Zf) (fin:∀p,S1 p=none->R (.ref p) (S1.set p<|.lst<|(I.xs.filter keep).map f)): w5 σ src g tc te R I S1:=by refine{λi out S=>S=S1/\out=((I.xs.take i).filter keep).map f,⟨rfl,rfl⟩,λi out S h=>by rw[h.1];exact aM,?_,?_};rintro i d out S hd ⟨rfl,rfl⟩;have hlen:((I.xs.take i).filter keep).length<=(I.xs.take i).length:=List.length_filter_le _ _;rw[yy]at hlen;refine{by rw[zb];exact jC<|by lia,?_};refine step d (zG hd) _ (λS4=>S4=S/\_=_) (λhk=>{rfl,?_}) λhk=>{rfl,?_};rw[take_snoc hd,List.filter_append,zL,yz,if_pos hk];rfl;rw[take_snoc hd,List.filter_append,yz,if_neg<|by rw[hk];exact zd];simp;rintro out S2 ⟨rfl,rfl⟩;rw[yJ];exact fin
variable{P:Program}{w:World}{K:Frag}{mg:Str->Option Value}{base:Heap}{t:iL}
theorem jk(T:Txt w K mg t):Ok P w base T.jb 1 (Lo qX):=by
 refine T.jb.F.b_ xD ?_;rintro _ _ _ _ _ _ _ S R Z hr ⟨d,e,⟨⟨k,hk⟩,hz⟩,q⟩;subst e;refine{_,(s1<|sr<|sF (cb cH T.az av<|ac (dv 0)<|ac (rY T.HS AD) an)<|Jr<|OY<|cb cH T.az av<|ac (dv 0)<|ac (rY T.PJ Kf) an),?_};refine !{_,_,_,_,rfl,Kh,hk,_,rfl,?_};have:(AE k=true/\((qX d=true/\uD k=false)\/(qX d=false/\uD k=true)))\/(AE k=false/\qX d=false):=by cases d with|ax=>(cases hk;exact .inr ⟨rfl,rfl⟩)|bl b=>(cases hk;exact .inl {rfl,.inr ⟨rfl,rfl⟩})|int b=>(cases hk;exact .inl {rfl,.inl ⟨rfl,rfl⟩})|str b=>(cases hk;exact .inr ⟨rfl,rfl⟩)|tup b=>(cases hk;exact .inr ⟨rfl,rfl⟩)|ref a=>(rcases hk with⟨rfl,_⟩|⟨rfl,_⟩<;>exact .inr ⟨rfl,rfl⟩)|_=>exact hk.elim
 rcases this with⟨h1,h2⟩|⟨h1,h2⟩;rw[h1];refine du !{_,_,_,_,rfl,GU,hk,_,rfl,?_};rcases h2 with⟨h2,h3⟩|⟨h2,h3⟩<;>(rw[h3];rw[h2]at q;exact fo q);rw[h1];rw[h2]at q;exact bh<|fo q
theorem ij(T:Txt w K mg t):Ok P w base T.gE 1 (H_ isLet):=by refine T.gE.F.b_ ve ?_;rintro _ _ _ _ _ _ _ S R Z hr ⟨c,e,q⟩;subst e;refine{_,(s1<|sr<|cc iY iY hr.u ds (dv 0) ds),?_};refine !!⟨?_⟩;have e1:FQ "a" ⟨#[c]⟩=decide (97<=c):=jD 97 c;have e2:FQ ⟨#[c]⟩ "z"= decide (c<=122):=jD c 122;unfold isLet at q;refine bP (λh=>?_) λh=>?_;rw[e1.symm.trans h,yc,<-e2]at q;exact fo q;rw[e1.symm.trans h,zU]at q;exact fo q
theorem vq(T:Txt w K mg t):Ok P w base T.nG 1 (H_ CW):=by refine T.nG.F.b_ vf ?_;rintro _ _ _ _ _ _ _ S R Z hr ⟨c,e,q⟩;subst e;refine{_,(s1<|sr<|cc iY iY hr.u ds (dv 0) ds),?_};refine !!⟨?_⟩;have e1:FQ "0" ⟨#[c]⟩=decide (48<=c):=jD 48 c;have e2:FQ ⟨#[c]⟩ "9"= decide (c<=57):=jD c 57;unfold CW at q;refine bP (λh=>?_) λh=>?_;rw[e1.symm.trans h,yc,<-e2]at q;exact fo q;rw[e1.symm.trans h,zU]at q;exact fo q
theorem Fd(h:d∈eX z):∃c,c∈z.cps.toList/\d=.str ⟨#[c]⟩:=by unfold eX at h;obtain⟨c,hc,e⟩:=zf.mp h;exact⟨c,hc,e.symm⟩
noncomputable def CY(f:Nat->Bool):D->D|.str z=>.bl (z.cps.toList.head?.any f)|_=>.ax
theorem Fe:(eX z).map (CY f)=(z.cps.toList.map f).map D.bl:=by unfold eX;rw[zD,zD];rfl
theorem all_map{α:Type}{l:List α}{f:α->Bool} : (l.map f).all id=l.all f:=by rw[List.all_map];rfl
theorem nS{z:Str}{f:Nat->Bool}{g:wZ}{te:TD}{σ:SD}{src:List<|Option Nat}{S:aw}{R:KD}{Z:KX}{i:Nat}(hv:σ[i]?=some (some<|.str z))(hz:z.cps.size<=1000) (step:∀c,c∈z.cps.toList->∀Q:KD,Q (.bl<|f c) S->g (.str ⟨#[c]⟩) (lU σ src) S λeM S3=>te eM S3 Q Zf) (q:R (.bl<|z.cps.toList.all f) S): VR Tf (MC (w6 (MO<|SJ i) src g lV te) KL) σ S (λd S'=>Fo S'<|R d) Z:=by refine{_,hv,z,rfl,?_};refine My.comp_map (I:={eX z,λ_=>True}) (CY f) trivial (by show(eX z).length<=1000;unfold eX;rw[zb,yn];exact hz) (λd hd Q hQ=>?_) λp hp=>?_;obtain⟨c,hc,rfl⟩:=Fd hd;exact step c hc Q (by simpa [CY]using hQ);refine{.ref p,z.cps.toList.map f,rfl,?_,S,.new hp,?_};show(S.set p<|.lst<|(eX z).map<|CY f) p=_;rw[aa,Fe];rw[all_map];exact q
theorem Bt{S:aw}{d:D}{k:Kd}(hk:O3 S d k):(∃z,d=.str z/\AF k=true)\/(AF k=false/\∀f,ofStr f d=false):=by cases d with|str b=>(cases hk;exact .inl ⟨b,rfl,rfl⟩)|ax=>(cases hk;exact .inr {rfl,λ_=>rfl})|bl b=>(cases hk;exact .inr {rfl,λ_=>rfl})|int b=>(cases hk;exact .inr {rfl,λ_=>rfl})|tup b=>(cases hk;exact .inr {rfl,λ_=>rfl})|ref a=>(rcases hk with⟨rfl,_⟩|⟨rfl,_⟩<;>exact .inr {rfl,λ_=>rfl})|_=>exact hk.elim
theorem PL{S:aw}{d:D}{k:Kd}(hk:O3 S d k):(∃ds,d=.tup ds/\qm k=true)\/(qm k=false/\∀ds,d≠.tup ds):=by cases d with|tup b=>(cases hk;exact .inl ⟨b,rfl,rfl⟩)|ax=>(cases hk;exact .inr {rfl,λ_=>nofun})|bl b=>(cases hk;exact .inr {rfl,λ_=>nofun})|int b=>(cases hk;exact .inr {rfl,λ_=>nofun})|str b=>(cases hk;exact .inr {rfl,λ_=>nofun})|ref a=>(rcases hk with⟨rfl,_⟩|⟨rfl,_⟩<;>exact .inr {rfl,λ_=>nofun})|_=>exact hk.elim
theorem qZ(T:Txt w K mg t):Ok P w base T.pR 2 (Lo<|ofStr ki):=by
 refine T.pR.F.b_ Bk ?_;rintro _ _ _ _ _ _ _ S R Z hr ⟨d,e,⟨⟨k,hk⟩,hz⟩,q⟩;subst e;refine{_,(sc (si (twd<|twor (bY<|tv<|cb cH T.az av<|ac (dv 0)<|ac (rY T.l_ gU) an)<|tw1<|bY<|VQ iY iY hr.u di (cb aZ T.aV aI<|ac (dv 0) an)<|dg (v:=.int 8) T.kM {_,rfl} λ_=>aO _) (s1<|sr db) s0)<|s1<|sr<|cb j_ T.kf fZ<|ac (sI (N:=["sign"]) (src:=[none]) (j7 (ag EY) ["thing"] rfl rfl<|by trivial) (Pd<|dv 0) (pj<|show(["sign"]:List Str).Nodup by trivial) (aR rfl) aT (λ_ _ _ _ _=>sH) λ_ _ _ _ _=>(aH T.gE (ij T) hr<|ac (dv 0) an)) an),?_};refine !{_,_,_,_,rfl,cD,hk,_,rfl,?_};rcases Bt hk with⟨z,rfl,h0⟩|⟨h0,h1⟩;have hz:=hz z rfl;rw[h0];refine bh ?_;refine !!⟨{sm hz,?_}⟩;refine{_,rfl,?_};have e1:decide ((1:Int)<=(z.length:Nat))=decide (1<=z.cps.size):=by rw[yL];show(1:Int)<=((z.cps.size:Nat):Int)↔_;omega
 have e2:decide (((z.length:Nat):Int)<=8)=decide (z.cps.size<=8):=by rw[yL];show((z.cps.size:Nat):Int)<=8↔_;omega
 unfold ofStr ki at q;dsimp only at q;refine bP (λh2=>?_) λh2=>?_;rw[e1.symm.trans h2,yc]at q;refine{_,rfl,?_};refine bP (λh3=>?_) λh3=>?_;rw[e2.symm.trans<|nt h3,zU]at q;exact fo q;rw[e2.symm.trans<|nf h3,yc]at q;exact nS rfl hz (λc hc Q hQ=>!⟨c,rfl,hQ⟩) q;rw[e1.symm.trans h2,zU,zU]at q;refine{_,rfl,?_};exact du<|fo q;rw[h0];rw[h1]at q;exact du<|du<|fo q
def aA(c:Str×Str):D:=.tup [.str c.1,.str c.2]
def Gd(cs:List<|Str×Str):Prop:=cs.length<=8/\(cs.map Prod.fst).Nodup/\∀c∈cs,ki c.1=true/\(c.2 ="number"\/c.2 ="word")
noncomputable def mw(cs:List<|Str×Str):D->Bool|.tup ws=>decide (ws.length=cs.length)&&(List.zipWith (λc v=>iO c.2 v) cs ws).all id|_=>false
noncomputable def nU(cs:List<|Str×Str)(k v:D):Bool:=ofStr jW k&&mw cs v
def Rh(S:aw)(d:D):Prop:=Gt S d/\∀ws,d=.tup ws->ws.length<=1000/\∀v∈ws,Gt S v
theorem gI(T:Txt w K mg t):Ok P w base T.kQ 2 (Lo<|ofStr jW):=by
 refine T.kQ.F.b_ E9 ?_;rintro _ _ _ _ _ _ _ S R Z hr ⟨d,e,⟨⟨k,hk⟩,hz⟩,q⟩;subst e;refine{_,(sc (si (twd<|twor (bY<|tv<|cb cH T.az av<|ac (dv 0)<|ac (rY T.l_ gU) an)<|tw1<|bY<|VQ iY iY hr.u di (cb aZ T.aV aI<|ac (dv 0) an)<|dg (v:=.int 12) T.l9 {_,rfl} λ_=>aO _) (s1<|sr db) s0)<|sc (si (bY<|tv<|aH T.gE (ij T) hr<|ac (ix hr.u (dv 0) di) an) (s1<|sr db) s0)<|s1<|sr<|cb j_ T.kf fZ<|ac (sI (N:=["sign"]) (src:=[none]) (j7 (ag HK) ["thing"] rfl rfl<|by trivial) (Pd<|dv 0) (pj<|show(["sign"]:List Str).Nodup by trivial) (aR rfl) aT (λ_ _ _ _ _=>sH) λ_ _ _ _ _=>(eor (aH T.gE (ij T) hr<|ac (dv 0) an)<|Jr<|aH T.nG (vq T) hr<|ac (dv 0) an)) an),?_};refine !{_,_,_,_,rfl,cD,hk,_,rfl,?_};rcases Bt hk with⟨z,rfl,h0⟩|⟨h0,h1⟩;have hz:=hz z rfl;rw[h0];refine bh ?_;refine !!⟨{sm hz,?_}⟩;refine{_,rfl,?_};have e1:decide ((1:Int)<=(z.length:Nat))=decide (1<=z.cps.size):=by rw[yL];show(1:Int)<=((z.cps.size:Nat):Int)↔_;omega
 have e2:decide (((z.length:Nat):Int)<=12)=decide (z.cps.size<=12):=by rw[yL];show((z.cps.size:Nat):Int)<=12↔_;omega
 unfold ofStr jW at q;dsimp only at q;refine bP (λh2=>?_) λh2=>?_;have XJ:=e1.symm.trans h2;rw[XJ,yc]at q;refine{_,rfl,?_};refine bP (λh3=>?_) λh3=>?_;rw[e2.symm.trans<|nt h3,zU,zU]at q;exact fo q;rw[e2.symm.trans<|nf h3,yc]at q;obtain⟨c,r,ec⟩:=len_pos (z:=z)<|zB XJ;have eh:z.cps.toList.head?.any isLet=isLet c:=by rw[ec];rfl
 rw[eh]at q;refine !{c,sm hz,at0 ec,c,rfl,_,rfl,?_};refine bP (λh4=>?_) λh4=>?_;rw[nt h4,zU]at q;exact fo q;rw[nf h4,yc]at q;refine nS (f:=λc=>isLet c||CW c) rfl hz (λc hc Q hQ=>?_) q;refine !{c,rfl,_,rfl,?_};refine bP (λh5=>?_) λh5=>?_;rw[h5,Bool.true_or]at hQ;exact hQ;rw[h5,yU]at hQ;exact{_,rfl,c,rfl,hQ};rw[e1.symm.trans h2,zU,zU,zU]at q;refine{_,rfl,?_};exact du<|fo q;rw[h0];rw[h1]at q;exact du<|du<|fo q
theorem Bu(T:Txt w K mg t):Ok P w base T.uZ 2 (Lo<|ofStr jj):=by
 refine T.uZ.F.b_ Bl ?_;rintro _ _ _ _ _ _ _ S R Z hr ⟨d,e,⟨⟨k,hk⟩,hz⟩,q⟩;subst e;refine{_,(sc (si (twd<|twor (bY<|tv<|cb cH T.az av<|ac (dv 0)<|ac (rY T.l_ gU) an)<|tw1<|bq sG hr.u (cb aZ T.aV aI<|ac (dv 0) an)<|dg (v:=.int 40) T.kN {_,rfl} λ_=>aO _) (s1<|sr db) s0)<|s1<|sr<|cb j_ T.kf fZ<|ac (sI (N:=["sign"]) (src:=[none]) (j7 (ag EZ) ["thing"] rfl rfl<|by trivial) (Pd<|dv 0) (pj<|show(["sign"]:List Str).Nodup by trivial) (aR rfl) aT (λ_ _ _ _ _=>sH) λ_ _ _ _ _=>(cc iY iY hr.u ds (dv 0) ds)) an),?_};refine !{_,_,_,_,rfl,cD,hk,_,rfl,?_};rcases Bt hk with⟨z,rfl,h0⟩|⟨h0,h1⟩;have hz:=hz z rfl;rw[h0];refine bh ?_;refine !!⟨{sm hz,?_}⟩;refine{_,rfl,?_};have e2:decide ((40:Int)<((z.length:Nat):Int))=!decide (z.cps.size<=40):=by rw[yk];simp only[decide_eq_true_iff,Bool.not_eq_true',decide_eq_false_iff_not];show(40:Int)<((z.cps.size:Nat):Int)↔_;omega
 unfold ofStr jj at q;dsimp only at q;refine bP (λh3=>?_) λh3=>?_;rw[nt<|e2.symm.trans h3,zU]at q;exact fo q;rw[nf<|e2.symm.trans h3,yc]at q;refine nS (f:=xM) rfl hz (λc hc Q hQ=>?_) q;refine !!⟨?_⟩;have e3:FQ " " ⟨#[c]⟩=decide (32<=c):=jD 32 c;have e4:FQ ⟨#[c]⟩ "~"= decide (c<=126):=jD c 126;unfold xM at hQ;refine bP (λh=>?_) λh=>?_;rw[e3.symm.trans h,yc,<-e4]at hQ;exact hQ;rw[e3.symm.trans h,zU]at hQ;exact hQ;rw[h0];rw[h1]at q;exact du<|du<|fo q
inductive q8 (ds:List D) (S:aw) (R:KD) (Z:KX):Prop where
 |mk (kind d) (h0:ds=[.str kind,d]) (h1:Gt S d) (h2:R (.bl<|iO kind d) S):q8 ds S R Z
theorem jl(T:Txt w K mg t):Ok P w base T.jc 3 q8:=by refine T.jc.F.b_ xE ?_;rintro _ _ _ _ _ _ _ S R Z hr ⟨kind,d,e,hd,q⟩;subst e;refine{_,(sc (si (bq jQ hr.u (dv 1) dn) (s1<|sr db) s0)<|sc (si (bq bH hr.u (dv 0) ds) (s1<|sr<|aH T.jb (jk T) hr<|ac (dv 1) an) s0)<|s1<|sr<|aH T.uZ (Bu T) hr<|ac (dv 1) an),?_};refine !!⟨?_⟩;unfold iO at q;refine bP (λh=>?_) λh=>?_;rw[h,Bool.true_or]at q;exact fo q;rw[h,yU]at q;refine !!⟨?_⟩;refine bP (λh=>?_) λh=>?_;rw[if_pos<|zB h]at q;exact !{d,rfl,hd,fo q};rw[if_neg<|zP h]at q;exact !{d,rfl,hd,fo q}
theorem gt_str(h:z.cps.size<=1000):Gt S (.str z):={{.str,rfl},λy e=>by cases e;exact h}
theorem nV(h:ki z=true):z.cps.size<=1000:=by unfold ki at h;simp only[zK,zX]at h;lia
theorem Ff(h:∀c v,f (.tup [aA c,v])=.bl (iO c.2 v)):(ck (cs.map aA) ws).map f=(List.zipWith (λc v=>iO c.2 v) cs ws).map D.bl:=by unfold ck;induction cs generalizing ws with|nil=>(cases ws<;>rfl)|cons c cs ih=>cases ws with|nil=>rfl|cons v ws=>show f (.tup [aA c,v])::(List.zipWith _ (cs.map aA) ws).map f=.bl (iO c.2 v)::_;rw[h,ih]
noncomputable def pairF:D->D|.tup [.tup [_,.str k],v]=>.bl (iO k v)|_=>.ax
inductive ud (ds:List D) (S:aw) (R:KD) (Z:KX):Prop where
 |mk (z) (h0:ds=[.str z]) (h1:(z ="number"\/z ="word")) (h2:R (.bl true) S):ud ds S R Z
theorem Bv(T:Txt w K mg t):Ok P w base T.u0 1 ud:=by
 refine T.u0.F.b_ Bn ?_;rintro _ _ _ _ _ _ _ S R Z hr ⟨z,e,hz,q⟩;subst e;refine{_,(s1<|sr<|sF (cb cH T.az av<|ac (dv 0)<|ac (rY T.l_ gU) an)<|Jr<|cm G6 hr.u (dv 0)<|dg (v:=.ref t.uR) T.HQ rfl T.HR),?_};refine !{_,_,_,_,rfl,cD,rfl,_,rfl,du !{rfl,rfl,?_}};have e:Eh (lT<|.str z) ([D.str "number",D.str "word"].map lT)=true:=by rcases hz with rfl|rfl<;>decide +kernel
 show Fo S (R<|.bl<|if false=true then _ else Eh (lT<|.str z) ([D.str "number",D.str "word"].map lT));rw[if_neg zd,e];exact fo q
inductive oH (ds:List D) (S:aw) (R:KD) (Z:KX):Prop where
 |mk (c) (h0:ds=[aA c]) (h1:ki c.1=true) (h2:(c.2 ="number"\/c.2 ="word")) (h3:R (.bl true) S):oH ds S R Z
theorem vt(T:Txt w K mg t):Ok P w base T.nH 3 oH:=by refine T.nH.F.b_ vg ?_;rintro _ _ _ _ _ _ _ S R Z hr ⟨c,e,h1,h2,q⟩;subst e;refine{_,(sc (si (twd<|twor (bY<|tv<|cb cH T.az av<|ac (dv 0)<|ac (rY T.bt aW) an)<|tw1<|bq iK hr.u (cb aZ T.aV aI<|ac (dv 0) an) di) (s1<|sr db) s0)<|s1<|sr<|sF (aH T.pR (qZ T) hr<|ac (ix hr.u (dv 0) di) an)<|Jr<|aH T.u0 (Bv T) hr<|ac (ix hr.u (dv 0) di) an),?_};refine !{_,_,_,_,rfl,aX,rfl,_,rfl,?_};refine bh !!!⟨bh ?_⟩;refine !!!{gt_str<|nV h1,_,rfl,?_};show if ki c.1=true then _ else _;rw[h1];exact du !!!{h2,fo q}
inductive q9 (ds:List D) (S:aw) (R:KD) (Z:KX):Prop where
 |mk (cs:List<|Str×Str) (h0:ds=[.tup<|cs.map aA]) (h1:cs.length<=8) (h2:∀p,S p=none->R (.ref p) (S.set p<|.lst<|(cs.map Prod.fst).map D.str)):q9 ds S R Z
theorem oI(T:Txt w K mg t):Ok P w base T.me 1 q9:=by
 refine T.me.F.b_ xG ?_;rintro _ _ _ _ _ _ _ S R Z hr ⟨cs,e,hl,q⟩;subst e;refine{_,(s1<|sr<|sI (N:=["name","kind"]) (src:=[none,none]) (j7 (ag Ba) ["columns"] rfl rfl<|by trivial) (Jt<|dv 0) (VZ<|show(["name","kind"]:List Str).Nodup by trivial) (pN rfl rfl) pP (λ_ _ _ _ _=>sH) λ_ _ _ _ _=>(dv 0)),?_};refine !{_,.inl rfl,?_};refine comp_map (λd=>match d with|.tup (x::_)=>x|_=>.ax) trivial (by show(cs.map aA).length<=1000;rw[zb];lia) (λd hd Q hQ=>?_) λp hp=>?_;obtain⟨c,hc,rfl⟩:=zf.mp hd;exact !{rfl,_,_,rfl,_,_,rfl,rfl,_,rfl,hQ};have e:(cs.map aA).map (λd=>match d with|.tup (x::_)=>x|_=>.ax)=(cs.map Prod.fst).map D.str:=by rw[zD,zD];rfl
 show Fo (S.set p<|.lst<|(cs.map aA).map _) (R<|.ref p);rw[e];exact fo<|q p hp
inductive iD (ds:List D) (S:aw) (R:KD) (Z:KX):Prop where
 |mk (cs) (h0:ds=[.tup<|cs.map aA]) (h1:Gd cs) (h2:R .ax S):iD ds S R Z
theorem nW(T:Txt w K mg t):Ok P w base T.gf 4 iD:=by
 refine T.gf.F.b_ nN ?_;rintro _ _ _ _ _ _ _ S R Z hr ⟨cs,e,⟨hl,hn,hg⟩,q⟩;subst e;refine{_,(sc (si (twd<|twor (bY<|tv<|cb cH T.az av<|ac (dv 0)<|ac (rY T.bt aW) an)<|tw1<|bq sG hr.u (cb aZ T.aV aI<|ac (dv 0) an)<|dg (v:=.int 8) T.pz {_,rfl} λ_=>aO _) (s1<|qv ⟨T.cZ⟩ T.gb<|ac ds an) s0)<|sc (si (bY<|tv<|cb j_ T.kf fZ<|ac (sI (N:=["column"]) (src:=[none]) (j7 (ag px) ["columns"] rfl rfl<|by trivial) (Jt<|dv 0) (pj<|show(["column"]:List Str).Nodup by trivial) (aR rfl) aT (λ_ _ _ _ _=>sH) λ_ _ _ _ _=>(aH T.nH (vt T) hr<|ac (dv 0) an)) an) (s1<|qv ⟨T.cZ⟩ T.gb<|ac ds an) s0)<|s1<|si (bq iK hr.u (lse (aH T.me (oI T) hr<|ac (dv 0) an) T.aV T.M0)<|cb aZ T.aV aI<|ac (dv 0) an) (s1<|qv ⟨T.cZ⟩ T.gb<|ac ds an) s0),?_};refine !{_,_,_,_,rfl,aX,rfl,_,rfl,?_};have e1:decide ((8:Int)<((cs.map aA).length:Nat))=false:=zy (by rw[zb];lia);refine bh !!!⟨?_⟩;show if decide ((8:Int)<((cs.map aA).length:Nat))=true then _ else _;rw[e1];refine bh ?_;refine !{_,.inl rfl,?_};refine comp_map (λ_=>.bl true) trivial (by show(cs.map aA).length<=1000;rw[zb];lia) (λd hd Q hQ=>?_) λp hp=>?_;obtain⟨c,hc,rfl⟩:=zf.mp hd;exact !{c,rfl,(hg c hc).1,(hg c hc).2,hQ};have e2:(cs.map aA).map (λ_=>D.bl true)=(cs.map λ_=>true).map D.bl:=by rw[zD,zD];rfl
 have e3:(cs.map λ_=>true).all id=true:=by rw[all_map];exact ya.mpr λ_ _=>rfl
 refine{.ref p,cs.map λ_=>true,rfl,?_,_,rfl,?_};show(S.set p<|.lst<|(cs.map aA).map _) p=_;rw[aa,e2];rw[e3];refine bh ?_;refine !{cs,rfl,hl,λp2 lL=>?_};refine{cs.map Prod.fst,aa,by rw[zb];lia,_,rfl,_,rfl,_,rfl,?_};have e4:decide ((((iy<|cs.map Prod.fst).length:Nat):Int)=(((cs.map aA).length:Nat):Int))=true:=zx (by rw[(tT _).mpr hn,zb,zb]);show if (if true=true then !decide ((((iy<|cs.map Prod.fst).length:Nat):Int)=(((cs.map aA).length:Nat):Int)) else _)=true then _ else _;rw[if_pos rfl,e4];exact bh {S,(Sub.new hp).trans<|.new lL,q}
inductive mx (ds:List D) (S:aw) (R:KD) (Z:KX):Prop where
 |mk (cs d) (h0:ds=[.tup<|cs.map aA,d]) (h1:cs.length<=8) (h2:Rh S d) (h3:R (.bl<|mw cs d) S):mx ds S R Z
theorem sU(T:Txt w K mg t):Ok P w base T.kR 4 mx:=by
 refine T.kR.F.b_ sO ?_;rintro _ _ _ _ _ _ _ S R Z hr ⟨cs,d,e,hl,⟨⟨⟨k,hk⟩,hz⟩,hw⟩,q⟩;subst e;refine{_,(sc (si (twd<|twor (bY<|tv<|cb cH T.az av<|ac (dv 1)<|ac (rY T.bt aW) an)<|tw1<|bq iK hr.u (cb aZ T.aV aI<|ac (dv 1) an)<|cb aZ T.aV aI<|ac (dv 0) an) (s1<|sr db) s0)<|s1<|sr<|cb j_ T.kf fZ<|ac (sI (N:=["column","value"]) (src:=[none,none]) (j7 (ag uQ) ["columns","thing"] rfl rfl<|by trivial) (izn T.HV<|ac (dv 0)<|ac (dv 1) an) (VZ<|show(["column","value"]:List Str).Nodup by trivial) (pN rfl rfl) pP (λ_ _ _ _ _=>sH) λ_ _ _ _ _=>(aH T.jc (jl T) hr<|ac (ix hr.u (dv 0) di)<|ac (dv 1) an)) an),?_};refine !{_,_,_,_,rfl,aX,hk,_,rfl,?_};rcases PL hk with⟨ws,rfl,h0⟩|⟨h0,h1⟩;obtain⟨PM,A2⟩:=hw ws rfl;rw[h0];refine bh !!!!!⟨?_⟩;have e1:decide (((ws.length:Nat):Int)=(((cs.map aA).length:Nat):Int))=decide (ws.length=cs.length):=by rw[yL,zb];lia
 unfold mw at q;dsimp only at q;show if (if true=true then !decide (((ws.length:Nat):Int)=(((cs.map aA).length:Nat):Int)) else _)=true then _ else _;rw[if_pos rfl,e1];refine bP (λh=>?_) λh=>?_;rw[nt h,zU]at q;exact fo q;have h:=nf h;rw[h,yc]at q;have h:=zB h;refine !!{cs.map aA,ws,rfl,by rw[zb];exact h.symm,?_};refine comp_map pairF trivial (by show(ck (cs.map aA) ws).length<=1000;unfold ck;rw[List.length_zipWith,zb];lia) (λd hd Q hQ=>?_) λp hp=>?_;unfold ck at hd;obtain⟨i,ei⟩:=List.getElem?_of_mem hd;obtain⟨x,y,e2,e3,e4⟩:=List.getElem?_zipWith_eq_some.mp ei;subst e4;rw[zw]at e2;cases e5:cs[i]? with|none=>(rw[e5]at e2;cases e2)|some c=>rw[e5]at e2;cases e2;exact !{rfl,_,_,rfl,_,_,rfl,rfl,_,rfl,_,rfl,_,rfl,c.2,y,rfl,A2 y<|zG e3,hQ}
 refine{.ref p,List.zipWith (λc v=>iO c.2 v) cs ws,rfl,?_,S,.new hp,q};show(S.set p<|.lst<|(ck (cs.map aA) ws).map pairF) p=_;rw[aa,Ff λ_ _=>rfl];rw[h0];have e:mw cs d=false:=by cases d with|tup ws=>exact absurd rfl (h1 ws)|_=>rfl
 rw[e]at q;exact du<|du<|fo q
inductive oJ (t:iL) (ds:List D) (S:aw) (R:KD) (Z:KX):Prop where
 |mk (cs k v) (h0:ds=[.tup<|cs.map aA,.tup [k,v]]) (h1:cs.length<=8) (h2:Gt S k) (h3:Rh S v) (h4:(nU cs k v=true->R .ax S)) (h5:(nU cs k v=false->Z t.gB S)):oJ t ds S R Z
theorem my(T:Txt w K mg t):Ok P w base T.jI 5 (oJ t):=by refine T.jI.F.b_ vh ?_;rintro _ _ _ _ _ _ _ S R Z hr ⟨cs,k,v,e,hl,hk,hv,q1,q2⟩;subst e;refine{_,(sc (si (twd<|twor (bY<|tv<|cb cH T.az av<|ac (dv 1)<|ac (rY T.bt aW) an)<|tw1<|bq iK hr.u (cb aZ T.aV aI<|ac (dv 1) an) di) (s1<|qv ⟨T.gD⟩ T.jH<|ac ds an) s0)<|sc (si (bY<|tv<|aH T.kQ (gI T) hr<|ac (ix hr.u (dv 1) di) an) (s1<|qv ⟨T.gD⟩ T.jH<|ac ds an) s0)<|s1<|si (bY<|tv<|aH T.kR (sU T) hr<|ac (dv 0)<|ac (ix hr.u (dv 1) di) an) (s1<|qv ⟨T.gD⟩ T.jH<|ac ds an) s0),?_};refine !{_,_,_,_,rfl,aX,rfl,_,rfl,?_};refine bh !!!⟨bh ?_⟩;refine !!{k,rfl,hk,_,rfl,?_};unfold nU at q1 q2;refine bP (λh=>?_) λh=>?_;rw[nt h,zU]at q2;exact{sm<|by decide,fo<|q2 rfl};rw[nf h,yc]at q1 q2;refine !!!{cs,v,rfl,hl,hv,_,rfl,?_};refine bP (λh=>?_) λh=>?_;exact{sm<|by decide,fo<|q2<|nt h};exact fo<|q1<|nf h
theorem bg(h:n<=100000):n<sizeLine:=by rw[ye];lia
structure Std where
 b:Nat
 e:Option Nat
 ws:List D
def eD:Option Nat->D|none=>.ax|some n=>.int (n:Nat)
def jm(s:Std):D:=.tup [.int (s.b:Nat),eD s.e,.tup s.ws]
noncomputable def Ia:List Std->Int->D|[],_=>.ax|s::r,m=>if (s.b:Int)<=m then (match s.e with|none=>.tup s.ws|some n=>if m<=(n:Int) then .tup s.ws else .ax) else Ia r m
noncomputable def wt(l:List Std)(m:Int):D:=Ia l.reverse m
abbrev Ra:=List<|Str×Addr×List Std
abbrev pS:=List<|Str×List Std
def gJ(ra:Ra):pS:=ra.map λr=>(r.1,r.2.2)
def dh(ra:Ra):List (Key×D):=ra.map λr=>(Sum.inr r.1,D.ref r.2.1)
noncomputable def lu(rs:pS)(k:Str):Option (List Std):=(rs.find? λr=>decide<|r.1=k).map (·.2)
noncomputable def r9(ra:Ra)(k:Str):Option (Addr×List Std):=(ra.find? λr=>decide<|r.1=k).map (·.2)
noncomputable def r_(ra:Ra)(k:Str)(s:List Std):Ra:=ra.map λr=>if r.1=k then (r.1,r.2.1,s) else r
noncomputable def Bw(rs:pS)(k:Str)(s:List Std):pS:=if (lu rs k).isSome then rs.map λr=>if r.1=k then (r.1,s) else r else rs++[(k,s)]
theorem gm(ra:Ra)(k:Str):lu (gJ ra) k=(r9 ra k).map (·.2):=by unfold lu r9 gJ;induction ra with|nil=>rfl|cons r ra ih=>rw[zq,yb,yb];by_cases h:r.1=k;rw[zx h];rfl;rw[zy h];exact ih
theorem gL(ra:Ra)(k:Str):bT (dh ra) (.inr k)=(r9 ra k).map λp=>D.ref p.1:=by unfold bT r9 dh;induction ra with|nil=>rfl|cons r ra ih=>rw[zq,yb,yb];by_cases h:r.1=k;rw[zx h];have:decide ((Sum.inr r.1:Key)=.inr k)=true:=zx (by rw[h]);dsimp only;rw[this];rfl;rw[zy h];have:decide ((Sum.inr r.1:Key)=.inr k)=false:=zy λe=>h<|yM e;dsimp only;rw[this];exact ih
theorem cP(h:r9 ra k=some (l,s)):(k,l,s)∈ra:=by unfold r9 at h;cases q:ra.find? λr=>decide (r.1=k) with|none=>(rw[q]at h;cases h)|some r=>rw[q]at h;have h1:=List.find?_some q;have h2:=List.mem_of_find?_eq_some q;obtain⟨k',l',s'⟩:=r;have e:k'=k:=zB h1;cases h;rw[<-e];exact h2
theorem mz(h:r9 ra k=none):∀r∈ra,r.1≠k:=by unfold r9 at h;intro r hr e;have:=List.find?_eq_none.mp (Option.map_eq_none_iff.mp h) r hr;simp[e]at this
theorem fQ:∀{l:List α}{x y:α},(l.map f).Nodup->x∈l->y∈l->f x=f y->x=y|z::l,x,y,nd,hx,hy,e=>by rw[zq]at nd;obtain⟨n1,n2⟩:=yo.mp nd;rcases zh.mp hx with ex|Sz;rcases zh.mp hy with ey|R7;rw[ex,ey];exact absurd (zf.mpr {y,R7,by rw[<-e,ex]}) n1;rcases zh.mp hy with ey|R7;exact absurd (zf.mpr {x,Sz,by rw[e,ey]}) n1;exact fQ n2 Sz R7 e
structure Bx(C:Addr)(S:aw)(a ld lr:Addr)(cs:List (Str×Str))(dl:List D)(ra:Ra):Prop where
 ins:S a=some (.ins C [("columns",.tup<|cs.map aA),("deeds",.ref ld),("runs",.ref lr)])
 xN:S ld=some (.lst dl)
 run:S lr=some (.cU<|dh ra)
 cell:∀r∈ra,S r.2.1=some (.lst<|r.2.2.map jm)
 kn:(ra.map (·.1)).Nodup
 an:(ld::ra.map (·.2.1)).Nodup
 sz:∀r∈ra,r.2.2.length<=dl.length
def fp(a ld lr:Addr)(ra:Ra):List Addr:=a::ld::lr::ra.map (·.2.1)
def bQ(C:Addr)(S:aw)(a:Addr)(F:List Addr)(cs:List<|Str×Str)(dl:List D)(rs:pS):Prop:=∃ld lr ra,Bx C S a ld lr cs dl ra/\F=fp a ld lr ra/\rs=gJ ra
def xO(F F':List Addr)(S S':aw):Prop:=∀b c,b∉F->S b=some c->b∉F'/\S' b=some c
theorem xO.trans(a:xO F F1 S S1)(b:xO F1 F2 S1 S2):xO F F2 S S2:=λp c h e=>by obtain⟨h1,e1⟩:=a p c h e;exact b p c h1 e1
section
variable{C a ld lr:Addr}{S:aw}{cs:List (Str×Str)}{dl:List D}{ra:Ra}
theorem Bx.By(h:Bx C S a ld lr cs dl ra){l:Addr}{ds:List D}(e:S l=some (.lst ds)):l≠a/\l≠lr:=by constructor;rintro rfl;rw[h.ins]at e;cases e;rintro rfl;rw[h.run]at e;cases e
theorem Bx.put(h:Bx C S a ld lr cs dl ra)(hk:r9 ra k=some (l,s))(hs:s'.length<=dl.length):Bx C (S.set l<|.lst<|s'.map jm) a ld lr cs dl (r_ ra k s'):=by
 have hm:=cP hk;have hl:=h.cell _ hm;obtain⟨n1,n2⟩:=h.By hl;obtain⟨Y5,nd2⟩:=yo.mp h.an;have n3:l≠ld:=λe=>Y5 (by rw[<-e];exact zf.mpr {_,hm,rfl});have e1:(r_ ra k s').map (·.1)=ra.map (·.1):=by unfold r_;rw[zD];exact zW λr _=>by dsimp only[Function.comp];split<;>rfl
 have e2:(r_ ra k s').map (·.2.1)=ra.map (·.2.1):=by unfold r_;rw[zD];exact zW λr _=>by dsimp only[Function.comp];split<;>rfl
 have e3:dh (r_ ra k s')=dh ra:=by unfold dh r_;rw[zD];exact zW λr _=>by dsimp only[Function.comp];split<;>rfl
 refine{by rw[ae n1.symm];exact h.ins,by rw[ae n3.symm];exact h.xN,by rw[ae n2.symm,e3];exact h.run,λr hr=>?_,by rw[e1];exact h.kn,by rw[e2];exact h.an,λr hr=>?_};unfold r_ at hr;obtain⟨r0,wj,e⟩:=zf.mp hr;by_cases q:r0.1=k;rw[if_pos q]at e;have er:r0=(k,l,s):=fQ h.kn wj hm q;subst er e;rw[aa];rw[if_neg q]at e;subst e;have:r0.2.1≠l:=λe=>q (by have:=fQ nd2 wj hm e;rw[this]);rw[ae this];exact h.cell _ wj;unfold r_ at hr;obtain⟨r0,wj,e⟩:=zf.mp hr;by_cases q:r0.1=k;rw[if_pos q]at e;subst e;exact hs;rw[if_neg q]at e;subst e;exact h.sz _ wj
theorem Bx.add(h:Bx C S a ld lr cs dl ra)(hk:r9 ra k=none)(hl:S l=none)(hs:s.length<=dl.length)(e1:S' l=some (.lst<|s.map jm))(e2:S' lr=some (.cU<|dh<|ra++[(k,l,s)]))(e3:∀b,b≠l->b≠lr->S' b=S b):Bx C S' a ld lr cs dl (ra++[(k,l,s)]):=by
 have n1:a≠l:=eP h.ins hl;have n2:ld≠l:=eP h.xN hl;have n3:a≠lr:=by rintro rfl;have:=h.run;rw[h.ins]at this;cases this
 have n4:ld≠lr:=by rintro rfl;have:=h.run;rw[h.xN]at this;cases this
 refine{by rw[e3 _ n1 n3];exact h.ins,by rw[e3 _ n2 n4];exact h.xN,e2,λr hr=>?_,?_,?_,λr hr=>?_};rcases zN.mp hr with hr|hr;have hc:=h.cell r hr;rw[e3 _ (eP hc hl) (h.By hc).2];exact hc;rw[zE.mp hr];exact e1;rw[zL];exact lM h.kn λm=>by obtain⟨r,hr,e⟩:=zf.mp m;exact mz hk r hr e
 rw[zL,<-List.cons_append];refine lM h.an λm=>?_;rcases zh.mp m with e|m;exact n2 e.symm;obtain⟨r,hr,e⟩:=zf.mp m;exact eP (h.cell r hr) hl e;rcases zN.mp hr with hr|hr;exact h.sz r hr;rw[zE.mp hr];exact hs
theorem Bx.PN(h:Bx C S a ld lr cs dl ra)(d:D):Bx C (S.set ld<|.lst<|dl++[d]) a ld lr cs (dl++[d]) ra:=by obtain⟨n1,n2⟩:=h.By h.xN;obtain⟨Y5,nd2⟩:=yo.mp h.an;refine{by rw[ae n1.symm];exact h.ins,aa,by rw[ae n2.symm];exact h.run,λr hr=>?_,h.kn,h.an,λr hr=>by rw[zC];exact zH (h.sz r hr)<|Nat.le_add_right _ _};rw[ae λe=>Y5<|by rw[<-e];exact zf.mpr ⟨r,hr,rfl⟩];exact h.cell r hr
end
def UJ(C:Addr):jE:=λds S R _=>∃a F cs dl rs,ds=[.ref a]/\bQ C S a F cs dl rs/\R (.int (dl.length:Nat)) S
theorem q_(T:Txt w K mg t):FX P w mg base T.dH 1 (UJ t.aj):=by refine T.dH.F.b_ vo ?_;rintro _ _ _ _ _ _ _ S R Z hr ⟨a,F,cs,dl,rs,e,⟨ld,lr,ra,h,_⟩,q⟩;subst e;refine{_,(s1<|sr<|cb aZ T.aV aI<|ac (fl T.ak T.cy<|dv 0) an),?_};exact !{a,_,_,rfl,h.ins,rfl,_,rfl,.inl {dl,h.xN,fo q}}
inductive eE (t:iL) (ds:List D) (S:aw) (R:KD) (Z:KX):Prop where
 |mk (a F cs dl rs) (h0:ds=[.ref a]) (h1:bQ t.aj S a F cs dl rs) (h2:R (.tup<|cs.map aA) S):eE t ds S R Z
theorem bc(T:Txt w K mg t):FX P w mg base T.aE 1 (eE t):=by refine T.aE.F.b_ ji ?_;rintro _ _ _ _ _ _ _ S R Z hr ⟨a,F,cs,dl,rs,e,⟨ld,lr,ra,h,_⟩,q⟩;subst e;refine{_,(s1<|sr<|fl T.ak T.cE<|dv 0),?_};exact !{a,_,_,rfl,h.ins,rfl,fo q}
noncomputable def rf(n:Nat):D->Option Int|.ax=>some n|.int i=>(if 0<=i/\i<=(n:Int) then some i else none)|_=>none
def Lp(C N:Addr):jE:=λds S R Z=>∃a F cs dl rs m,ds=[.ref a,m]/\bQ C S a F cs dl rs/\Gt S m/\(∀i,rf dl.length m=some i->R (.int i) S)/\(rf dl.length m=none->Z N S)
theorem iE(T:Txt w K mg t):FX P w mg base T.bW 2 (Lp t.aj t.fc):=by
 refine T.bW.F.b_ iN ?_;rintro _ _ _ _ _ _ _ S R Z hr ⟨a,F,cs,dl,rs,m,e,hS,hm,q1,q2⟩;subst e;obtain⟨ld,lr,ra,h,hF,rZ⟩:=id hS;refine{_,(sc (si (bq jQ hr.u (dv 1) dn) (s1<|sr<|lX (dv 0) T.ak T.dH (q_ T) hr) s0)<|sc (si (twd<|twor (bY<|tv<|aH T.jb (jk T) hr<|ac (dv 1) an)<|tw1<|bY<|VQ iY iY hr.u di (dv 1)<|lX (dv 0) T.ak T.dH (q_ T) hr) (s1<|qv ⟨T.kP⟩ T.xB<|ac ds an) s0)<|s1<|sr<|dv 1),?_};refine !!⟨?_⟩;refine bP (λh1=>?_) λh1=>?_;have e:m=.ax:=by cases m<;>first|rfl|cases h1
 subst e;exact !{a,_,rfl,h.ins,rfl,a,F,cs,dl,rs,rfl,hS,fo<|q1 _ rfl};refine !{m,rfl,hm,_,rfl,?_};refine bP (λh2=>?_) λh2=>?_;have h2:=nt h2;have e:rf dl.length m=none:=by cases m with|ax=>(cases h1)|int i=>(cases h2)|_=>rfl
 exact du {sm<|by decide,fo<|q2 e};have h2:=nf h2;obtain⟨i,rfl⟩:∃i,m=.int i:=by cases m<;>first|exact{_,rfl}|cases h2
 refine !!⟨?_⟩;refine bP (λh3=>?_) λh3=>?_;have h3:0<=i:=zB h3;refine !{a,_,rfl,h.ins,rfl,a,F,cs,dl,rs,rfl,hS,_,rfl,?_};refine bP (λh4=>?_) λh4=>?_;have h4:¬i<=((dl.length:Nat):Int):=zP<|nt h4;exact{sm<|by decide,fo<|q2<|if_neg λz=>h4 z.2};have h4:i<=((dl.length:Nat):Int):=zB<|nf h4;exact{_,rfl,fo<|q1 i<|if_pos ⟨h3,h4⟩};have h3:¬0<=i:=zP h3;exact{_,rfl,du {sm<|by decide,fo<|q2<|if_neg λz=>h3 z.1}}
inductive kj (ds:List D) (S:aw) (R:KD) (Z:KX):Prop where
 |mk (l ue m) (h0:ds=[.ref l,.int m]) (h1:S l=some (.lst<|ue.map jm)) (h2:R (wt ue m) S):kj ds S R Z
theorem jo(T:Txt w K mg t):Ok P w base T.fO 1 kj:=by
 refine T.fO.F.b_ jh ?_;rintro _ _ _ _ _ _ _ S R Z hr ⟨l,ue,m,e,hl,q⟩;subst e;refine{_,(sc (A4<|Ju (irv T.qM<|ac (dv 0) an) (gn (i:=2) jh.nd)<|s1<|si (bq iY hr.u (ix hr.u (dv 2) di)<|dv 1) (s1<|sr<|QX (twd<|twor (bq jQ hr.u (ix hr.u (dv 2) di) dn)<|tw1<|bq iY hr.u (dv 1)<|ix hr.u (dv 2) di) (ix hr.u (dv 2) di) dn) s0)<|s1<|sr dn),?_};refine{λaJ S'=>S'=S/\wt ue m=.ax,?_,?_};refine !{_,_,rfl,hl,?_};refine{λi aJ S'=>(∃o,aJ=[some<|.ref l,some<|.int m,o])/\S'=S/\wt ue m=Ia (ue.reverse.drop i) m,{⟨none,rfl⟩,rfl,by rw[List.drop_zero];rfl},λi aJ S' h=>by rw[h.2.1];exact hl,?_,?_};rintro i d aJ S' hd ⟨⟨o,rfl⟩,rfl,hw⟩;rw[<-List.map_reverse,zw]at hd;cases e1:ue.reverse[i]? with|none=>(rw[e1]at hd;cases hd)|some sd=>rw[e1]at hd;cases hd;have e2:ue.reverse.drop i=sd::ue.reverse.drop (i+1):=(by obtain⟨hi,e⟩:=zk.mp e1;rw[List.drop_eq_getElem_cons hi,e]);obtain⟨sb,se,sw⟩:=sd;rw[e2]at hw;refine !!!!⟨?_⟩;unfold Ia at hw;refine bP (λh=>?_) λh=>?_;rw[if_pos<|zB h]at hw;refine !!!⟨?_⟩;(cases se with|none=>refine du<|du !!⟨?_⟩;rw[hw]at q;exact fo q|some n=>refine bh !!!!⟨?_⟩;dsimp only at hw;refine bP (λh=>?_) λh=>?_;rw[if_pos<|zB h]at hw;rw[hw]at q;exact !!⟨fo q⟩;rw[if_neg<|zP h]at hw;rw[hw]at q;exact fo q);rw[if_neg<|zP h]at hw;exact{{_,rfl},rfl,hw}
 rintro aJ S' ⟨_,rfl,hw⟩;refine fo {rfl,?_};rw[hw,yC,zb,List.drop_eq_nil_of_le<|by rw[yC];exact zp _];rfl;rintro aJ S' ⟨rfl,hw⟩;rw[hw]at q;exact fo q
noncomputable def z_(rs:pS)(k:D)(i:Int):D:=match k with|.str z=>(if jW z=true then wt ((lu rs z).getD []) i else .ax)|_=>.ax
def UK(C N:Addr):jE:=λds S R Z=>∃a F cs dl rs k m,ds=[.ref a,k,m]/\bQ C S a F cs dl rs/\Gt S k/\Gt S m/\(∀i,rf dl.length m=some i->R (z_ rs k i) S)/\(rf dl.length m=none->Z N S)
theorem mB(T:Txt w K mg t):FX P w mg base T.cO 3 (UK t.aj t.fc):=by
 refine T.cO.F.b_ fm ?_;rintro _ _ _ _ _ _ _ S R Z hr ⟨a,F,cs,dl,rs,k,m,e,hS,hk,hm,q1,q2⟩;subst e;obtain⟨ld,lr,ra,h,hF,rZ⟩:=id hS;refine{_,(sc (cC (i:=3) fm.nd<|FZ (dv 0) T.ak T.bW (iE T) hr<|ac (dv 2) an)<|sc (si (bY<|tv<|aH T.kQ (gI T) hr<|ac (dv 1) an) (s1<|sr dn) s0)<|s1<|sr<|aH T.fO (jo T) hr<|ac (mg2 hr.u (fl T.ak T.bM<|dv 0) (dv 1)<|cK an)<|ac (dv 3) an),?_};refine !{a,_,rfl,h.ins,rfl,_,rfl,a,F,cs,dl,rs,m,rfl,hS,hm,λi hi=>?_,λhn=>fo<|q2 hn};have q:=q1 i hi;refine !{k,rfl,hk,_,rfl,?_};refine bP (λh1=>?_) λh1=>?_;have e:z_ rs k i=.ax:=by cases k with|str z=>exact if_neg (by rw[show jW z=false from nt h1];exact zd)|_=>rfl
 rw[e]at q;exact fo q;have h1:=nf h1;obtain⟨z,rfl⟩:∃z,k=.str z:=by cases k with|str z=>exact⟨z,rfl⟩|_=>cases h1
 have e:z_ rs (.str z) i=wt ((lu rs z).getD []) i:=if_pos h1;rw[e]at q;refine !{a,_,_,rfl,h.ins,rfl,lr,_,rfl,h.run,_,rfl,sm<|by decide,λp hp=>{dh ra,.inr z,?_,rfl,?_}};rw[ae<|eP h.run hp];exact h.run;rw[gL];refine{_,rfl,?_};cases e1:r9 ra z with|none=>have e2:lu rs z=none:=(by rw[rZ,gm,e1];rfl);rw[e2]at q;exact{p,[],i,rfl,aa,S,.new hp,q}|some ls=>obtain⟨l,ue⟩:=ls;have e2:lu rs z=some ue:=(by rw[rZ,gm,e1];rfl);rw[e2]at q;have hc:=h.cell _<|cP e1;exact{l,ue,i,rfl,by rw[ae<|eP hc hp];exact hc,S,.new hp,q}
theorem M6(h:r9 ra k=some (l,s)):Bw (gJ ra) k s'=gJ (r_ ra k s'):=by unfold Bw;rw[gm,h,if_pos<|show(Option.map (λx:Addr×List Std=>x.2)<|some (l,s)).isSome=true from rfl];unfold gJ r_;rw[zD,zD];exact zW λr _=>by dsimp only[Function.comp];split<;>rfl
theorem PQ(h:r9 ra k=none):Bw (gJ ra) k s=gJ (ra++[(k,l,s)]):=by unfold Bw;rw[gm,h,if_neg<|show ¬(Option.map (λx:Addr×List Std=>x.2) none).isSome=true from zd];unfold gJ;rw[zL];rfl
theorem PR(h:r9 ra k=none):dput (dh ra) (.inr k) (.ref l)=dh (ra++[(k,l,s)]):=by
 unfold dput;have e:((dh ra).any λkv=>decide<|kv.1=.inr k)=false:=by rw[List.any_eq_false];intro x hx;unfold dh at hx;obtain⟨r,hr,rfl⟩:=zf.mp hx;simp only[zX];exact λe=>mz h r hr<|yM e
 rw[e,if_neg zd];unfold dh;rw[zL];rfl
theorem Ib:fp a ld lr (r_ ra k s)=fp a ld lr ra:=by unfold fp r_;rw[zD];congr 3;exact zW λr _=>by dsimp only[Function.comp];split<;>rfl
theorem rh(h:l∈F):xO F F S (S.set l c):=λb x hb e=>{hb,by rw[ae<|show b≠l from λz=>hb<|by rw[z];exact h];exact e}
theorem Ie(h:r∈ra):r.2.1∈fp a ld lr ra:=ze _<|ze _<|ze _<|zf.mpr ⟨r,h,rfl⟩
def Lq(C:Addr):jE:=λds S R _=>∃a F cs dl rs z ws,ds=[.ref a,.str z,.tup ws]/\bQ C S a F cs dl rs/\((lu rs z).getD []).length<dl.length/\dl.length<=9000/\rs.length<=9000/\∀S' F',bQ C S' a F' cs dl (Bw rs z<|(lu rs z).getD []++[Std.mk dl.length none ws])->xO F F' S S'->R .ax S'
theorem xP(T:Txt w K mg t):FX P w mg base T.bJ 2 (Lq t.aj):=by
 refine T.bJ.F.b_ gH ?_;rintro _ _ _ _ _ _ _ S R Z hr ⟨a,F,cs,dl,rs,z,ws,e,⟨ld,lr,ra,h,hF,rZ⟩,hl,hd,hn,q⟩;subst e hF rZ;have Mf:(dh ra).length<=9000:=by unfold gJ at hn;unfold dh;rw[zb]at hn⊢;exact hn
 refine{_,(s1<|se<|bm zQ yh yi cY (ms2 (fl T.ak T.bM<|dv 0) (dv 1)<|cK an)<|ac (bw<|ac (lX (dv 0) T.ak T.dH (q_ T) hr)<|ac dn<|ac (dv 2) an) an),?_};refine !{a,_,_,rfl,h.ins,rfl,lr,dh ra,rfl,h.run,_,rfl,sm<|by decide,λp hp=>{dh ra,.inr z,?_,rfl,bg<|by lia,λd Ae=>?_,λhn=>?_}};rw[ae<|eP h.run hp];exact h.run;rw[gL]at Ae;cases e1:r9 ra z with|none=>(rw[e1]at Ae;cases Ae)|some ls=>obtain⟨l,ue⟩:=ls;rw[e1]at Ae;cases Ae;have e2:lu (gJ ra) z=some ue:=(by rw[gm,e1];rfl);rw[e2]at q hl;have hc:=h.cell _<|cP e1;have FO:(S.set p<|.lst []) l=some (.lst<|ue.map jm):=(by rw[ae<|eP hc hp];exact hc);have hi':(S.set p<|.lst []) a=some (.ins t.aj [("columns",.tup<|cs.map aA),("deeds",.ref ld),("runs",.ref lr)]):=(by rw[ae<|eP h.ins hp];exact h.ins);have ow:Bx t.aj (S.set p<|.lst []) a ld lr cs dl ra:={hi',by rw[ae<|eP h.xN hp];exact h.xN,by rw[ae<|eP h.run hp];exact h.run,λr hr=>by rw[ae<|eP (h.cell r hr) hp];exact h.cell r hr,h.kn,h.an,h.sz};refine{{rfl,_,FO},_,rfl,a,_,rfl,hi',rfl,a,_,cs,dl,_,rfl,⟨ld,lr,ra,ow,rfl,rfl⟩,_,rfl,mq,?_};have hle:ue.length<dl.length:=hl;refine{l,ue.map jm,_,rfl,rfl,FO,bg<|by rw[zb];lia,S.set l<|.lst<|(ue++[Std.mk dl.length none ws]).map jm,λb c hb=>?_,q _ _ {ld,lr,_,h.put e1<|by rw[zC];show ue.length+1<=_;lia,rfl,M6 e1} ?_};by_cases Y6:b=l;subst Y6;rw[aa]at hb⊢;rw[zL]at hb;exact hb;rw[ae Y6]at hb;rw[ae Y6,ae<|eP hb hp];exact hb;rw[Ib];exact rh<|Ie<|cP e1
 rw[gL]at hn;cases e1:r9 ra z with|some ls=>(rw[e1]at hn;cases hn)|none=>have e2:lu (gJ ra) z=none:=(by rw[gm,e1];rfl);rw[e2]at q hl;have npr:p≠lr:=(eP h.run hp).symm;generalize xQ:(S.set p<|.lst []).set lr _=S1;have Y7:S1 p=some (.lst []):=(by rw[<-xQ,ae npr,aa]);have s1r:S1 lr=some (.cU<|dh<|ra++[(z,p,[])]):=(by rw[<-xQ,aa,PR e1]);have Y8:∀b,b≠p->b≠lr->S1 b=S b:=λb h1 h2=>(by rw[<-xQ,ae h2,ae h1]);have ow:Bx t.aj S1 a ld lr cs dl (ra++[(z,p,[])]):=h.add e1 hp (zZ _) Y7 s1r Y8;refine{{rfl,_,Y7},_,rfl,a,_,rfl,ow.ins,rfl,a,_,cs,dl,_,rfl,{ld,lr,_,ow,rfl,rfl},_,rfl,mq,?_};refine{p,[],_,rfl,rfl,Y7,bg<|by show 0<=_;lia,S1.set p<|.lst<|[Std.mk dl.length none ws].map jm,.refl _,q _ _ {ld,lr,ra++[(z,p,[Std.mk dl.length none ws])],h.add e1 hp (by show 1<=_;have:0<dl.length:=hl;lia) aa ?_ λb h1 h2=>by rw[ae h1];exact Y8 b h1 h2,rfl,PQ e1} ?_};rw[ae npr.symm,s1r];unfold dh;rw[zL,zL];rfl;intro b c hb e;have h1:b≠p:=eP e hp;have h2:b≠lr:=λz=>hb (by rw[z];exact ze _<|ze _ zi);refine{λm=>?_,by rw[ae h1,Y8 b h1 h2];exact e};unfold fp at m hb;rw[zL]at m;rcases zh.mp m with m|m;exact hb<|m ▸ zi;rcases zh.mp m with m|m;exact hb<|m ▸ ze _ zi;rcases zh.mp m with m|m;exact h2 m;rcases zN.mp m with m|m;exact hb<|ze _<|ze _<|ze _ m;exact h1<|zE.mp m
noncomputable def ik(n:Nat)(l:List Std):List Std:=l.dropLast++(l.getLast?.map λs=>Std.mk s.b (some n) s.ws).toList
noncomputable def nX(rs:pS)(z:Str)(n:Nat):pS:=Bw rs z<|ik n<|(lu rs z).getD []
noncomputable def sV(rs:pS)(z:Str)(n:Nat)(ws:List D):pS:=Bw rs z<|(lu rs z).getD []++[Std.mk n none ws]
theorem Ig(h:bQ C S a F cs dl rs)(z:Str):((lu rs z).getD []).length<=dl.length:=by obtain⟨ld,lr,ra,h,_,rfl⟩:=h;rw[gm];cases e:r9 ra z with|none=>exact zZ _|some ls=>exact h.sz _<|cP (l:=ls.1) (s:=ls.2) e
theorem Lu(rs:pS)(z:Str)(s:List Std):(Bw rs z s).length<=rs.length+1:=by unfold Bw;split;rw[zb];lia;rw[zC];exact zp _
theorem eL:lu (r::rs) k=if r.1=k then some r.2 else lu rs k:=by unfold lu;rw[yb];by_cases h:r.1=k;rw[zx h,if_pos h];rfl;rw[zy h,if_neg h]
theorem jq:lu (Bw rs z s) k=if k=z then some s else lu rs k:=by
 unfold Bw;by_cases hs:(lu rs z).isSome=true;rw[if_pos hs];by_cases hk:k=z;subst hk;rw[if_pos rfl];induction rs with|nil=>(cases hs)|cons r rs ih=>rw[zq,eL];by_cases h:r.1=k;rw[if_pos h,if_pos h];rw[if_neg h,if_neg h];rw[eL,if_neg h]at hs;exact ih hs
 rw[if_neg hk];clear hs;induction rs with|nil=>rfl|cons r rs ih=>rw[zq,eL,eL,ih];by_cases h:r.1=z;rw[if_pos h,if_neg<|show ¬r.1=k from λe=>hk<|e.symm.trans h,if_neg<|show ¬r.1=k from λe=>hk<|e.symm.trans h];rw[if_neg h]
 rw[if_neg hs];have hn:lu rs z=none:=by cases e:lu rs z<;>simp_all
 clear hs;induction rs with|nil=>rw[List.nil_append,eL];by_cases hk:k=z;rw[if_pos hk,if_pos hk.symm];rw[if_neg hk,if_neg λe=>hk e.symm]|cons r rs ih=>rw[eL]at hn;by_cases h:r.1=z;rw[if_pos h]at hn;cases hn;rw[if_neg h]at hn;rw[List.cons_append,eL,eL,ih hn];by_cases h2:r.1=k;rw[if_pos h2,if_pos h2,if_neg<|show ¬k=z from λe=>h<|h2.trans e];rw[if_neg h2,if_neg h2]
def UL(C:Addr):jE:=λds S R _=>∃a F cs dl rs z,ds=[.ref a,.str z]/\bQ C S a F cs dl rs/\(∃s,lu rs z=some s/\s≠[])/\dl.length<=9000/\∀S',bQ C S' a F cs dl (nX rs z dl.length)->xO F F S S'->R .ax S'
theorem jK(h:l≠[]):∃r s,l=r++[s]:={l.dropLast,l.getLast h,(List.dropLast_concat_getLast h).symm}
theorem dS(n:Nat)(r:List Std)(s:Std):ik n (r++[s])=r++[Std.mk s.b (some n) s.ws]:=by unfold ik;rw[List.dropLast_concat,List.getLast?_concat];rfl
theorem Ih(T:Txt w K mg t):FX P w mg base T.bV 2 (UL t.aj):=by refine T.bV.F.b_ dy ?_;rintro _ _ _ _ _ _ _ S R Z hr ⟨a,F,cs,dl,rs,z,e,⟨ld,lr,ra,h,hF,rZ⟩,⟨s0,QU,CZ⟩,hd,q⟩;subst e hF rZ;rw[gm]at QU;cases e1:r9 ra z with|none=>(rw[e1]at QU;cases QU)|some ls=>obtain⟨l,ue⟩:=ls;rw[e1]at QU;cases QU;obtain⟨r,sd,rfl⟩:=jK CZ;have hlen:=h.sz _<|cP e1;dsimp only at hlen;rw[zC]at hlen;have hlen:r.length+1<=dl.length:=hlen;have hc:=h.cell _<|cP e1;dsimp only at hc;have ed:bT (dh ra) (.inr z)=some (.ref l):=(by rw[gL,e1];rfl);refine{_,(sc (cC (i:=2) dy.nd<|bm0 zQ PySem.F.slot_list_pop PySem.F.type_list_pop SX<|ix hr.u (fl T.ak T.bM<|dv 0)<|dv 1)<|s1<|se<|bm zQ yh yi cY (ix hr.u (fl T.ak T.bM<|dv 0)<|dv 1)<|ac (bw<|ac (ix hr.u (dv 2) di)<|ac (lX (dv 0) T.ak T.dH (q_ T) hr)<|ac (ix hr.u (dv 2) di) an) an),?_};refine !{a,_,_,rfl,h.ins,rfl,_,rfl,dh ra,_,h.run,ed,{rfl,_,hc},l,_,jm sd,rfl,rfl,hc,?_,?_};rw[zL,zC];show(r.map jm++[jm sd])[(r.map jm).length+1-1]?=_;simp;have e2:((r++[sd]).map jm).dropLast=r.map jm:=(by rw[zL];exact List.dropLast_concat);rw[e2];have h1:Bx t.aj (S.set l<|.lst<|r.map jm) a ld lr cs dl (r_ ra z r):=h.put e1 (by lia);generalize xQ:S.set l _=S1 at h1;have Y9:r9 (r_ ra z r) z=some (l,r):=(by have hm:(z,l,r)∈r_ ra z r:=(by unfold r_;exact zf.mpr {_,cP e1,if_pos rfl});cases e3:r9 (r_ ra z r) z with|none=>exact absurd rfl (mz e3 _ hm)|some x=>exact congrArg some<|congrArg Prod.snd<|fQ (f:=λr:Str×Addr×List Std=>r.1) h1.kn (cP (l:=x.1) (s:=x.2) e3) hm rfl);have ed':bT (dh<|r_ ra z r) (.inr z)=some (.ref l):=(by rw[gL,Y9];rfl);have Wj:=h1.cell _<|cP Y9;refine !{a,_,_,rfl,h1.ins,rfl,_,rfl,_,_,h1.run,ed',{rfl,_,Wj},_,rfl,_,rfl,_,rfl,a,_,rfl,h1.ins,rfl,a,_,cs,dl,_,rfl,{ld,lr,_,h1,rfl,rfl},_,rfl,_,rfl,mq,l,_,_,rfl,rfl,Wj,bg<|by rw[zb];show r.length<=_;lia,?_};have h2:=h1.put (s':=r++[Std.mk sd.b (some dl.length) sd.ws]) Y9 (by rw[zC];exact hlen);have e4:nX (gJ ra) z dl.length=gJ (r_ (r_ ra z r) z<|r++[Std.mk sd.b (some dl.length) sd.ws]):=(by unfold nX;rw[gm,e1];show Bw (gJ ra) z (ik dl.length<|r++[sd])=_;rw[dS,M6 e1];unfold gJ r_;rw[zD,zD,zD];exact zW λx _=>by dsimp only[Function.comp];by_cases hx:x.1=z<;>simp[hx]);refine{_,?_,q _ {ld,lr,_,h2,by rw[Ib,Ib],e4} ?_};show Sub (S1.set l<|.lst<|(r++[_]).map jm) (S1.set l<|.lst<|r.map jm++[_]);rw[zL];exact .refl _;rw[<-xQ,eO];exact rh<|Ie<|cP e1
theorem C3(h:ofStr jW d=true):∃z,d=.str z/\jW z=true:=by cases d with|str z=>exact⟨z,rfl,h⟩|_=>cases h
theorem C4(h:nU cs k v=true):∃z ws,k=.str z/\v=.tup ws/\jW z=true:=by unfold nU at h;rw[zK]at h;obtain⟨z,rfl,hz⟩:=C3 h.1;cases v with|tup ws=>exact⟨z,ws,rfl,rfl,hz⟩|_=>exact absurd h.2 zd
theorem vA:Gt S .ax:={{.ax,rfl},λ_=>nofun}
theorem M7(h:ah (wt l m)=false):l≠[]:=by rintro rfl;cases h
theorem vB(hz:jW z=true)(i:Int):z_ rs (.str z) i=wt ((lu rs z).getD []) i:=if_pos hz
inductive dU (t:iL) (ds:List D) (S:aw) (R:KD) (Z:KX):Prop where
 |mk (a F cs dl rs k) (h0:ds=[.ref a,k]) (h1:bQ t.aj S a F cs dl rs) (h2:Gt S k) (h3:(ah (z_ rs k dl.length)=false->R .ax S)) (h4:(ah (z_ rs k dl.length)=true->Z t.l4 S)):dU t ds S R Z
theorem iF(T:Txt w K mg t):FX P w mg base T.bU 4 (dU t):=by refine T.bU.F.b_ iM ?_;rintro _ _ _ _ _ _ _ S R Z hr ⟨a,F,cs,dl,rs,k,e,hS,hk,q1,q2⟩;subst e;obtain⟨ld,lr,ra,h,_⟩:=id hS;refine{_,(s1<|si (bq jQ hr.u (Yf (dv 0) T.ak T.cO.e ((mB T).mono<|by decide) hr T.eB d1<|ac (dv 1) an) dn) (s1<|qv ⟨T.uY⟩ T.HW<|ac ds an) s0),?_};refine !{a,_,rfl,h.ins,rfl,_,rfl,a,F,cs,dl,rs,k,.ax,rfl,hS,hk,vA,λi hi=>?_,λhn=>by cases hn};cases hi;refine{_,rfl,?_};refine bP (λh1=>?_) λh1=>?_;exact{pF,fo<|q2 h1};exact fo<|q1 h1
inductive jr (t:iL) (ds:List D) (S:aw) (R:KD) (Z:KX):Prop where
 |mk (a F cs dl rs k v) (h0:ds=[.ref a,k,v]) (h1:bQ t.aj S a F cs dl rs) (h2:cs.length<=8) (h3:Gt S k) (h4:Rh S v) (h5:dl.length<=8000) (h6:rs.length<=8000) (h7:(nU cs k v=false->Z t.gB S)) (h8:(nU cs k v=true->ah (z_ rs k dl.length)=false->Z t.qI S)) (h9:(∀z ws,k=.str z->v=.tup ws->nU cs k v=true->ah (z_ rs k dl.length)=true->∀S' F',bQ t.aj S' a F' cs (dl++[.tup [.str "put",k,v]]) (sV rs z (dl.length+1) ws)->xO F F' S S'->R .ax S')):jr t ds S R Z
theorem PU(T:Txt w K mg t):FX P w mg base T.nM 6 (jr t):=by refine T.nM.F.b_ vn ?_;rintro _ _ _ _ _ _ _ S R Z hr ⟨a,F,cs,dl,rs,k,v,e,hS,hc,hk,hv,hd,hn,q1,q2,q3⟩;subst e;obtain⟨ld,lr,ra,h,hF,rZ⟩:=id hS;refine{_,(sc (se<|aH T.jI (my T) hr<|ac (fl T.ak T.cE<|dv 0)<|ac (bw<|ac (dv 1)<|ac (dv 2) an) an)<|sc (si (bq kF hr.u (Yf (dv 0) T.ak T.cO.e ((mB T).mono<|by decide) hr T.eB d1<|ac (dv 1) an) dn) (s1<|qv ⟨T.qN⟩ T.E8<|ac ds an) s0)<|sc (se<|bm zQ yh yi cY (fl T.ak T.cy<|dv 0)<|ac (bw<|ac ds<|ac (dv 1)<|ac (dv 2) an) an)<|s1<|se<|FZ (dv 0) T.ak T.bJ (xP T) hr<|ac (dv 1)<|ac (dv 2) an),?_};refine !{a,_,_,rfl,h.ins,rfl,_,rfl,_,rfl,bI,cs,k,v,rfl,hc,hk,hv,λvE=>?_,λwj=>fo<|q1 wj};refine !{a,_,rfl,h.ins,rfl,_,rfl,a,F,cs,dl,rs,k,.ax,rfl,hS,hk,vA,λi hi=>?_,λhn=>by cases hn};cases hi;refine{_,rfl,?_};refine bP (λh1=>?_) λh1=>?_;exact{pF,fo<|q2 vE<|nt h1};obtain⟨z,ws,rfl,rfl,hz⟩:=C4 vE;refine !{a,_,_,rfl,h.ins,rfl,{rfl,_,h.xN},_,rfl,_,rfl,mq,ld,dl,_,rfl,rfl,h.xN,bg<|by lia,?_};have EB:=h.PN<|.tup [.str "put",.str z,.tup ws];have xQ:bQ t.aj (S.set ld<|.lst<|dl++[.tup [.str "put",.str z,.tup ws]]) a F cs (dl++[.tup [.str "put",.str z,.tup ws]]) rs:=⟨ld,lr,ra,EB,hF,rZ⟩;have hl:=Ig hS z;refine !{a,_,rfl,EB.ins,rfl,_,rfl,_,rfl,a,F,cs,_,rs,z,ws,rfl,xQ,by rw[zC];exact Nat.lt_succ_of_le hl,by rw[zC];show dl.length+1<=_;lia,by lia,λS' F' ow hK=>fo<|q3 z ws rfl rfl vE (nf h1) S' F' ?_ ?_};have:(dl++[D.tup [.str "put",.str z,.tup ws]]).length=dl.length+1:=zC;rw[this]at ow;exact ow;refine xO.trans (rh ?_) hK;rw[hF];exact ze _ zi
inductive ft (t:iL) (ds:List D) (S:aw) (R:KD) (Z:KX):Prop where
 |mk (a F cs dl rs k v) (h0:ds=[.ref a,k,v]) (h1:bQ t.aj S a F cs dl rs) (h2:cs.length<=8) (h3:Gt S k) (h4:Rh S v) (h5:dl.length<=8000) (h6:rs.length<=8000) (h7:(nU cs k v=false->Z t.gB S)) (h8:(nU cs k v=true->ah (z_ rs k dl.length)=true->Z t.l4 S)) (h9:(∀z ws,k=.str z->v=.tup ws->nU cs k v=true->ah (z_ rs k dl.length)=false->∀S' F',bQ t.aj S' a F' cs (dl++[.tup [.str "change",k,v]]) (sV (nX rs z dl.length) z (dl.length+1) ws)->xO F F' S S'->R .ax S')):ft t ds S R Z
theorem Fh(T:Txt w K mg t):FX P w mg base T.ig 6 (ft t):=by
 refine T.ig.F.b_ pE ?_;rintro _ _ _ _ _ _ _ S R Z hr ⟨a,F,cs,dl,rs,k,v,e,hS,hc,hk,hv,hd,hn,q1,q2,q3⟩;subst e;obtain⟨ld,lr,ra,h,hF,rZ⟩:=id hS;refine{_,(sc (se<|aH T.jI (my T) hr<|ac (fl T.ak T.cE<|dv 0)<|ac (bw<|ac (dv 1)<|ac (dv 2) an) an)<|sc (se<|FZ (dv 0) T.ak T.bU (iF T) hr<|ac (dv 1) an)<|sc (se<|FZ (dv 0) T.ak T.bV (Ih T) hr<|ac (dv 1) an)<|sc (se<|bm zQ yh yi cY (fl T.ak T.cy<|dv 0)<|ac (bw<|ac ds<|ac (dv 1)<|ac (dv 2) an) an)<|s1<|se<|FZ (dv 0) T.ak T.bJ (xP T) hr<|ac (dv 1)<|ac (dv 2) an),?_};refine !{a,_,_,rfl,h.ins,rfl,_,rfl,_,rfl,bI,cs,k,v,rfl,hc,hk,hv,λvE=>?_,λwj=>fo<|q1 wj};refine !{a,_,rfl,h.ins,rfl,_,rfl,a,F,cs,dl,rs,k,rfl,hS,hk,λh1=>?_,λh1=>fo<|q2 vE h1};obtain⟨z,ws,rfl,rfl,hz⟩:=C4 vE;have CZ:∃s,lu rs z=some s/\s≠[]:=by rw[vB hz]at h1;have:=M7 h1;cases e:lu rs z with|none=>rw[e]at this;exact absurd rfl this|some s=>rw[e]at this;exact⟨s,rfl,this⟩
 refine !{a,_,rfl,h.ins,rfl,_,rfl,a,F,cs,dl,rs,z,rfl,hS,CZ,by lia,λS1 xQ Ri=>?_};obtain⟨Rj,Y_,Za,EB,UM,PX⟩:=id xQ;refine !{a,_,_,rfl,EB.ins,rfl,{rfl,_,EB.xN},_,rfl,_,rfl,mq,Rj,dl,_,rfl,rfl,EB.xN,bg<|by lia,?_};have h2:=EB.PN<|.tup [.str "change",.str z,.tup ws];have UN:bQ t.aj (S1.set Rj<|.lst<|dl++[.tup [.str "change",.str z,.tup ws]]) a F cs (dl++[.tup [.str "change",.str z,.tup ws]]) (nX rs z dl.length):=⟨Rj,Y_,Za,h2,UM,PX⟩;have hl:=Ig xQ z;have qx:(nX rs z dl.length).length<=rs.length+1:=Lu _ _ _;refine !{a,_,rfl,h2.ins,rfl,_,rfl,_,rfl,a,F,cs,_,_,z,ws,rfl,UN,by rw[zC];exact Nat.lt_succ_of_le hl,by rw[zC];show dl.length+1<=_;lia,by lia,λS' F' ow hK=>fo<|q3 z ws rfl rfl vE h1 S' F' ?_ ?_};have:(dl++[D.tup [.str "change",.str z,.tup ws]]).length=dl.length+1:=zC;rw[this]at ow;exact ow;refine Ri.trans<|xO.trans (rh ?_) hK;rw[UM];exact ze _ zi
inductive ip (t:iL) (ds:List D) (S:aw) (R:KD) (Z:KX):Prop where
 |mk (a F cs dl rs k) (h0:ds=[.ref a,k]) (h1:bQ t.aj S a F cs dl rs) (h2:Gt S k) (h3:dl.length<=8000) (h4:(ofStr jW k=false->Z t.gB S)) (h5:(ofStr jW k=true->ah (z_ rs k dl.length)=true->Z t.l4 S)) (h6:(∀z,k=.str z->jW z=true->ah (z_ rs k dl.length)=false->∀S',bQ t.aj S' a F cs (dl++[.tup [.str "take",k]]) (nX rs z dl.length)->xO F F S S'->R .ax S')):ip t ds S R Z
theorem Lv(T:Txt w K mg t):FX P w mg base T.kY 6 (ip t):=by
 refine T.kY.F.b_ sT ?_;rintro _ _ _ _ _ _ _ S R Z hr ⟨a,F,cs,dl,rs,k,e,hS,hk,hd,q1,q2,q3⟩;subst e;obtain⟨ld,lr,ra,h,hF,rZ⟩:=id hS;refine{_,(sc (si (bY<|tv<|aH T.kQ (gI T) hr<|ac (dv 1) an) (s1<|qv ⟨T.gD⟩ T.jH<|ac ds an) s0)<|sc (se<|FZ (dv 0) T.ak T.bU (iF T) hr<|ac (dv 1) an)<|sc (se<|FZ (dv 0) T.ak T.bV (Ih T) hr<|ac (dv 1) an)<|s1<|se<|bm zQ yh yi cY (fl T.ak T.cy<|dv 0)<|ac (bw<|ac ds<|ac (dv 1) an) an),?_};refine !{k,rfl,hk,_,rfl,?_};refine bP (λh0=>?_) λh0=>?_;exact{pF,fo<|q1<|nt h0};have h0:=nf h0;refine !{a,_,rfl,h.ins,rfl,_,rfl,a,F,cs,dl,rs,k,rfl,hS,hk,λh1=>?_,λh1=>fo<|q2 h0 h1};obtain⟨z,rfl,hz⟩:=C3 h0;have CZ:∃s,lu rs z=some s/\s≠[]:=by rw[vB hz]at h1;have:=M7 h1;cases e:lu rs z with|none=>rw[e]at this;exact absurd rfl this|some s=>rw[e]at this;exact⟨s,rfl,this⟩
 refine !{a,_,rfl,h.ins,rfl,_,rfl,a,F,cs,dl,rs,z,rfl,hS,CZ,by lia,λS1 xQ Ri=>?_};obtain⟨Rj,Y_,Za,EB,UM,PX⟩:=id xQ;refine !{a,_,_,rfl,EB.ins,rfl,{rfl,_,EB.xN},_,rfl,bI,Rj,dl,_,rfl,rfl,EB.xN,bg<|by lia,?_};refine fo<|q3 z rfl hz h1 _ {Rj,Y_,Za,EB.PN _,UM,PX}<|Ri.trans<|rh ?_;rw[UM];exact ze _ zi
inductive gM (t:iL) (ds:List D) (S:aw) (R:KD) (Z:KX):Prop where
 |mk (a cs) (h0:ds=[.ref a,.tup<|cs.map aA]) (h1:Gd cs) (h2:S a=some (.ins t.aj [])) (h3:∀S' F,bQ t.aj S' a F cs [] []->xO [a] F S S'->R .ax S'):gM t ds S R Z
theorem Lw(T:Txt w K mg t):FX P w mg base T.fi 5 (gM t):=by
 refine T.fi.F.b_ mn ?_;rintro _ _ _ _ _ _ _ S R Z hr ⟨a,cs,e,hg,ha,q⟩;subst e;refine{_,(sc (se<|aH T.gf (nW T) hr<|ac (dv 1) an)<|sc (sf T.ak T.cE (dv 0)<|dv 1)<|sc (sf T.ak T.cy (dv 0)<|cK an)<|s1<|sf T.ak T.bM (dv 0) SN),?_};refine !{cs,rfl,hg,_,rfl,_,rfl,a,[],rfl,ha,(show 0<1000 by decide),?_};refine{vp,λld Rk=>!{a,[("columns",.tup<|cs.map aA)],rfl,?_,(show 1<1000 by decide),λlr qx=>!{a,[("columns",.tup<|cs.map aA),("deeds",.ref ld)],rfl,?_,(show 2<1000 by decide),?_}}};have nl:a≠ld:=by rintro rfl;rw[aa]at Rk;cases Rk
 rw[ae nl,aa];rfl;have nl:a≠lr:=by rintro rfl;rw[aa]at qx;cases qx
 rw[ae nl,aa];rfl;have n1:a≠ld:=by rintro rfl;rw[aa]at Rk;cases Rk
 have n2:a≠lr:=by rintro rfl;rw[aa]at qx;cases qx
 have n3:ld≠lr:=by rintro rfl;rw[ae n1.symm,aa]at qx;cases qx
 rw[ae n1.symm]at Rk;rw[ae n2.symm,ae n3.symm,ae n2.symm]at qx;refine fo<|q _ (fp a ld lr []) {ld,lr,[],{aa,?_,?_,λr hr=>(nomatch hr),List.nodup_nil,(by simp),λr hr=>(nomatch hr)},rfl,rfl} λb c hb e=>?_;rw[ae n1.symm,ae n3,ae n1.symm,aa];rw[ae n2.symm,aa];rfl;have b1:b≠a:=λz=>hb (by rw[z];exact zi);have b2:b≠ld:=eP e Rk;have b3:b≠lr:=eP e qx;refine{λm=>?_,by rw[ae b1,ae b3,ae b1,ae b2,ae b1];exact e};unfold fp at m;simp only[yO,zh,zI,or_false]at m;rcases m with m|m|m;exact b1 m;exact b2 m;exact b3 m
noncomputable def vF(rs:pS)(i:Int)(z:Str):D:=.tup [.str z,wt ((lu rs z).getD []) i]
noncomputable def kZ(rs:pS)(i:Int)(ss:List Str):List D:=(ss.filter λz=>!ah (wt ((lu rs z).getD []) i)).map<|vF rs i
noncomputable def vG:D->Bool|.tup [_,x]=>!ah x|_=>false
theorem xR(ss:List Str):((ss.map<|vF rs i).filter vG).map id=kZ rs i ss:=by unfold kZ;rw[List.map_id,List.filter_map];rfl
def UO(C N:Addr):jE:=λds S R Z=>∃a F cs dl rs m,ds=[.ref a,m]/\bQ C S a F cs dl rs/\rs.length<64/\Gt S m/\(∀i ss,rf dl.length m=some i->ss.Perm (rs.map (·.1))->PyProof.Rows.sortedS ss=true->∀p,S p=none->R (.ref p) (S.set p<|.lst<|kZ rs i ss))/\(rf dl.length m=none->Z N S)
theorem Fi(T:Txt w K mg t):FX P w mg base T.hX 3 (UO t.aj t.fc):=by
 refine T.hX.F.b_ dY ?_;rintro _ _ _ _ _ _ _ S R Z hr ⟨a,F,cs,dl,rs,m,e,hS,hn,hm,q1,q2⟩;subst e;obtain⟨ld,lr,ra,h,hF,rZ⟩:=id hS;have ek:(dh ra).map (·.1)=(rs.map (·.1)).map Sum.inr:=by rw[rZ];unfold dh gJ;rw[zD,zD,zD];rfl
 have el:(dh ra).length<64:=by rw[rZ]at hn;unfold gJ at hn;unfold dh;rw[zb]at hn⊢;exact hn
 refine{_,(sc (cC (i:=2) dY.nd<|FZ (dv 0) T.ak T.bW (iE T) hr<|ac (dv 1) an)<|sc (MM (i:=3) (N:=["key","then","self"]) (src:=[none,some 2,some 0]) dY.nd (j7 (ag<|inClass br 10) ["self","moment","then","rows"] rfl rfl<|by trivial) (il<|cb Hf T.ja gy<|ac (fl T.ak T.bM<|dv 0) an) (pj<|show(["key","then","self"]:List Str).Nodup by trivial) (aR rfl) aT (λ_ _ _ _ _=>sH) λ_ _ _ _ _=>(bw<|ac (dv 0)<|ac (aH T.fO (jo T) hr<|ac (ix hr.u (fl T.ak T.bM<|dv 2)<|dv 0)<|ac (dv 1) an) an))<|s1<|sr<|sI (N:=["row"]) (src:=[none]) (j7 (ag<|inClass br 10) ["self","moment","then","rows"] rfl rfl<|by trivial) (il<|dv 3) (pj<|show(["row"]:List Str).Nodup by trivial) (aR rfl) aT (λ_ _ _ _ _=>(if1<|bq kF hr.u (ix hr.u (dv 0) di) dn)) λ_ _ _ _ _=>(dv 0)),?_};refine !{a,_,rfl,h.ins,rfl,_,rfl,a,F,cs,dl,rs,m,rfl,hS,hm,λi hi=>?_,λhn=>fo<|q2 hn};refine !{a,_,_,rfl,h.ins,rfl,lr,dh ra,rs.map (·.1),rfl,h.run,ek,el,λss hp hs p sW=>?_};have hlen:ss.length<64:=by rw[hp.length_eq,zb];exact hn
 refine{_,aa,?_};refine comp_map (λd=>match d with|.str z=>vF rs i z|_=>.ax) aa (by show(ss.map D.str).length<=1000;rw[zb];omega) (λd hd Q hQ=>?_) λp2 lL=>?_;obtain⟨z,hz,rfl⟩:=zf.mp hd;have XQ:z∈rs.map (·.1):=hp.mem_iff.mp hz;obtain⟨r,gQ,e⟩:=zf.mp XQ;rw[rZ]at gQ;unfold gJ at gQ;obtain⟨r0,wj,rfl⟩:=zf.mp gQ;have e1:r9 ra z=some r0.2:=by cases e3:r9 ra z with|none=>exact absurd e (mz e3 _ wj)|some x=>exact congrArg some<|congrArg Prod.snd<|fQ (f:=λr:Str×Addr×List Std=>r.1) h.kn (cP (l:=x.1) (s:=x.2) e3) wj e.symm
 have ed:bT (dh ra) (.inr z)=some (.ref r0.2.1):=by rw[gL,e1];rfl
 have hc:=h.cell _ wj;have eq:(lu rs z).getD []=r0.2.2:=by rw[rZ,gm,e1];rfl
 have hQ:Q (.tup [.str z,wt ((lu rs z).getD []) i]) (S.set p<|.lst<|ss.map D.str):=hQ;rw[eq]at hQ;have hi1:(S.set p<|.lst<|ss.map D.str) a=_:=(ae<|eP h.ins sW).trans h.ins;have vE:(S.set p<|.lst<|ss.map D.str) lr=_:=(ae<|eP h.run sW).trans h.run;have Wj:(S.set p<|.lst<|ss.map D.str) r0.2.1=_:=(ae<|eP hc sW).trans hc;exact !!{a,_,_,rfl,hi1,rfl,_,rfl,dh ra,_,vE,ed,_,rfl,_,_,i,rfl,Wj,bI,hQ};have em:(ss.map D.str).map (λd=>match d with|.str z=>vF rs i z|_=>.ax)=ss.map (vF rs i):=by rw[zD];rfl
 refine !{ss.map<|vF rs i,by show((S.set p _).set p2<|.lst<|(ss.map D.str).map _) p2=_;rw[aa,em],?_};refine cg vG id (by show((S.set p _).set p2<|.lst<|(ss.map D.str).map _) p2=_;rw[aa,em]) (by show(ss.map<|vF rs i).length<=1000;rw[zb];omega) (λd hd Q Q' hQ Bz=>?_) λp3 PY=>?_;obtain⟨z,hz,rfl⟩:=zf.mp hd;refine !!!⟨?_⟩;exact bP (λh=>!⟨hQ h⟩) λh=>Bz h;have Zb:S p3=none:=by cases e:S p3 with|none=>rfl|some c=>exact absurd PY<|by rw[ae (eP e<|by have:(S.set p<|.lst<|ss.map D.str) p2=none:=lL;cases e':S p2 with|none=>rfl|some c'=>rw[ae<|eP e' sW,e']at this;cases this),ae<|eP e sW,e];exact nofun
 refine{S.set p3<|.lst<|kZ rs i ss,λb c hb=>?_,q1 i ss hi hp hs p3 Zb};show((((S.set p<|.lst<|ss.map D.str).set p2 _).set p3<|.lst<|((ss.map<|vF rs i).filter vG).map id)) b=some c;rw[xR];by_cases Zc:b=p3;subst Zc;rw[aa]at hb⊢;exact hb;rw[ae Zc]at hb;have Zd:S p2=none:=by cases e':S p2 with|none=>rfl|some c'=>have:(S.set p<|.lst<|ss.map D.str) p2=none:=lL;rw[ae<|eP e' sW,e']at this;cases this
 rw[ae Zc,ae<|eP hb Zd,ae<|eP hb sW];exact hb
theorem Lx{P:Program}{w:World}{K:Frag}{mg:Str->Option Value}{base:Heap}{k:Nat}{f:Addr}{fd:FuncData}{ps:List Str}{pre:List D->Prop} (F:FnD P w K mg base k f fd ps λds S R _=>pre ds/\∀l x y z,S l=none->R (.ref l) (S.set l<|.lst [.int x,.int y,.int z])):FnD P w K mg base k f fd ps (λds S R _=>pre ds/\∀l,S l=none->R (.ref l) (S.set l .well)):=by refine F.imp λvs H Q E ⟨ds,S,R,Z,v,hS,⟨hp,h⟩,hR,hZ⟩=>{ds,S,λd S2=>∃l x y z,S l=none/\d=.ref l/\S2=S.set l (.lst [.int x,.int y,.int z]),λ_ _=>False,v,hS,{hp,λl x y z hl=>⟨l,x,y,z,hl,rfl,rfl⟩},λd S2 u H' ⟨l,x,y,z,hl,e1,e2⟩ rv hs kp=>?_,λ_ _ _ q=>q.elim};subst e1 e2;refine hR _ _ u H' (h l hl) rv ?_ kp;refine tZ (x:=x) (y:=y) (z:=z) aa ?_;rw[eO];exact hs
def Ze(ds:List D)(l:Addr):Prop:=∃m:Int,ds=[.ref l,.int m]/\0<m/\m.natAbs.log2<9000
def UP(ds:List D)(d:D):Prop:=∃(l:Addr)(m n:Int),ds=[.ref l,.int m]/\d=.int n/\0<=n/\n<m
theorem C5(T:Txt w K mg t):Ok P w base T.u6 1 (λds S R _=>(∃(ns:List Int)(k:Nat),ds=[.iX<|ns.map D.int,.int (k:Nat)]/\k<=1000)/\∀l,S l=none->R (.ref l) (S.set l .well)):=by
 refine Lx ?_;refine T.u6.F.ok nO (by rintro ds S R Z ⟨⟨_,_,e,_⟩,_⟩;rw[e];rfl) ?_;rintro _ _ _ _ _ _ _ S R Z hr ⟨⟨ns,k,e,hk⟩,q⟩;subst e;refine{_,(sc (cC (i:=2) nO.nd di)<|sc (A4<|si (bq wR hr.u (dv 1)<|cb aZ T.aV aI<|ac (dv 0) an) (s1<|cC (i:=2) nO.nd<|ix hr.u (dv 0)<|dv 1) s0)<|s1<|sr<|cK<|ac (bo cw hr.u (bo ou hr.u (dv 2) di)<|bo lS hr.u di<|dv 1)<|ac (uM<|ix hr.u (cK<|ac di<|ac (dv 2) an)<|ct MF T.HS AD<|ac (cm X5 hr.u (dv 2)<|bo MD hr.u di di) an)<|ac di an),?_};refine{λaJ S'=>∃c:Int,aJ=[some<|.iX<|ns.map D.int,some<|.int (k:Nat),some<|.int c]/\S'=S,?_,?_};refine !!!!⟨?_⟩;refine bP (λh=>?_) λh=>?_;have h:(k:Int)<(((ns.map D.int).length:Nat):Int):=zB h;have eY:k<ns.length:=by rw[zb]at h;lia
 exact !!{.int ns[k],jB<|by rw[zw];simp[eY],fo !⟨rfl⟩};exact fo {0,rfl,rfl};rintro aJ S' ⟨c,rfl,rfl⟩;refine !{(show(0:Int)<2147483647 by decide),_,rfl,.inl {by decide,by decide},?_};refine !{bI,λpq hpq=>!⟨{by decide,by decide,by decide},.inr !⟨?_⟩⟩};have Jv:∃j:Int,tJ [D.int 0,D.int c] (if decide ((10:Int)^(18:Int).toNat<=c)=true then 1 else 0)=some (.int j):=by by_cases h:decide ((10:Int)^(18:Int).toNat<=c)=true;rw[if_pos h];exact⟨c,rfl⟩;rw[if_neg h];exact{0,rfl}
 obtain⟨j,hj⟩:=Jv;exact{_,_,aa,hj,S',.new hpq,mq,λl hl=>fo<|q l _ _ _ hl}
theorem Lz(T:Txt w K mg t):Ok P w base T.aB 1 (Hh Ze UP):=by refine EM ?_;refine T.aB.F.ok jJ (by rintro ds S R Z ⟨_,_,_,_,⟨_,e,_⟩,_⟩;rw[e];rfl) ?_;rintro _ _ _ _ _ _ _ S R Z hr ⟨l,x,y,z,⟨m,e,hm,hlg⟩,hl,q⟩;subst e;refine{_,(sc (si (bq sG hr.u (ix hr.u (dv 0) di) di) (sc (cC (i:=2) jJ.nd<|bo ou hr.u (ix hr.u (dv 0) di)<|dv 1)<|sc (Yu (dv 0) di<|bo qu hr.u (ix hr.u (dv 0) di)<|dv 1)<|s1<|sr<|dv 2) s0)<|sc (Yu (dv 0) di<|bo cw hr.u (ix hr.u (dv 0) di) di)<|sc (cC (i:=2) jJ.nd<|bo ou hr.u (bo lS hr.u (bo cw hr.u (bo cw hr.u (ix hr.u (dv 0) di)<|bo lS hr.u di<|ix hr.u (dv 0) di) di) di) di)<|sc (cC (i:=2) jJ.nd<|bo ou hr.u (bo lS hr.u (dv 2)<|bo cw hr.u (bo qu hr.u (dv 2) di) di) di)<|s1<|sr<|bo ou hr.u (bo ou hr.u (bo lS hr.u (dv 2)<|bo cw hr.u (bo qu hr.u (dv 2) di) di) di)<|dv 1),?_};refine !{_,_,hl,rfl,_,rfl,?_};refine bP (λh=>?_) λh=>?_;refine !{_,_,hl,rfl,_,rfl,hm,?_};refine !{_,_,hl,rfl,_,rfl,⟨hm,hlg⟩,_,rfl,l,_,1,1,rfl,rfl,hl,rfl,?_};exact{_,rfl,fo<|q _ _ _ _ {l,m,_,rfl,rfl,Int.emod_nonneg _<|by lia,Int.emod_lt_of_pos _ hm}};refine !{_,_,hl,rfl,_,rfl,l,_,2,2,rfl,rfl,hl,rfl,?_};rw[show([D.int x,D.int y,D.int z].set 2<|D.int<|z+1)=[D.int x,D.int y,D.int<|z+1] from rfl];have Jp:(S.set l<|.lst [.int x,.int y,.int<|z+1]) l=some (.lst [.int x,.int y,.int<|z+1]):=aa;refine !{_,_,Jp,rfl,_,rfl,_,_,Jp,rfl,.inl {by decide,by decide},.inr {by decide,by decide},(show(0:Int)<2147483647 by decide),?_};have nb:∀z:Int,0<=z%2147483647/\z%2147483647<2147483647:=λz=>{Int.emod_nonneg z<|by decide,Int.emod_lt_of_pos z<|by decide};have n1:=nb<|(x+7919*(z+1)+1)*48271;generalize (x+7919*(z+1)+1)*48271%2147483647=u at *;refine !!⟨{by decide,by trivial},.inl {by lia,by lia},(show(0:Int)<2147483647 by decide),?_⟩;have n2:=nb<|u*(u/1009+69621);generalize u*(u/1009+69621)%2147483647=v at *;exact !!⟨{by decide,by trivial},.inl {by lia,by lia},(show(0:Int)<2147483399 by decide),_,rfl,hm,fo<|q _ _ _ _ {l,m,_,rfl,rfl,Int.emod_nonneg _<|by lia,Int.emod_lt_of_pos _ hm}⟩
inductive Ii (ds:List D) (S:aw) (R:KD) (Z:KX):Prop where
 |mk (l:Addr) (m:Int) (h0:ds=[.ref l,.int m]) (h1:0<m) (h2:m.natAbs.log2<9000) (h3:S l=some .well) (h4:∀n:Int,0<=n->n<m->R (.int n) S):Ii ds S R Z
theorem aP{P:Program}{w:World}{K:Frag}{mg:Str->Option Value}{base:Heap}{t:iL}(T:Txt w K mg t):Ok P w base T.aB 1 Ii:=(Lz T).Pa <| by rintro ds S R Z ⟨l,m,e,h0,h1,hw,q⟩;exact{l,⟨m,e,h0,h1⟩,hw,by rintro d ⟨l',m',n,e1,e2,a,b⟩;exact by rw[e]at e1;cases e1;subst e2;exact q n a b}
theorem wl{S:aw}{l p:Addr}{c:Ce}(hw:S l=some .well)(hp:S p=none):(S.set p c) l=some .well:=(ae<|eP hw hp).trans hw
theorem bK{L:List D}{S:aw}{p:Addr}{n:Int}{R:KD}(h0:0<=n)(h1:n<(L.length:Int))(hp:S p=none)(q:∀d,d∈L->R d S):X7 p n (S.set p<|.lst L) λd S'=>Fo S' (R d):=by obtain⟨v,e1,e2⟩:=lQ (l:=L) h0 h1;exact{L,v,aa,e1,S,.new hp,q v<|zG e2}
theorem js{m:Int}(h0:0<m)(h1:m<=8000):m.natAbs.log2<9000:=by
 have h2:m.natAbs<=8000:=by lia
 have h3:m.natAbs.log2<=m.natAbs:=Nat.log2_le_self _;lia
noncomputable abbrev KT:List Str:=["a","ab","b","abc","a1","a10","a2","key","z","zzzzzzzzzzzz","m","c"]
noncomputable abbrev Zg:List Str:=["k","kk","b1","z"]
noncomputable abbrev KEX:List Str:=Zg.flatMap λa=>(List.range 12).map λn:Nat=>a++Str.ofString (toString ((n:Nat):Int))
noncomputable abbrev KS:List Str:=KT++KEX
theorem Ij(h:z∈KT):z∈KS:=zS _ h
theorem iq:∀z∈KS,jW z=true/\z.cps.size<=12/\PyData.strOk z=true:=by trivial
noncomputable abbrev BA:List Str:=["a","ab","b","abc","key","up","at","mark","every","is","zzzzzzzz","price"]
theorem Ik:∀z∈BA,ki z=true/\PyData.strOk z=true:=by trivial
theorem Fj:BA.Nodup:=by trivial
noncomputable def bu:D->Bool|.ax=>true|.int _=>true|.str z=>decide (z.cps.size<=40)&&PyData.strOk z|_=>false
def Vg(kind:Str)(d:D):Prop:=iO kind d=true/\bu d=true
theorem Il(a:Str):∀l:List Str,Txt.join a l=a.join l|[]=>by rw[PyProof.Rows.join_nil];rfl|x::r=>PySem.StrLaws.glued_cons a r x
noncomputable abbrev UQ:Str:="ab~ "
noncomputable abbrev xS:Str:="ab= ~#-\"()|Z9_&"
noncomputable abbrev M8:List Str:=["","a","ab","abc","b","B"," ","a b"]
theorem xT:∀z∈M8,jj z=true:=by trivial
theorem Im:∀c∈UQ.cps.toList,∀n<41,jj (PySem.Txt.mul ⟨#[c]⟩ ((n:Nat):Int))=true:=by trivial
theorem PZ(c:Nat)(n:Nat)(h:n<41):MulOk ⟨#[c]⟩ (n:Int):=by
 have e:(⟨#[c]⟩:Str).length=1:=rfl;refine{by simp;lia,λh1 _=>?_,λh1 _=>?_};rw[e];have h2:(1:Int)<=(2^63-1)/(n:Int):=by rw[Int.le_ediv_iff_mul_le<|by lia];lia
 show ¬((1:Nat):Int)>_;lia;rw[e,Nat.one_mul,Int.toNat_natCast];have:=sm (n:=n) (by lia);unfold PySem.Builtin.Str.tooLong;exact zy<|by lia
theorem rj:∀cs:List Nat,(Str.join ""<|cs.map λc=>(⟨#[c]⟩:Str)).cps.toList=cs|[]=>rfl|[c]=>rfl|c::d::r=>by have ih:=rj<|d::r;rw[zq,zq];show((⟨#[c]⟩:Str)++("": Str)++Str.join "" ((⟨#[d]⟩:Str)::r.map λc=>(⟨#[c]⟩:Str))).cps.toList=c::d::r;rw[zq]at ih;show((#[c]++(("": Str)).cps)++(Str.join ""<|(⟨#[d]⟩:Str)::r.map λc=>(⟨#[c]⟩:Str)).cps).toList=c::d::r;rw[Array.toList_append,ih];rfl
theorem Fl:∀c∈xS.cps.toList,xM c=true:=by trivial
theorem Io(cs:List Nat)(h:cs.length<=5):JoinOk "" (cs.map λc=>(⟨#[c]⟩:Str))=true:=by
 refine PyProof.Rows.joinOk_of ?_;have e:((cs.map λc=>(⟨#[c]⟩:Str)).map (·.length)).sum=cs.length:=by rw[zD];clear h;induction cs with|nil=>rfl|cons c r ih=>rw[zq,List.sum_cons,ih,zJ];show 1+_=_;lia
 rw[e,zb];have:("": Str).length=0:=rfl;rw[this];lia
theorem mC:∀{xs out:List D},Paired (λ_ v=>∃c∈xS.cps.toList,v=.str ⟨#[c]⟩) xs out->∃cs:List Nat,out=(cs.map λc=>(⟨#[c]⟩:Str)).map D.str/\cs.length=xs.length/\∀c∈cs,c∈xS.cps.toList|_,_,.nil=>{[],rfl,rfl,λ_ h=>(nomatch h)}|_,_,.cons ⟨c,hc,e⟩ r=>by obtain⟨cs,e1,e2,e3⟩:=mC r;refine{c::cs,by rw[e,e1];rfl,by rw[zJ,zJ,e2],λx hx=>?_};rcases zh.mp hx with e|hx;rw[e];exact hc;exact e3 x hx
theorem LA(h:jj z=true):bu (.str z)=true:=by unfold jj at h;rw[zK,ya]at h;show(decide (z.cps.size<=40)&&PyData.strOk z)=true;rw[h.1,yc];unfold PyData.strOk;rw[<-Array.all_toList,ya];intro c hc;have:=h.2 c hc;unfold xM at this;simp only[zK,zX]at this⊢;lia
theorem Iq{k:Str}(h:k ="number")(i:Int):Vg k (.int i):={by rw[h];rfl,rfl}
theorem Ir{k:Str}(h:¬k ="number"){z:Str}(hz:jj z=true):Vg k (.str z):={by unfold iO;rw[if_neg h];exact hz,LA hz}
theorem BB(k:Str):Vg k .ax:=⟨rfl,rfl⟩
def Fm(pre:List D->Prop)(post:List D->D->Prop):jE:=λds S R _=>∃l r,ds=.ref l::r/\pre r/\S l=some .well/\∀d,post r d->R d S
theorem BC(T:Txt w K mg t):Ok P w base T.xC 2 (Fm (·=[]) λ_ d=>∃z∈KT,d=.str z):=by refine T.xC.F.ok xJ (by rintro ds S R Z ⟨_,_,e,e2,_⟩;rw[e,e2];rfl) ?_;rintro _ _ _ _ _ _ _ S R Z hr ⟨l,r,e,e2,hw,q⟩;subst e e2;refine{_,(sc (cC (i:=1) xJ.nd<|cK<|ac ds<|ac ds<|ac ds<|ac ds<|ac ds<|ac ds<|ac ds<|ac ds<|ac ds<|ac ds<|ac ds<|ac ds an)<|s1<|sr<|ix hr.u (dv 1)<|aH T.aB (aP T) hr<|ac (dv 0)<|ac di an),?_};refine{M5,λp hp=>!!{l,_,rfl,(by decide),(by decide),wl hw hp,λn h0 h1=>?_}};obtain⟨v,e1,e2⟩:=lQ (l:=KT.map D.str) h0<|show n<12 from h1;obtain⟨z,hz,rfl⟩:=zf.mp<|zG e2;exact{KT.map D.str,_,aa,e1,S,.new hp,q _ ⟨z,hz,rfl⟩}
theorem Fn(T:Txt w K mg t):Ok P w base T.qP 2 (Fm (·=[]) λ_ d=>∃i:Int,d=.int i):=by refine T.qP.F.ok oF (by rintro ds S R Z ⟨_,_,e,e2,_⟩;rw[e,e2];rfl) ?_;rintro _ _ _ _ _ _ _ S R Z hr ⟨l,r,e,e2,hw,q⟩;subst e e2;refine{_,(sc (cC (i:=1) oF.nd<|aH T.aB (aP T) hr<|ac (dv 0)<|ac di an)<|sc (si (bq bH hr.u (dv 1) di) (s1<|sr<|bo lS hr.u (bo eV hr.u di<|bo lS hr.u di<|aH T.aB (aP T) hr<|ac (dv 0)<|ac di an)<|bo eV hr.u (bo eV hr.u (bo MD hr.u di di) di)<|aH T.aB (aP T) hr<|ac (dv 0)<|ac di an) s0)<|sc (si (bq bH hr.u (dv 1) di) (s1<|sr<|bo eV hr.u (aH T.aB (aP T) hr<|ac (dv 0)<|ac di an) di) s0)<|s1<|sr<|bo eV hr.u (aH T.aB (aP T) hr<|ac (dv 0)<|ac di an) di),?_};refine !{l,_,rfl,(by decide),(by decide),hw,λn n0 n1=>?_};refine !!⟨?_⟩;refine bP (λ_=>?_) λ_=>?_;refine !{l,_,rfl,(by decide),(by decide),hw,λm m0 m1=>?_};refine{.inl {by decide,by decide},{by decide,by decide,by decide},_,rfl,l,_,rfl,(by decide),(by decide),hw,λk k0 k1=>?_};refine{.inl {by lia,by lia},fo<|q _ {_,rfl}};refine !!⟨?_⟩;refine bP (λ_=>?_) λ_=>?_;exact !{l,_,rfl,(by decide),(by decide),hw,λm m0 m1=>fo<|q _ {_,rfl}};exact !{l,_,rfl,(by decide),(by decide),hw,λm m0 m1=>fo<|q _ {_,rfl}}
theorem LB(T:Txt w K mg t):Ok P w base T.Bi 2 (Fm (·=[]) λ_ d=>∃z,d=.str z/\jj z=true):=by
 refine T.Bi.F.ok nQ (by rintro ds S R Z ⟨_,_,e,e2,_⟩;rw[e,e2];rfl) ?_;rintro _ _ _ _ _ _ _ S R Z hr ⟨l,r,e,e2,hw,q⟩;subst e e2;refine{_,(sc (cC (i:=1) nQ.nd<|aH T.aB (aP T) hr<|ac (dv 0)<|ac di an)<|sc (si (bq bH hr.u (dv 1) di) (s1<|sr<|bo lS hr.u (ix hr.u ds<|aH T.aB (aP T) hr<|ac (dv 0)<|ac di an)<|aH T.aB (aP T) hr<|ac (dv 0)<|ac di an) s0)<|sc (si (bq bH hr.u (dv 1) di) (sc (cC (i:=2) nQ.nd ds)<|s1<|sr<|bm PySem.F.plainAttrs_str PySem.F.slot_str_join PySem.F.type_str_join Pf ds<|ac (sI (N:=["_law_k","_law_signs","_law_well_here"]) (src:=[none,some 2,some 0]) (j7 (ag HL) ["_law_well_here","_law_way","_law_signs"] rfl rfl<|by trivial) (ML T.eG<|ac (aH T.aB (aP T) hr<|ac (dv 0)<|ac di an) an) (pj<|show(["_law_k","_law_signs","_law_well_here"]:List Str).Nodup by trivial) (aR rfl) aT (λ_ _ _ _ _=>sH) λ_ _ _ _ _=>(ix hr.u (dv 1)<|aH T.aB (aP T) hr<|ac (dv 2)<|ac di an)) an) s0)<|s1<|sr<|uM<|ix hr.u (cK<|ac ds<|ac ds<|ac ds<|ac ds<|ac ds<|ac ds<|ac ds<|ac ds an)<|aH T.aB (aP T) hr<|ac (dv 0)<|ac di an),?_};refine !{l,_,rfl,(by decide),(by decide),hw,λn n0 n1=>?_};refine !!⟨?_⟩;refine bP (λ_=>?_) λ_=>?_;refine !{l,_,rfl,(by decide),(by decide),hw,λm m0 m1=>?_};obtain⟨c,ac,hc⟩:=lQ (l:=UQ.cps.toList) m0<|show m<4 from m1;refine{c,mr,ac,_,rfl,l,_,rfl,(by decide),(by decide),hw,λk k0 k1=>?_};obtain⟨k',rfl⟩:∃k':Nat,k=(k':Int):={k.toNat,by lia};exact{PZ c k'<|by lia,fo<|q _ !⟨Im c (zG hc) k'<|by lia⟩};refine !!⟨?_⟩;refine bP (λ_=>?_) λ_=>?_;refine{rfl,_,rfl,l,_,rfl,(by decide),(by decide),hw,λm m0 m1=>{m,rfl,by lia,by lia,?_}};refine fq (λ_ v=>∃c∈xS.cps.toList,v=.str ⟨#[c]⟩) trivial (by show(eF 0 m.toNat).length<=_;rw[cu];lia) (λd hd Q hQ=>?_) λout ho p hp=>?_;refine !!{l,_,rfl,(by decide),(by decide),hw,λj j0 j1=>?_};obtain⟨c,ac,hc⟩:=lQ (l:=xS.cps.toList) j0<|show j<15 from j1;exact{c,UI,ac,hQ _ {c,zG hc,rfl}};obtain⟨cs,rfl,hl,hcs⟩:=mC ho;have hl:cs.length=m.toNat:=hl.trans cu;refine{"",cs.map λc=>(⟨#[c]⟩:Str),_,rfl,rfl,aa,Io cs<|by lia,S,.new hp,q _ !⟨?_⟩};have hj:(PySem.Txt.join ""<|cs.map λc=>(⟨#[c]⟩:Str)).cps.toList=cs:=by rw[Il];exact rj cs
 unfold jj;rw[hj,zx<|show(PySem.Txt.join ""<|cs.map λc=>(⟨#[c]⟩:Str)).cps.size<=40 by rw[EN,hj];lia,yc,ya];exact λc hc=>Fl c<|hcs c hc;refine{Y4,λp hp=>!{l,_,rfl,(by decide),(by decide),wl hw hp,λn h0 h1=>bK h0 h1 hp λd hd=>?_}};have hd:d∈M8.map D.str:=hd;obtain⟨z,hz,rfl⟩:=zf.mp hd;exact fo<|q _ {z,rfl,xT z hz}
theorem rm(T:Txt w K mg t):Ok P w base T.mh 3 (Fm (λr=>∃k,r=[.str k]) λr d=>∃k,r=[.str k]/\Vg k d):=by refine T.mh.F.ok Br (by rintro ds S R Z ⟨_,_,e,⟨_,e2⟩,_⟩;rw[e,e2];rfl) ?_;rintro _ _ _ _ _ _ _ S R Z hr ⟨l,r,e,⟨k,e2⟩,hw,q⟩;subst e e2;have q:∀d,Vg k d->R d S:=λd hd=>q d ⟨k,rfl,hd⟩;refine{_,(sc (si (bq bH hr.u (aH T.aB (aP T) hr<|ac (dv 0)<|ac di an) di) (s1<|sr dn) s0)<|sc (si (bq bH hr.u (dv 1) ds) (s1<|sr<|aH T.qP (Fn T) hr<|ac (dv 0) an) s0)<|s1<|sr<|aH T.Bi (LB T) hr<|ac (dv 0) an),?_};refine !{l,_,rfl,(by decide),(by decide),hw,λn n0 n1=>!⟨?_⟩};refine bP (λ_=>fo<|q .ax<|BB k) λ_=>?_;refine !!⟨?_⟩;refine bP (λh=>?_) λh=>?_;exact !{l,[],rfl,rfl,hw,λd ⟨i,e⟩=>by rw[e];exact fo<|q _<|Iq (zB h) i};exact !{l,[],rfl,rfl,hw,λd ⟨z,e,hz⟩=>by rw[e];exact fo<|q _<|Ir (zP h) hz}
theorem Iu(T:Txt w K mg t):Ok P w base T.u9 4 (Fm (λr=>∃k,r=[.str k]) λr d=>∃k,r=[.str k]/\Vg k d):=by refine T.u9.F.ok Bs (by rintro ds S R Z ⟨_,_,e,⟨_,e2⟩,_⟩;rw[e,e2];rfl) ?_;rintro _ _ _ _ _ _ _ S R Z hr ⟨l,r,e,⟨k,e2⟩,hw,q⟩;subst e e2;refine{_,(sc (si (bq bH hr.u (aH T.aB (aP T) hr<|ac (dv 0)<|ac di an) di) (s1<|sr<|aH T.mh (rm T) hr<|ac (dv 0)<|ac (dv 1) an) s0)<|sc (si (bq bH hr.u (dv 1) ds) (s1<|sr<|uM<|ix hr.u (cK<|ac dn<|ac di<|ac di<|ac di an)<|aH T.aB (aP T) hr<|ac (dv 0)<|ac di an) s0)<|s1<|sr<|uM<|ix hr.u (cK<|ac dn<|ac ds<|ac ds<|ac ds an)<|aH T.aB (aP T) hr<|ac (dv 0)<|ac di an),?_};refine !{l,_,rfl,(by decide),(by decide),hw,λn n0 n1=>!⟨?_⟩};refine bP (λ_=>!!{l,_,rfl,⟨k,rfl⟩,hw,λd hd=>fo<|q d hd}) λ_=>?_;have q:∀d,Vg k d->Fo S (R d):=λd hd=>fo<|q d ⟨k,rfl,hd⟩;refine !!⟨?_⟩;refine bP (λh=>?_) λh=>?_;{have h:k ="number":=zB h;refine{mr,λp hp=>!{l,_,rfl,(by decide),(by decide),wl hw hp,λn h0 h1=>bK h0 h1 hp λd hd=>?_}};have hd:d∈[D.ax,.int 0,.int 1,.int 2]:=hd;simp only[zh,zI,or_false]at hd;rcases hd with rfl|rfl|rfl|rfl;exact q _<|BB k;all_goals exact q _ (Iq h _)};{have h:¬k ="number":=zP h;refine{mr,λp hp=>!{l,_,rfl,(by decide),(by decide),wl hw hp,λn h0 h1=>bK h0 h1 hp λd hd=>?_}};have hd:d∈[D.ax,.str "",.str "a",.str "ab"]:=hd;simp only[zh,zI,or_false]at hd;rcases hd with rfl|rfl|rfl|rfl;exact q _<|BB k;all_goals exact q _ (Ir h<|by trivial)}
theorem UR:∀a∈Zg,∀n<12,a.length+(Str.ofString<|toString ((n:Nat):Int)).length<=1000:=by trivial
theorem xU(T:Txt w K mg t):Ok P w base T.kX 3 (Fm (·=[]) λ_ d=>∃z∈KS,d=.str z):=by
 refine T.kX.F.ok sS (by rintro ds S R Z ⟨_,_,e,e2,_⟩;rw[e,e2];rfl) ?_;rintro _ _ _ _ _ _ _ S R Z hr ⟨l,r,e,e2,hw,q⟩;subst e e2;refine{_,(sc (si (bq bH hr.u (aH T.aB (aP T) hr<|ac (dv 0)<|ac di an) di) (s1<|sr<|aH T.xC (BC T) hr<|ac (dv 0) an) s0)<|s1<|sr<|bo cw hr.u (uM<|ix hr.u (cK<|ac ds<|ac ds<|ac ds<|ac ds an)<|aH T.aB (aP T) hr<|ac (dv 0)<|ac di an)<|ct T9 T.l_ gU<|ac (aH T.aB (aP T) hr<|ac (dv 0)<|ac di an) an),?_};refine !{l,_,rfl,(by decide),(by decide),hw,λn n0 n1=>!⟨?_⟩};refine bP (λ_=>!{l,_,rfl,rfl,hw,λd ⟨z,hz,e⟩=>fo<|q d {z,Ij hz,e}}) λ_=>?_;refine{mr,λp hp=>!{l,_,rfl,(by decide),(by decide),wl hw hp,λn h0 h1=>bK h0 h1 hp λd hd=>?_}};have hd:d∈Zg.map D.str:=hd;obtain⟨a,ha,rfl⟩:=zf.mp hd;refine !{l,_,rfl,(by decide),(by decide),hw,λn h0 h1=>?_};obtain⟨m,rfl⟩:=Int.eq_ofNat_of_zero_le h0;have hm:m<12:=by lia
 refine !{(by have:=Nat.log2_le_self ((m:Nat):Int).natAbs;lia),sm<|UR a ha m hm,fo<|q _ {_,zt _<|List.mem_flatMap.mpr {a,ha,zf.mpr {m,zT.mpr hm,rfl}},rfl}}
def Wg(cs:List<|Str×Str)(ws:List D):Prop:=Paired (λ(c:Str×Str) v=>Vg c.2 v) cs ws
theorem rn{rel:(Str×Str)->D->Prop} : ∀{cs:List (Str×Str)}{out:List D},Paired (λd v=>∃c,d=aA c/\rel c v) (cs.map aA) out->Paired (λc v=>rel c v) cs out
 |[],_,.nil=>.nil
 |c::cs,_,.cons ⟨c',e,r⟩ t=>by
  have:c=c':=by unfold aA at e;injection e with e;injection e with e1 e2;injection e1 with e1;injection e2 with e2 _;injection e2 with e2;exact Prod.ext e1 e2
  subst this;exact .cons r<|rn t
theorem k7:∀{l:List α}{k:Nat}{x:α},l[k]?=some x->(x::l.eraseIdx k).Perm l|a::l,0,x,h=>(by cases h;exact .refl _)|a::l,k+1,x,h=>by have ih:=k7 (l:=l) (k:=k) h;rw[List.eraseIdx_cons_succ];exact(List.Perm.swap a x _).trans<|ih.cons a
theorem C6(h:k<n):seqIndex? ((k:Nat):Int) n=some k:=by have e:(if ((k:Nat):Int)<0 then ((k:Nat):Int)+(n:Int) else ((k:Nat):Int))=((k:Nat):Int):=if_neg (by lia);unfold seqIndex?;dsimp only;rw[e,if_pos<|by simp;lia];rfl
def Cg(cs:List<|Str×Str):Prop:=Gd cs/\∀c∈cs,c.1∈BA
inductive oK (ds:List D) (S:aw) (R:KD) (Z:KX):Prop where
 |mk (l) (h0:ds=[.ref l]) (h1:S l=some .well) (h2:∀cs,Cg cs->R (.tup<|cs.map aA) S):oK ds S R Z
theorem BD(T:Txt w K mg t):Ok P w base T.nL 2 oK:=by
 refine T.nL.F.b_ de ?_;rintro _ _ _ _ _ _ _ S R Z hr ⟨l,e,hw,q⟩;subst e;refine{_,(sc (cC (i:=1) de.nd<|cK<|ac ds<|ac ds<|ac ds<|ac ds<|ac ds<|ac ds<|ac ds<|ac ds<|ac ds<|ac ds<|ac ds<|ac ds an)<|sc (cC (i:=2) de.nd<|cK an)<|sc (A4<|Ju (ML T.eG<|ac (aH T.aB (aP T) hr<|ac (dv 0)<|ac (uM<|ix hr.u (cK<|ac di<|ac di<|ac di<|ac di an)<|aH T.aB (aP T) hr<|ac (dv 0)<|ac di an) an) an) (gn (i:=3) de.nd)<|sc (cC (i:=4) de.nd<|bm zQ PySem.F.slot_list_pop PySem.F.type_list_pop Cz (dv 1)<|ac (aH T.aB (aP T) hr<|ac (dv 0)<|ac (cb aZ T.aV aI<|ac (dv 1) an) an) an)<|s1<|se<|bm zQ yh yi cY (dv 2)<|ac (bw<|ac (dv 4)<|ac (uM<|ix hr.u (cK<|ac ds<|ac ds an)<|aH T.aB (aP T) hr<|ac (dv 0)<|ac di an) an) an)<|s1<|sr<|ct fH T.bt aW<|ac (dv 2) an),?_};refine{M5,λln Pb=>{vp,λlf M9=>?_}};have Wk:ln≠lf:=eP (aa (S:=S)) M9;have US:S lf=none:=by rw[ae Wk.symm]at M9;exact M9
 have Zh:l≠ln:=eP hw Pb;have hnf:l≠lf:=eP hw US;have A2:((S.set ln<|.lst<|BA.map D.str).set lf<|.lst []) l=some .well:=wl (wl hw Pb) M9;have Jo:((S.set ln<|.lst<|BA.map D.str).set lf<|.lst []) ln=some (.lst<|BA.map D.str):=(ae Wk).trans aa;have hf2:((S.set ln<|.lst<|BA.map D.str).set lf<|.lst []) lf=some (.lst []):=aa;have Eu:Sub S ((S.set ln<|.lst<|BA.map D.str).set lf<|.lst []):=(Sub.new Pb).trans<|.new M9;refine{λaJ S'=>∃o3 o4 cs,aJ=[some<|.ref l,some<|.ref ln,some<|.ref lf,o3,o4]/\Cg cs/\S' lf=some (.lst<|cs.map aA)/\Sub S S',?_,?_};show TM _ _ _ _ _ ((S.set ln<|.lst<|BA.map D.str).set lf<|.lst []) _;generalize (S.set ln<|.lst<|BA.map D.str).set lf (.lst [])=S2 at A2 Jo hf2 Eu⊢;refine !{mr,λp hp=>!{l,_,rfl,(by decide),(by decide),wl A2 hp,λn4 h40 h41=>bK h40 h41 hp λd hd=>?_}};obtain⟨m,rfl,hm0,hm⟩:∃m:Nat,d=.int m/\1<=m/\m<=9:=by have hd:d∈[D.int 5,.int 5,.int 5,.int 9]:=hd;simp only[zh,zI,or_false]at hd;rcases hd with h|h|h|h;exact{5,h,by decide,by decide};exact{5,h,by decide,by decide};exact{5,h,by decide,by decide};exact{9,h,by decide,by decide}
 refine{l,_,rfl,(by lia),js (by lia)<|by lia,A2,λn h0 h1=>{n,rfl,by lia,by lia,?_}};refine{λi aJ S'=>∃(o3 o4:Option D)(cs:List (Str×Str))(M:List Str),aJ=[some<|.ref l,some<|.ref ln,some<|.ref lf,o3,o4]/\(cs.map Prod.fst++M).Perm BA/\(∀c∈cs,c.2 ="number"\/c.2 ="word")/\cs.length=i/\S' ln=some (.lst<|M.map D.str)/\S' lf=some (.lst<|cs.map aA)/\S' l=some .well/\Sub S S',{none,none,[],BA,rfl,.refl _,λ_ h=>(nomatch h),rfl,Jo,hf2,A2,Eu},λ_ _ _ _=>trivial,?_,?_};rintro i d aJ S' hd ⟨o3,o4,cs,M,rfl,M_,hk,Cs,hM,hF,hW,hs⟩;have hd:(eF 0 n.toNat)[i]?=some d:=hd;obtain⟨hi,rfl⟩:=eW hd;have hMl:M.length=12-i:=by have:=M_.length_eq;rw[zC,zb,Cs]at this;have h12:BA.length=12:=rfl;lia
 have Na:(M.map D.str).length=M.length:=zb _;refine{_,rfl,{rfl,_,hM},_,rfl,_,rfl,_,rfl,.inl {_,hM,l,_,rfl,by lia,js (by lia)<|by lia,hW,λj hj0 hj1=>?_}};obtain⟨jn,rfl⟩:∃jn:Nat,j=(jn:Int):={j.toNat,by lia};have P0:jn<M.length:=by lia
 have hz:M[jn]?=some (M[jn]'P0):=zj P0;generalize M[jn]'P0=z at hz;refine{ln,_,_,jn,.str z,rfl,rfl,hM,by lia,by lia,C6<|by lia,by rw[zw,hz];rfl,?_};rw[<-nu];have Zi:(S'.set ln<|.lst<|(M.eraseIdx jn).map D.str) lf=some (.lst<|cs.map aA):=(ae Wk.symm).trans hF;have Zj:(S'.set ln<|.lst<|(M.eraseIdx jn).map D.str) l=some .well:=(ae Zh).trans hW;have hM3:(S'.set ln<|.lst<|(M.eraseIdx jn).map D.str) ln=some (.lst<|(M.eraseIdx jn).map D.str):=aa;have Sl:Sub S (S'.set ln<|.lst<|(M.eraseIdx jn).map D.str):=λb c hb=>(ae<|eP hb Pb).trans<|hs b c hb;generalize S'.set ln (.lst<|(M.eraseIdx jn).map D.str)=S3 at Zi Zj hM3 Sl⊢;refine{_,rfl,{rfl,_,Zi},_,rfl,bI,λp hp=>!{l,_,rfl,(by decide),(by decide),wl Zj hp,λn2 P1 F9=>bK P1 F9 hp λd hd=>?_}};obtain⟨kd,rfl,Zk⟩:∃kd:Str,d=.str kd/\(kd ="number"\/kd ="word"):=by have hd:d∈[D.str "number",.str "word"]:=hd;simp only[zh,zI,or_false]at hd;rcases hd with h|h;exact{_,h,.inl rfl};exact{_,h,.inr rfl}
 refine{bI,lf,_,_,rfl,rfl,Zi,bg<|by rw[zb];lia,?_};refine{_,_,cs++[(z,kd)],M.eraseIdx jn,rfl,?_,λc hc=>?_,by rw[zC,Cs];rfl,(ae Wk).trans hM3,by rw[aa,zL];rfl,(ae hnf).trans Zj,λb c hb=>(ae<|eP hb US).trans<|Sl b c hb};rw[zL,List.append_assoc];exact((k7 hz).append_left _).trans M_;rcases zN.mp hc with hc|hc;exact hk c hc;rw[zE.mp hc];exact Zk;rintro aJ S' ⟨o3,o4,cs,M,rfl,M_,hk,Cs,hM,hF,hW,hs⟩;rw[show({eF 0 n.toNat,λ_=>True}:uJ).xs.length=n.toNat from cu]at Cs;have YZ:=M_.nodup_iff.mpr Fj;have Ew:∀c∈cs,c.1∈BA:=λc hc=>M_.mem_iff.mp<|zS _<|zf.mpr ⟨c,hc,rfl⟩;exact fo {o3,o4,cs,rfl,{{by lia,(List.nodup_append.mp YZ).1,λc hc=>{(Ik _<|Ew c hc).1,hk c hc}},Ew},hF,hs};rintro aJ S' ⟨o3,o4,cs,rfl,hc,hF,hs⟩;exact !{_,_,rfl,.inl hF,S,hs,q cs hc}
abbrev Kn:=List<|Str×List D
noncomputable def rq(kn:Kn):List (Key×D):=kn.map λr=>(Sum.inr r.1,D.tup r.2)
noncomputable def ir(kn:Kn)(z:Str):Option (List D):=(kn.find? λr=>decide<|r.1=z).map (·.2)
structure KI(cs:List (Str×Str))(kn:Kn):Prop where
 nd:(kn.map (·.1)).Nodup
 ok:∀r∈kn,r.1∈KS/\Wg cs r.2
theorem bL:ir (r::kn) k=if r.1=k then some r.2 else ir kn k:=by unfold ir;rw[yb];by_cases h:r.1=k;rw[zx h,if_pos h];rfl;rw[zy h,if_neg h]
theorem xV(kn:Kn)(k:Str):bT (rq kn) (.inr k)=(ir kn k).map D.tup:=by induction kn with|nil=>rfl|cons r kn ih=>rw[bL];unfold bT rq at *;rw[zq,yb];by_cases h:r.1=k;have:decide ((Sum.inr r.1:Key)=.inr k)=true:=zx (by rw[h]);dsimp only;rw[this,if_pos h];rfl;have:decide ((Sum.inr r.1:Key)=.inr k)=false:=zy λe=>h<|yM e;dsimp only;rw[this,if_neg h];exact ih
theorem vH(h:ir kn k=some ws):(k,ws)∈kn:=by induction kn with|nil=>(cases h)|cons r kn ih=>rw[bL]at h;by_cases hk:r.1=k;rw[if_pos hk]at h;cases h;rw[<-hk];exact zi;rw[if_neg hk]at h;exact ze _<|ih h
theorem rA(h:k∈kn.map (·.1)):∃ws,ir kn k=some ws:=by induction kn with|nil=>(cases h)|cons r kn ih=>rw[bL];by_cases hk:r.1=k;exact{r.2,if_pos hk};rw[if_neg hk];rw[zq]at h;rcases zh.mp h with e|h;exact absurd e.symm hk;exact ih h
theorem sub_len[DecidableEq α]:∀{l m:List α},l.Nodup->(∀x∈l,x∈m)->l.length<=m.length|[],m,_,_=>zZ _|a::l,m,nd,h=>by obtain⟨n1,n2⟩:=yo.mp nd;have h1:=sub_len (m:=m.erase a) n2 λx hx=>(List.mem_erase_of_ne λe=>n1<|by rw[<-e];exact hx).mpr<|h x<|ze _ hx;have h2:=List.length_erase_of_mem<|h a zi;have h3:0<m.length:=List.length_pos_of_mem<|h a zi;rw[zJ];omega
theorem KI.len(h:KI cs kn):kn.length<=60:=by
 have:=sub_len h.nd (m:=KS) λx hx=>by obtain⟨r,hr,rfl⟩:=zf.mp hx;exact(h.ok r hr).1
 rw[zb]at this;exact zH this<|by trivial
noncomputable def nY(kn:Kn)(z:Str)(ws:List D):Kn:=if (ir kn z).isSome then kn.map λr=>if r.1=z then (r.1,ws) else r else kn++[(z,ws)]
noncomputable def vI(kn:Kn)(z:Str):Kn:=kn.filter λr=>decide<|r.1≠z
theorem P2(kn:Kn)(z:Str)(ws:List D):dput (rq kn) (.inr z) (.tup ws)=rq (nY kn z ws):=by
 unfold dput nY;have e:((rq kn).any λkv=>decide<|kv.1=.inr z)=(ir kn z).isSome:=by induction kn with|nil=>rfl|cons r kn ih=>unfold rq at *;rw[zq,yt,ih,bL];by_cases h:r.1=z;rw[if_pos h,zx<|by rw[h],Bool.true_or];rfl;rw[if_neg h,zy λe=>h<|yM e,yU]
 rw[e];split;unfold rq;rw[zD,zD];refine zW λr _=>?_;dsimp only[Function.comp];by_cases h:r.1=z;rw[if_pos h,if_pos<|by rw[h]];rw[if_neg h,if_neg λe=>h<|yM e];unfold rq;rw[zL];rfl
theorem P4(kn:Kn)(z:Str):wV (rq kn) (.inr z)=rq (vI kn z):=by unfold wV vI rq;rw[List.filter_map];congr 1;refine List.filter_congr λr _=>?_;dsimp only[Function.comp];rw[yL];exact{λh e=>h<|by rw[e],λh e=>h<|yM e}
theorem LC:ir (nY kn z ws) k=if k=z then some ws else ir kn k:=by
 unfold nY;by_cases hs:(ir kn z).isSome=true;rw[if_pos hs];by_cases hk:k=z;subst hk;rw[if_pos rfl];induction kn with|nil=>(cases hs)|cons r rs ih=>rw[zq,bL];by_cases h:r.1=k;rw[if_pos h,if_pos h];rw[if_neg h,if_neg h];rw[bL,if_neg h]at hs;exact ih hs
 rw[if_neg hk];clear hs;induction kn with|nil=>rfl|cons r rs ih=>rw[zq,bL,bL,ih];by_cases h:r.1=z;rw[if_pos h,if_neg<|show ¬r.1=k from λe=>hk<|e.symm.trans h,if_neg<|show ¬r.1=k from λe=>hk<|e.symm.trans h];rw[if_neg h]
 rw[if_neg hs];have hn:ir kn z=none:=by cases e:ir kn z<;>simp_all
 clear hs;induction kn with|nil=>rw[List.nil_append,bL];by_cases hk:k=z;rw[if_pos hk,if_pos hk.symm];rw[if_neg hk,if_neg λe=>hk e.symm]|cons r rs ih=>rw[bL]at hn;by_cases h:r.1=z;rw[if_pos h]at hn;cases hn;rw[if_neg h]at hn;rw[List.cons_append,bL,bL,ih hn];by_cases h2:r.1=k;rw[if_pos h2,if_pos h2,if_neg<|show ¬k=z from λe=>h<|h2.trans e];rw[if_neg h2,if_neg h2]
theorem LD:ir (vI kn z) k=if k=z then none else ir kn k:=by unfold vI;induction kn with|nil=>(split<;>rfl)|cons r kn ih=>rw[yz,bL];by_cases h:r.1=z;rw[if_neg<|by simp[h],ih];by_cases hk:k=z;rw[if_pos hk,if_pos hk];rw[if_neg hk,if_neg hk,if_neg<|show ¬r.1=k from λe=>hk<|e.symm.trans h];rw[if_pos<|by simp[h],bL,ih];by_cases hk:k=z;rw[if_pos hk,if_pos hk,if_neg<|show ¬r.1=k from λe=>h<|e.trans hk];rw[if_neg hk,if_neg hk]
theorem KI.put(h:KI cs kn)(hz:z∈KS)(hw:Wg cs ws):KI cs (nY kn z ws):=by
 unfold nY;split;refine{?_,λr hr=>?_};have:(kn.map λr=>if r.1=z then (r.1,ws) else r).map (·.1)=kn.map (·.1):=by rw[zD];exact zW λr _=>by dsimp only[Function.comp];split<;>rfl
 rw[this];exact h.nd;obtain⟨r0,wj,e⟩:=zf.mp hr;by_cases q:r0.1=z;rw[if_pos q]at e;subst e;exact{(h.ok r0 wj).1,hw};rw[if_neg q]at e;subst e;exact h.ok r0 wj;rename_i hs;refine{?_,λr hr=>?_};rw[zL];refine lM h.nd λm=>hs ?_;obtain⟨Wl,e⟩:=rA m;show(ir kn z).isSome=true;rw[show ir kn z=some Wl from e];rfl;rcases zN.mp hr with hr|hr;exact h.ok r hr;rw[zE.mp hr];exact⟨hz,hw⟩
theorem KI.del(h:KI cs kn)(z:Str):KI cs (vI kn z):={(List.Sublist.map _ yq).nodup h.nd,λr hr=>h.ok r (zY.mp hr).1}
def Ly(S:aw)(n:Nat)(d:D):Prop:=∃p,Dp S d p/\p.canLay0=true/\p.depth<=n
theorem Ly.all:∀{ds:List D},(∀d∈ds,Ly S n d)->∃ps:List PyData,DpAll S ds ps/\PyData.canLayAll0 ps=true/\PyData.depthAll ps<=n/\ps.length=ds.length|[],_=>{[],by simp only[DpAll],rfl,zZ _,rfl}|d::ds,h=>by obtain⟨p,h1,h2,h3⟩:=h d zi;obtain⟨ps,k1,k2,k3,k4⟩:=Ly.all λx hx=>h x<|ze _ hx;refine{p::ps,by simp only[DpAll];exact⟨p,ps,rfl,h1,k1⟩,by simp only[PyData.canLayAll0,h2,k2,Bool.and_self],by simp only[PyData.depthAll];lia,by rw[zJ,zJ,k4]}
theorem Ly.tup{S:aw}{n:Nat}{ds:List D}(h:∀d∈ds,Ly S n d):Ly S (n+1) (.tup ds):=by obtain⟨ps,k1,k2,k3,_⟩:=Ly.all h;exact{.tuple ps,by simp only[Dp];exact⟨ps,rfl,k1⟩,by simp only[PyData.canLay0];exact k2,by simp only[PyData.depth];lia}
theorem Ly.str(h:PyData.strOk z=true):Ly S 0 (.str z):={.str z,by simp only[Dp],by simp only[PyData.canLay0];exact h,by simp only[PyData.depth];lia}
theorem Ly.le(h:Ly S n d)(l:n<=m):Ly S m d:=by obtain⟨p,a,b,c⟩:=h;exact{p,a,b,zH c l}
theorem Ly.ax:Ly S 0 .ax:={.none,by simp only[Dp],by simp only[PyData.canLay0],by simp only[PyData.depth];lia}
theorem Ly.plain(h:bu d=true):Ly S 0 d:=by cases d with|ax=>exact Ly.ax|int i=>exact{.int i,by simp only[Dp],by simp only[PyData.canLay0],by simp only[PyData.depth];lia}|str z=>have h:(decide (z.cps.size<=40)&&PyData.strOk z)=true:=h;rw[zK]at h;exact Ly.str h.2|_=>cases h
theorem Ly.dl(h:Ly S n d):∃p,Dl S d p/\p.canLay0=true/\p.depth<=n:=by obtain⟨p,a,b,c⟩:=h;refine{p,?_,b,c};cases d with|ref x=>simp only[Dp]at a|_=>exact a
theorem Ly.lst{S:aw}{n:Nat}{a:Addr}{ds:List D}(e:S a=some (.lst ds))(h:∀d∈ds,Ly S n d):∃p,Dl S (.ref a) p/\p.canLay0=true/\p.depth<=n+1/\∀b,S b=some (.lst ds)->Dl S (.ref b) p:=by obtain⟨ps,k1,k2,k3,_⟩:=Ly.all h;exact{.list ps,⟨ds,ps,e,rfl,k1⟩,by simp only[PyData.canLay0];exact k2,by simp only[PyData.depth];lia,λb hb=>⟨ds,ps,hb,rfl,k1⟩}
theorem rB{S:aw}{a b:Addr}{ds:List D}{R:KD}{neg:Bool}(e1:S a=some (.lst ds))(e2:S b=some (.lst ds))(h:∀d∈ds,Ly S 60 d)(q:R (.bl<|!neg) S):Js neg (.ref a) (.ref b) S R:=by
 obtain⟨p,k1,k2,k3,k4⟩:=Ly.lst e1 h;have e:(if neg then !PyData.eqv p p else PyData.eqv p p)=!neg:=by rw[SeqAt.eqv_refl p k2];cases neg<;>rfl
 exact{p,p,k1,k4 b e2,k2,k2,.inl<|by lia,by rw[e];exact q}
theorem xW(ps:List PyData):PyData.eqv (.list ps) (.list [])=ps.isEmpty:=by cases ps<;>simp[PyData.eqv,PyData.eqvAll]
theorem Iv(ps:List PyData):PyData.eqv (.tuple ps) (.tuple [])=ps.isEmpty:=by cases ps<;>simp[PyData.eqv,PyData.eqvAll]
theorem LF{S:aw}{ds:List D}{R:KD}(h:∀d∈ds,Ly S 60 d)(q:R (.bl ds.isEmpty) S):Js false (.tup ds) (.tup []) S R:=by obtain⟨ps,k1,k2,k3,k4⟩:=Ly.all h;refine{.tuple ps,.tuple [],by simp only[Dl,Dp];exact⟨ps,rfl,k1⟩,by simp only[Dl,Dp];exact{[],rfl,by simp only[DpAll]},by simp only[PyData.canLay0];exact k2,by simp only[PyData.canLay0,PyData.canLayAll0],.inl<|by simp only[PyData.depth];lia,?_};rw[if_neg zd,Iv,show ps.isEmpty=ds.isEmpty by cases ps<;>cases ds<;>first|rfl|cases k4];exact q
theorem Wg.all(h:Wg cs ws):∀d∈ws,bu d=true:=by unfold Wg at h;induction h with|nil=>exact λ_ h=>(nomatch h)|cons r t ih=>intro d hd;rcases zh.mp hd with e|hd;rw[e];exact r.2;exact ih d hd
theorem Wg.ly{cs:List<|Str×Str}{ws:List D}(h:Wg cs ws){S:aw} : Ly S 1 (.tup ws):=Ly.tup λd hd=>Ly.plain<|h.all d hd
abbrev UT:=jr
abbrev Iw:=ft
abbrev P5:=ip
noncomputable def p3(p:Str×Str×Str):D:=.tup [.str p.1,.str p.2.1,.str p.2.2]
noncomputable def k8(z:Str):Bool:=decide (z ="up")||decide (z ="down")
noncomputable def Iy(z:Str):Bool:=decide (z ="first")||decide (z ="last")
theorem Iz(z a b:Str)(x y:V):(([(a,x),(b,y)]:List (Str×V)).lookup z).isSome=(decide (z=a)||decide (z=b)):=by rw[yd,yd];by_cases h:z=a;rw[show(z==a)=true by simp[h],zx h];rfl;rw[show(z==a)=false by simp[h],zy h];by_cases h2:z=b;rw[show(z==b)=true by simp[h2],zx h2];rfl;rw[show(z==b)=false by simp[h2],zy h2];rfl
noncomputable def fR(cs:List<|Str×Str)(p:Str×Str×Str):Bool:=decide (p.1∈cs.map Prod.fst)&&(k8 p.2.1&&Iy p.2.2)
noncomputable def xX(cs:List<|Str×Str)(ps:List<|Str×Str×Str)(wy:Str):Bool:=decide (ps.length<=8)&&(ps.all (fR cs)&&(decide ((ps.map Prod.fst).Nodup)&&k8 wy))
theorem mD(l:List<|Str×D)(z:Str)(h:bT (f_ l) (.inr z)=some d):∃p∈l,p.1=z/\d=p.2:=by
 have all:∀(l:List (Str×D))(c:List (Key×D)),bT (l.foldl (λc p=>dput c (.inr p.1) p.2) c) (.inr z)=some d->(∃p∈l,p.1=z/\d=p.2)\/bT c (.inr z)=some d:=by intro l;induction l with|nil=>intro c h;exact .inr h|cons p l ih=>intro c h;rcases ih _ h with⟨q,hq,e⟩|h;exact .inl {q,ze _ hq,e};rw[w_]at h;by_cases e:(.inr z:Key)=.inr p.1;rw[if_pos e]at h;exact .inl {p,zi,(yM e).symm,(zO h).symm};rw[if_neg e]at h;exact .inr h
 rcases all l [] h with h|h;exact h;cases h
def Zl(p:Str×Str×Str):Prop:=p.1.cps.size<=1000/\p.2.1.cps.size<=1000/\p.2.2.cps.size<=1000
inductive xY (ds:List D) (S:aw) (R:KD) (Z:KX):Prop where
 |mk (z) (h0:ds=[.str z]) (h1:R (.bl<|k8 z) S):xY ds S R Z
theorem uf(T:Txt w K mg t):Ok P w base T.u1 1 xY:=by refine T.u1.F.b_ E_ ?_;rintro _ _ _ _ _ _ _ S R Z hr ⟨z,e,q⟩;subst e;refine{_,(s1<|sr<|sF (cb cH T.az av<|ac (dv 0)<|ac (rY T.l_ gU) an)<|Jr<|Yw T.xy (dv 0)<|dg (v:=.ref t.i6) T.uV rfl λ_=>gY _),?_};refine !{_,_,_,_,rfl,cD,rfl,_,rfl,du !{z,rfl,rfl,?_}};rw[Iz];exact fo q
inductive xZ (ds:List D) (S:aw) (R:KD) (Z:KX):Prop where
 |mk (z) (h0:ds=[.str z]) (h1:R (.bl<|Iy z) S):xZ ds S R Z
theorem Fp(T:Txt w K mg t):Ok P w base T.Bh 1 xZ:=by refine T.Bh.F.b_ Fc ?_;rintro _ _ _ _ _ _ _ S R Z hr ⟨z,e,q⟩;subst e;refine{_,(s1<|sr<|sF (cb cH T.az av<|ac (dv 0)<|ac (rY T.l_ gU) an)<|Jr<|Yw T.xA (dv 0)<|dg (v:=.ref t.i7) T.uW rfl λ_=>gY _),?_};refine !{_,_,_,_,rfl,cD,rfl,_,rfl,du !{z,rfl,rfl,?_}};rw[Iz];exact fo q
inductive mE (ds:List D) (S:aw) (R:KD) (Z:KX):Prop where
 |mk (cs z) (h0:ds=[.tup<|cs.map aA,.str z]) (h1:Gd cs) (h2:z.cps.size<=1000) (h3:(∀k,(z,k)∈cs->R (.str k) S)) (h4:(z∉cs.map Prod.fst->R .ax S)):mE ds S R Z
theorem gp(T:Txt w K mg t):Ok P w base T.dF 3 mE:=by
 refine T.dF.F.b_ sN ?_;rintro _ _ _ _ _ _ _ S R Z hr ⟨cs,z,e,hg,hz,q1,q2⟩;subst e;refine{_,(sc (si (bY<|tv<|aH T.pR (qZ T) hr<|ac (dv 1) an) (s1<|sr dn) s0)<|s1<|sr<|mg1 hr.u (ct Hj T.HU Ct<|ac (dv 0) an)<|dv 1),?_};refine !{.str z,rfl,gt_str hz,_,rfl,?_};refine bP (λh=>?_) λh=>?_;have h:ki z=false:=nt h;refine fo<|q2 λm=>?_;obtain⟨c,hc,rfl⟩:=zf.mp m;rw[(hg.2.2 c hc).1]at h;cases h;have ek:cs.map aA=(cs.map λc=>(c.1,D.str c.2)).map CD:=by rw[zD];rfl
 refine !{(cs.map λc=>(c.1,D.str c.2)),by rw[ek],λp hp=>{p,_,rfl,aa,_,rfl,_,.inr z,aa,rfl,S,.new hp,?_}};have h1:=t5 (cs.map λc=>(c.1,D.str c.2)) z;cases q3:bT (f_<|cs.map λc=>(c.1,D.str c.2)) (.inr z) with|none=>(rw[q3]at h1;refine q2 λm=>?_;obtain⟨c,hc,e⟩:=zf.mp m;have:(cs.map λc=>(c.1,D.str c.2)).any (λp=>decide<|p.1=z)=true:=ym.mpr {_,zf.mpr ⟨c,hc,rfl⟩,zx e};rw[this]at h1;cases h1)|some d=>obtain⟨p,hp,e1,rfl⟩:=mD _ _ q3;obtain⟨c,hc,rfl⟩:=zf.mp hp;have e1:c.1=z:=e1;exact q1 c.2<|by rw[<-e1];exact hc
inductive ug (ds:List D) (S:aw) (R:KD) (Z:KX):Prop where
 |mk (cs p) (h0:ds=[.tup<|cs.map aA,p3 p]) (h1:Gd cs) (h2:Zl p) (h3:R (.bl<|fR cs p) S):ug ds S R Z
theorem BE(T:Txt w K mg t):Ok P w base T.u4 4 ug:=by
 have vJ:Ok P w base T.dF 3 (λds S R _=>∃cs z,ds=[.tup<|cs.map aA,.str z]/\Gd cs/\z.cps.size<=1000/\∀d,ah d=!decide (z∈cs.map Prod.fst)->R d S):=(gp T).Pa <| by rintro ds S R Z ⟨cs,z,e,hg,hz,q⟩;exact{cs,z,e,hg,hz,λk hk=>q _<|by rw[zx<|zf.mpr {_,hk,rfl}];rfl,λhn=>q _<|by rw[zy hn];rfl}
 refine T.u4.F.b_ Bp ?_;rintro _ _ _ _ _ _ _ S R Z hr ⟨cs,p,e,hg,hp,q⟩;subst e;refine{_,(sc (si (twd<|twor (bY<|tv<|cb cH T.az av<|ac (dv 1)<|ac (rY T.bt aW) an)<|tw1<|bq iK hr.u (cb aZ T.aV aI<|ac (dv 1) an) di) (s1<|sr db) s0)<|s1<|sr<|sF (cm kF hr.u (aH T.dF vJ hr<|ac (dv 0)<|ac (ix hr.u (dv 1) di) an) dn)<|sF (aH T.u1 (uf T) hr<|ac (ix hr.u (dv 1) di) an)<|Jr<|aH T.Bh (Fp T) hr<|ac (ix hr.u (dv 1) di) an),?_};refine !{_,_,_,_,rfl,aX,rfl,_,rfl,bh !!!⟨bh ?_⟩};refine !!!{cs,p.1,rfl,hg,hp.1,λd hd=>!⟨?_⟩};unfold fR at q;refine bP (λh=>?_) λh=>?_;have h:(!ah d)=true:=h;rw[hd,Bool.not_not]at h;rw[h,yc]at q;refine !!{p.2.1,rfl,_,rfl,?_};refine bP (λh2=>?_) λh2=>?_;rw[h2,yc]at q;exact !!{p.2.2,rfl,fo q};rw[h2,zU]at q;exact fo q;have h:(!ah d)=false:=h;rw[hd,Bool.not_not]at h;rw[h,zU]at q;exact fo q
inductive kl (t:iL) (ds:List D) (S:aw) (R:KD) (Z:KX):Prop where
 |mk (cs ps wy) (h0:ds=[.tup<|cs.map aA,.tup [.tup<|ps.map p3,.str wy]]) (h1:Gd cs) (h2:(∀p∈ps,Zl p)) (h3:(xX cs ps wy=true->R .ax S)) (h4:(xX cs ps wy=false->Z t.kL S)):kl t ds S R Z
theorem jt(T:Txt w K mg t):Ok P w base T.fM 5 (kl t):=by
 refine T.fM.F.b_ fj ?_;rintro _ _ _ _ _ _ _ S R Z hr ⟨cs,ps,wy,e,hg,hp,q1,q2⟩;subst e;have Na:(ps.map p3).length=ps.length:=zb _;refine{_,(sc (si (twd<|twor (bY<|tv<|cb cH T.az av<|ac (dv 1)<|ac (rY T.bt aW) an)<|tw1<|bq iK hr.u (cb aZ T.aV aI<|ac (dv 1) an) di) (s1<|qv ⟨T.cQ⟩ T.dP<|ac ds an) s0)<|sc (cC (i:=2) fj.nd<|ix hr.u (dv 1) di)<|sc (si (twd<|twor (bY<|tv<|cb cH T.az av<|ac (dv 2)<|ac (rY T.bt aW) an)<|tw1<|bq sG hr.u (cb aZ T.aV aI<|ac (dv 2) an)<|dg (v:=.int 8) T.i9 {_,rfl} λ_=>aO _) (s1<|qv ⟨T.cQ⟩ T.dP<|ac ds an) s0)<|sc (si (bY<|tv<|cb j_ T.kf fZ<|ac (sI (N:=["part","columns"]) (src:=[none,some 0]) (j7 (ag ke) ["columns","order","parts","names"] rfl rfl<|by trivial) (Jt<|dv 2) (pj<|show(["part","columns"]:List Str).Nodup by trivial) (aR rfl) aT (λ_ _ _ _ _=>sH) λ_ _ _ _ _=>(aH T.u4 (BE T) hr<|ac (dv 1)<|ac (dv 0) an)) an) (s1<|qv ⟨T.cQ⟩ T.dP<|ac ds an) s0)<|sc (MM (i:=3) (N:=["part"]) (src:=[none]) fj.nd (j7 (ag ke) ["columns","order","parts","names"] rfl rfl<|by trivial) (Jt<|dv 2) (pj<|show(["part"]:List Str).Nodup by trivial) (aR rfl) aT (λ_ _ _ _ _=>sH) λ_ _ _ _ _=>(ix hr.u (dv 0) di))<|sc (si (bq iK hr.u (lse (dv 3) T.aV T.M0)<|cb aZ T.aV aI<|ac (dv 3) an) (s1<|qv ⟨T.cQ⟩ T.dP<|ac ds an) s0)<|s1<|si (bY<|tv<|aH T.u1 (uf T) hr<|ac (ix hr.u (dv 1) di) an) (s1<|qv ⟨T.cQ⟩ T.dP<|ac ds an) s0),?_};refine !{_,_,_,_,rfl,aX,rfl,_,rfl,bh !!!⟨bh ?_⟩};refine !!!{_,_,_,_,rfl,aX,rfl,_,rfl,bh !!!⟨?_⟩};refine bP (λh=>?_) λh=>?_;have h:(8:Int)<(((ps.map p3).length:Nat):Int):=zB h;rw[Na]at h;exact{pF,fo<|q2<|by unfold xX;rw[zy<|by omega];rfl};have h:¬(8:Int)<(((ps.map p3).length:Nat):Int):=zP h;rw[Na]at h;have h8:ps.length<=8:=by omega
 unfold xX at q1 q2;rw[zx h8,yc]at q1 q2;refine !{_,.inl rfl,?_};refine fq (λd v=>∃p,d=p3 p/\v=.bl (fR cs p)) trivial (by show(ps.map p3).length<=_;omega) (λd hd Q hQ=>?_) λout ho p sW=>?_;obtain⟨p,M_,rfl⟩:=zf.mp hd;exact !!{cs,p,rfl,hg,hp p M_,hQ _ ⟨p,rfl,rfl⟩};have eo:out=(ps.map<|fR cs).map D.bl:=by have:∀{ps:List (Str×Str×Str)}{out:List D},Paired (λd v=>∃p,d=p3 p/\v=.bl (fR cs p)) (ps.map p3) out->out=(ps.map<|fR cs).map D.bl:=(by intro ps;induction ps with|nil=>(intro out h;cases h;rfl)|cons x ps ih=>intro out h;cases h with|cons r t=>obtain⟨p,e1,e2⟩:=r;have:x=p:=(by obtain⟨a,b,c⟩:=x;obtain⟨a',b',c'⟩:=p;unfold p3 at e1;injection e1 with e1;injection e1 with h1 e1;injection e1 with h2 e1;injection e1 with h3 _;injection h1 with h1;injection h2 with h2;injection h3 with h3;rw[show a=a' from h1,show b=b' from h2,show c=c' from h3]);rw[e2,ih t,<-this];rfl);exact this ho
 subst eo;refine{.ref p,ps.map<|fR cs,rfl,aa,_,rfl,?_};rw[show(ps.map<|fR cs).all id=ps.all (fR cs) from all_map];refine bP (λha=>?_) λha=>?_;have ha:=nt ha;exact{pF,S,.new sW,q2<|by rw[ha];rfl};have ha:=nf ha;rw[ha,yc]at q1 q2;refine !{_,.inl rfl,?_};refine comp_map (λd=>match d with|.tup (x::_)=>x|_=>.ax) trivial (by show(ps.map p3).length<=_;omega) (λd hd Q hQ=>?_) λp2 lL=>?_;obtain⟨p,M_,rfl⟩:=zf.mp hd;exact !!⟨hQ⟩;have e3:(ps.map p3).map (λd=>match d with|.tup (x::_)=>x|_=>.ax)=(ps.map Prod.fst).map D.str:=by rw[zD,zD];rfl
 rw[show({ps.map p3,λ_=>True}:uJ).xs=ps.map p3 from rfl,e3];have sb:Sub S ((S.set p<|.lst<|(ps.map<|fR cs).map D.bl).set p2<|.lst<|(ps.map Prod.fst).map D.str):=(Sub.new sW).trans<|.new lL;have UN:((S.set p<|.lst<|(ps.map<|fR cs).map D.bl).set p2<|.lst<|(ps.map Prod.fst).map D.str) p2=some (.lst<|(ps.map Prod.fst).map D.str):=aa;generalize (S.set p<|.lst<|(ps.map<|fR cs).map D.bl).set p2 (.lst<|(ps.map Prod.fst).map D.str)=S2 at sb UN⊢;refine !{ps.map Prod.fst,UN,by rw[zb];omega,_,rfl,_,rfl,.inl {_,UN,_,rfl,?_}};have e4:decide ((((iy<|ps.map Prod.fst).length:Nat):Int)=((((ps.map Prod.fst).map D.str).length:Nat):Int))=decide ((ps.map Prod.fst).Nodup):=by rw[yL,<-tT,zb];omega
 refine bP (λhn=>?_) λhn=>?_;have hn:(!decide ((((iy<|ps.map Prod.fst).length:Nat):Int)=((((ps.map Prod.fst).map D.str).length:Nat):Int)))=true:=hn;rw[e4]at hn;exact{pF,S,sb,q2<|by rw[nt hn];rfl};have hn:(!decide ((((iy<|ps.map Prod.fst).length:Nat):Int)=((((ps.map Prod.fst).map D.str).length:Nat):Int)))=false:=hn;rw[e4]at hn;rw[nf hn,yc]at q1 q2;refine !!{wy,rfl,_,rfl,?_};refine bP (λhw=>?_) λhw=>?_;exact{pF,S,sb,q2<|nt hw};exact{S,sb,q1<|nf hw}
theorem bF{p:Bool}{A B:Prop}(h:p=false)(q:B):if p=true then A else B:=by rw[h];exact bh q
theorem nZ{p:Bool}{A B:Prop}(h:p=true)(q:A):if p=true then A else B:=by rw[h];exact du q
def vK(o:Str)(c:Str×Str)(v:D):Prop:=o ="is"\/(v≠.ax/\(o ="below"\/o ="above"\/(o ="begins"/\c.2 ="word")))
def Lf(cs:List<|Str×Str)(d:D):Prop:=d=.tup [.str "every"]\/(∃ks:List Str,d=.tup [.str "key",.tup<|ks.map .str]/\ks.length<=8/\∀k∈ks,k∈KS)\/∃(o:Str) (c:Str×Str) (v:D),c∈cs/\Vg c.2 v/\vK o c v/\d=.tup [.str o,.str c.1,v]
def Sg(cs:List<|Str×Str):Nat->D->Prop|0,_=>False|n+1,d=>Lf cs d\/(∃e,d=.tup [.str "not",e]/\Sg cs n e)\/∃(o:Str) (ds:List D),(o ="and"\/o ="or")/\d=.tup [.str o,.tup ds]/\ds.length<=8/\∀e∈ds,Sg cs n e
theorem Nb{k:Str}{v:D}(h:Vg k v){S:aw} : Gt S v:=by have h:=h.2;cases v with|ax=>(exact{{_,rfl},λz e=>by cases e})|int i=>(exact{{_,rfl},λz e=>by cases e})|str z=>unfold bu at h;simp only[zK,zX]at h;exact gt_str (by lia)|_=>cases h
noncomputable def mF:D->List D|.tup [.str o,.tup ds]=>(if o ="not" then[.tup ds] else if o ="and"\/o ="or" then ds else[])|.tup [.str o,e]=>(if o ="not" then[e] else[])|_=>[]
noncomputable def iG:Nat->D->Nat|0,_=>0|n+1,d=>((mF d).map<|iG n).sum+1
theorem vL(e:D):mF (.tup [.str "not",e])=[e]:=by cases e<;>rfl
theorem vM{o:Str}(h:o ="and"\/o ="or")(ds:List D):mF (.tup [.str o,.tup ds])=ds:=by rcases h with rfl|rfl<;>rfl
def Sq(cs:List<|Str×Str)(d:D):Prop:=Sg cs 7 d/\iG 7 d<=200
inductive gN (ds:List D) (S:aw) (R:KD) (Z:KX):Prop where
 |mk (es) (h0:ds=[.tup es]) (h1:es.length<=8) (h2:R (.bl true) S):gN ds S R Z
theorem oM(T:Txt w K mg t):Ok P w base T.c_ 1 gN:=by refine T.c_.F.b_ mi ?_;rintro _ _ _ _ _ _ _ S R Z hr ⟨es,e,hl,q⟩;subst e;refine{_,(s1<|sr<|sF (cb cH T.az av<|ac (dv 0)<|ac (rY T.bt aW) an)<|Jr<|cm iY hr.u (cb aZ T.aV aI<|ac (dv 0) an)<|dg (v:=.int 8) T.kO {_,rfl} λ_=>aO _),?_};refine !{_,_,_,_,rfl,aX,rfl,_,rfl,du !!⟨?_⟩};have e1:decide (((es.length:Nat):Int)<=8)=true:=zx (by lia);show Fo S (R<|.bl<|decide<|((es.length:Nat):Int)<=8);rw[e1];exact fo q
inductive gq (ds:List D) (S:aw) (R:KD) (Z:KX):Prop where
 |mk (cs o c v) (h0:ds=[.tup<|cs.map aA,.tup [.str o,.str c.1,v]]) (h1:Gd cs) (h2:c∈cs) (h3:Vg c.2 v) (h4:vK o c v) (h5:R (.bl true) S):gq ds S R Z
theorem rC(T:Txt w K mg t):Ok P w base T.je 4 gq:=by
 refine T.je.F.b_ jg ?_;rintro _ _ _ _ _ _ _ S R Z hr ⟨cs,o,c,v,e,hg,hc,hv,ho,q⟩;subst e;have hn:∀k,(c.1,k)∈cs->k=c.2:=λk hk=>by have:=fQ hg.2.1 hk hc rfl;rw[<-this]
 refine{_,(sc (cC (i:=2) jg.nd<|aH T.dF (gp T) hr<|ac (dv 0)<|ac (ix hr.u (dv 1) di) an)<|sc (si (twd<|twor (bq jQ hr.u (dv 2) dn)<|tw1<|bY<|tv<|aH T.jc (jl T) hr<|ac (dv 2)<|ac (ix hr.u (dv 1) di) an) (s1<|sr db) s0)<|sc (si (bq bH hr.u (ix hr.u (dv 1) di) ds) (s1<|sr db) s0)<|sc (si (twd<|twand (bq bH hr.u (ix hr.u (dv 1) di) ds)<|tw1<|bq iK hr.u (dv 2) ds) (s1<|sr db) s0)<|s1<|sr<|cm kF hr.u (ix hr.u (dv 1) di) dn),?_};refine !!!{cs,c.1,rfl,hg,nV (hg.2.2 c hc).1,λk hk=>?_,λhk=>absurd (zf.mpr ⟨c,hc,rfl⟩) hk};cases hn k hk;refine !!⟨bh !!!{c.2,v,rfl,Nb hv,_,rfl,?_}⟩;rw[hv.1];refine bh !!!⟨?_⟩;rcases ho with rfl|⟨hvn,ho⟩;exact nZ (by trivial)<|fo q;have MS:ah v=false:=by cases v<;>first|rfl|exact absurd rfl hvn
 have e9:(!ah v)=true:=by rw[MS];rfl
 have fin:Fo S (R<|.bl<|!ah v):=by rw[e9];exact fo q
 rcases ho with rfl|rfl|⟨rfl,hw⟩;refine bF (by trivial) !!!⟨bF (by trivial) !!⟨fin⟩⟩;refine bF (by trivial) !!!⟨bF (by trivial) !!⟨fin⟩⟩;refine bF (by trivial) !!!⟨nZ (by trivial) !!⟨?_⟩⟩;rw[hw];exact bF (by trivial) !!⟨fin⟩
theorem LG(h:z∈KS):z.cps.size<=1000:=zH (iq z h).2.1<|by decide
inductive oN (ds:List D) (S:aw) (R:KD) (Z:KX):Prop where
 |mk (cs n d) (h0:ds=[.tup<|cs.map aA,d]) (h1:Gd cs) (h2:Sg cs n d) (h3:R (.bl true) S):oN ds S R Z
theorem vN(T:Txt w K mg t):Ok P w base T.nJ 5 oN:=by
 refine T.nJ.F.b_ vj ?_;rintro _ _ _ _ _ _ _ S R Z hr ⟨cs,n,d,e,hg,hs,q⟩;subst e;refine{_,(sc (si (twd<|twor (bY<|tv<|cb cH T.az av<|ac (dv 1)<|ac (rY T.bt aW) an)<|twor (bq bH hr.u (cb aZ T.aV aI<|ac (dv 1) an) di)<|tw1<|bY<|tv<|cb cH T.az av<|ac (ix hr.u (dv 1) di)<|ac (rY T.l_ gU) an) (s1<|sr db) s0)<|sc (si (bq iK hr.u (mgk T.E7 (by decide) (gK T.Be)<|ix hr.u (dv 1) di)<|cb aZ T.aV aI<|ac (dv 1) an) (s1<|sr db) s0)<|sc (si (bq G6 hr.u (ix hr.u (dv 1) di)<|bw<|ac ds<|ac ds<|ac ds<|ac ds an) (s1<|sr<|aH T.je (rC T) hr<|ac (dv 0)<|ac (dv 1) an) s0)<|sc (si (bq bH hr.u (ix hr.u (dv 1) di) ds) (s1<|sr<|sF (aH T.c_ (oM T) hr<|ac (ix hr.u (dv 1) di) an)<|Jr<|cb j_ T.kf fZ<|ac (sI (N:=["key"]) (src:=[none]) (j7 (ag xq) ["columns","thing"] rfl rfl<|by trivial) (Jt<|ix hr.u (dv 1) di) (pj<|show(["key"]:List Str).Nodup by trivial) (aR rfl) aT (λ_ _ _ _ _=>sH) λ_ _ _ _ _=>(aH T.kQ (gI T) hr<|ac (dv 0) an)) an) s0)<|sc (si (bq G6 hr.u (ix hr.u (dv 1) di)<|bw<|ac ds<|ac ds an) (s1<|sr<|aH T.c_ (oM T) hr<|ac (ix hr.u (dv 1) di) an) s0)<|s1<|sr db),?_};cases n with|zero=>exact hs.elim|succ n =>
 rcases hs with (rfl|⟨ks,rfl,hk8,A7⟩|⟨o,c,v,hc,hv,ho,rfl⟩)|⟨e,rfl,he⟩|⟨o,es,ho,rfl,rD,_⟩;refine !{_,_,_,_,rfl,aX,rfl,_,rfl,bh !!!⟨bF rfl !!{_,_,_,_,rfl,cD,rfl,_,rfl,bh ?_}⟩};refine !!!!!!⟨bF rfl ?_⟩;exact !!{mr,rfl,rfl,_,rfl,bF (by trivial) !!!⟨bF (by trivial) !!{bI,rfl,rfl,_,rfl,bF (by trivial)<|fo q}⟩};refine !{_,_,_,_,rfl,aX,rfl,_,rfl,bh !!!⟨bF rfl !!{_,_,_,_,rfl,cD,rfl,_,rfl,bh ?_}⟩};refine !!!!!!⟨bF rfl ?_⟩;refine !!{mr,rfl,rfl,_,rfl,bF (by trivial) !!!⟨nZ (by trivial) ?_⟩};refine !!!{by rw[zb];exact hk8,_,rfl,du !!{_,.inl rfl,?_}};refine comp_map (λ_=>.bl true) trivial (by show(ks.map D.str).length<=1000;rw[zb];lia) (λd hd Q hQ=>?_) λp hp=>?_;obtain⟨k,hk,rfl⟩:=zf.mp hd;refine !{.str k,rfl,gt_str<|LG<|A7 k hk,?_};show Q (.bl<|jW k) S;rw[(iq k<|A7 k hk).1];exact hQ;have e2:(ks.map D.str).map (λ_=>D.bl true)=(ks.map λ_=>true).map D.bl:=by rw[zD,zD];rfl
 have e3:(ks.map λ_=>true).all id=true:=by rw[all_map];exact ya.mpr λ_ _=>rfl
 refine{.ref p,ks.map λ_=>true,rfl,?_,S,.new hp,?_};show(S.set p<|.lst<|(ks.map D.str).map _) p=_;rw[aa,e2];rw[e3];exact q;have h4:o ="is"\/o ="below"\/o ="above"\/o ="begins":=by rcases ho with h|⟨_,h|h|⟨h,_⟩⟩;exact .inl h;exact .inr<|.inl h;exact .inr<|.inr<|.inl h;exact .inr<|.inr<|.inr h
 refine !{_,_,_,_,rfl,aX,rfl,_,rfl,bh !!!⟨bF rfl !!{_,_,_,_,rfl,cD,rfl,_,rfl,bh ?_}⟩};have fin:∀Zq:KX,gq [D.tup<|cs.map aA,.tup [.str o,.str c.1,v]] S (λd S'=>Fo S'<|R d) Zq:=λ_=>{cs,o,c,v,rfl,hg,hc,hv,ho,fo q};rcases h4 with rfl|rfl|rfl|rfl;exact !!!!!!⟨bF rfl !!{mr,rfl,rfl,_,rfl,nZ (by trivial) !!⟨(fin _)⟩}⟩;exact !!!!!!⟨bF rfl !!{mr,rfl,rfl,_,rfl,nZ (by trivial) !!⟨(fin _)⟩}⟩;exact !!!!!!⟨bF rfl !!{mr,rfl,rfl,_,rfl,nZ (by trivial) !!⟨(fin _)⟩}⟩;exact !!!!!!⟨bF rfl !!{mr,rfl,rfl,_,rfl,nZ (by trivial) !!⟨(fin _)⟩}⟩;refine !{_,_,_,_,rfl,aX,rfl,_,rfl,bh !!!⟨bF rfl !!{_,_,_,_,rfl,cD,rfl,_,rfl,bh ?_}⟩};refine !!!!!!⟨bF rfl ?_⟩;exact !!{mr,rfl,rfl,_,rfl,bF (by trivial) !!!⟨bF (by trivial) !!{bI,rfl,rfl,_,rfl,bF (by trivial)<|fo q}⟩};have h8:es.length<=8:=by lia
 rcases ho with rfl|rfl;refine !{_,_,_,_,rfl,aX,rfl,_,rfl,bh !!!⟨bF rfl !!{_,_,_,_,rfl,cD,rfl,_,rfl,bh ?_}⟩};refine !!!!!!⟨bF rfl ?_⟩;exact !!{mr,rfl,rfl,_,rfl,bF (by trivial) !!!⟨bF (by trivial) !!{bI,rfl,rfl,_,rfl,nZ (by trivial) !!!{h8,fo q}}⟩};refine !{_,_,_,_,rfl,aX,rfl,_,rfl,bh !!!⟨bF rfl !!{_,_,_,_,rfl,cD,rfl,_,rfl,bh ?_}⟩};refine !!!!!!⟨bF rfl ?_⟩;exact !!{mr,rfl,rfl,_,rfl,bF (by trivial) !!!⟨bF (by trivial) !!{bI,rfl,rfl,_,rfl,nZ (by trivial) !!!{h8,fo q}}⟩}
inductive iH (ds:List D) (S:aw) (R:KD) (Z:KX):Prop where
 |mk (l es cs m) (h0:ds=[.ref l]) (h1:S l=some (.lst es)) (h2:(es.flatMap mF).length<=900) (h3:(∀e∈es,Sg cs (m+1) e)) (h4:∀p,S p=none->R (.ref p) (S.set p<|.lst<|es.flatMap mF)):iH ds S R Z
theorem n6(T:Txt w K mg t):Ok P w base T.gk 1 iH:=by
 refine T.gk.F.b_ dI ?_;rintro _ _ _ _ _ _ _ S R Z hr ⟨l,es,cs,m,e,hl,h8,rD,q⟩;subst e;refine{_,(sc (cC (i:=1) dI.nd<|cK an)<|sc (A4<|Ju (il<|dv 0) (gn (i:=2) dI.nd)<|sc (A4<|si (bq bH hr.u (ix hr.u (dv 2) di) ds) (s1<|se<|bm zQ yh yi cY (dv 1)<|ac (ix hr.u (dv 2) di) an) s0)<|s1<|si (bq G6 hr.u (ix hr.u (dv 2) di)<|bw<|ac ds<|ac ds an) (s1<|se<|bm zQ PySem.F.slot_list_extend PySem.F.type_list_extend EO (dv 1)<|ac (ix hr.u (dv 2) di) an) s0)<|s1<|sr<|dv 1),?_};refine{vp,λf hf=>?_};have M9:l≠f:=eP hl hf;refine{λaJ S'=>∃o,aJ=[some<|.ref l,some<|.ref f,o]/\S'=S.set f (.lst<|es.flatMap mF),?_,?_};refine !{es,(ae M9).trans hl,?_};refine{λi aJ S'=>∃o,aJ=[some<|.ref l,some<|.ref f,o]/\S'=S.set f (.lst<|(es.take i).flatMap mF),⟨none,rfl,rfl⟩,?_,?_,?_};rintro i aJ S' ⟨o,rfl,rfl⟩;exact(ae M9).trans hl;rintro i e aJ S' he ⟨o,rfl,rfl⟩;have he:es[i]?=some e:=he;have hem:=rD e<|zG he;have et:(es.take<|i+1).flatMap mF=(es.take i).flatMap mF++mF e:=by rw[List.take_add_one,he,List.flatMap_append];simp
 have LH:((es.take i).flatMap mF).length+(mF e).length<=900:=by rw[<-zC,<-et];refine zH ?_ h8;(conv=>rhs;rw[<-List.take_append_drop (i+1) es,List.flatMap_append,zC]);exact Nat.le_add_right _ _
 generalize (es.take i).flatMap mF=fs at et LH⊢;have Rl:(S.set f<|.lst fs) f=some (.lst fs):=aa;have keep:mF e=[]->∃o,[some<|D.ref l,some<|D.ref f,some e]=[some<|.ref l,some<|.ref f,o]/\S.set f (.lst fs)=S.set f (.lst<|(es.take<|i+1).flatMap mF):=λh=>!⟨by rw[et,h,List.append_nil]⟩;have more:∀ds,mF e=ds->∃o,[some<|D.ref l,some<|D.ref f,some e]=[some<|.ref l,some<|.ref f,o]/\(S.set f<|.lst fs).set f (.lst<|fs++ds)=S.set f (.lst<|(es.take<|i+1).flatMap mF):=λds h=>!⟨by rw[et,h,eO]⟩;rcases hem with (rfl|⟨ks,rfl,_,_⟩|⟨o,c,v,_,_,ho,rfl⟩)|⟨e',rfl,VW⟩|⟨o,ds,ho,rfl,hds,hd⟩;refine{λpL S2=>pL=_/\S2=S.set f (.lst fs),!!!⟨bF (by trivial)<|fo ⟨rfl,rfl⟩⟩,?_};rintro _ _ ⟨rfl,rfl⟩;exact !!{bI,rfl,rfl,_,rfl,bF (by trivial)<|keep rfl};refine{λpL S2=>pL=_/\S2=S.set f (.lst fs),!!!⟨bF (by trivial)<|fo ⟨rfl,rfl⟩⟩,?_};rintro _ _ ⟨rfl,rfl⟩;exact !!{bI,rfl,rfl,_,rfl,bF (by trivial)<|keep rfl};rcases ho with rfl|⟨_,rfl|rfl|⟨rfl,_⟩⟩;refine{λpL S2=>pL=_/\S2=S.set f (.lst fs),!!!⟨bF (by trivial)<|fo ⟨rfl,rfl⟩⟩,?_};rintro _ _ ⟨rfl,rfl⟩;exact !!{bI,rfl,rfl,_,rfl,bF (by trivial)<|keep rfl};refine{λpL S2=>pL=_/\S2=S.set f (.lst fs),!!!⟨bF (by trivial)<|fo ⟨rfl,rfl⟩⟩,?_};rintro _ _ ⟨rfl,rfl⟩;exact !!{bI,rfl,rfl,_,rfl,bF (by trivial)<|keep rfl};refine{λpL S2=>pL=_/\S2=S.set f (.lst fs),!!!⟨bF (by trivial)<|fo ⟨rfl,rfl⟩⟩,?_};rintro _ _ ⟨rfl,rfl⟩;exact !!{bI,rfl,rfl,_,rfl,bF (by trivial)<|keep rfl};refine{λpL S2=>pL=_/\S2=S.set f (.lst fs),!!!⟨bF (by trivial)<|fo ⟨rfl,rfl⟩⟩,?_};rintro _ _ ⟨rfl,rfl⟩;exact !!{bI,rfl,rfl,_,rfl,bF (by trivial)<|keep rfl};refine{λpL S2=>pL=_/\S2=(S.set f<|.lst fs).set f (.lst<|fs++[e']),!!!⟨nZ (by trivial) !⟨{rfl,_,Rl},_,rfl,_,rfl,f,_,_,rfl,rfl,Rl,bg<|by rw[vL]at LH;simp at LH;omega,fo ⟨rfl,rfl⟩⟩⟩,?_};rintro _ _ ⟨rfl,rfl⟩;exact !!{bI,rfl,rfl,_,rfl,bF (by trivial)<|more _<|vL e'};have Zm:=vM ho ds;rw[Zm]at LH;rcases ho with rfl|rfl;refine{λpL S2=>pL=_/\S2=S.set f (.lst fs),!!!⟨bF (by trivial)<|fo ⟨rfl,rfl⟩⟩,?_};rintro _ _ ⟨rfl,rfl⟩;exact !!{bI,rfl,rfl,_,rfl,nZ (by trivial) !⟨{rfl,_,Rl},_,rfl,_,rfl,f,_,_,rfl,rfl,Rl,sm<|by omega,more _ Zm⟩};refine{λpL S2=>pL=_/\S2=S.set f (.lst fs),!!!⟨bF (by trivial)<|fo ⟨rfl,rfl⟩⟩,?_};rintro _ _ ⟨rfl,rfl⟩;exact !!{bI,rfl,rfl,_,rfl,nZ (by trivial) !⟨{rfl,_,Rl},_,rfl,_,rfl,f,_,_,rfl,rfl,Rl,sm<|by omega,more _ Zm⟩};rintro aJ S' ⟨o,rfl,rfl⟩;refine fo {o,rfl,?_};rw[show({es,λS=>S l=some (.lst es)}:uJ).xs=es from rfl,yJ];rintro aJ S' ⟨o,rfl,rfl⟩;exact{_,rfl,fo<|q f hf}
theorem IA{cs:List<|Str×Str}{n:Nat}{d:D}(h:Sg cs (n+1) d):∀f∈mF d,Sg cs n f:=by
 rcases h with (rfl|⟨ks,rfl,_,_⟩|⟨o,c,v,_,_,ho,rfl⟩)|⟨e',rfl,VW⟩|⟨o,ds,ho,rfl,hds,hd⟩;exact nofun;exact nofun;exact nofun;rw[vL];exact λf hf=>by rw[zE.mp hf];exact VW
 rw[vM ho];exact hd
theorem IB(n:Nat):∀es:List D,(es.map<|iG<|n+1).sum=es.length+((es.flatMap mF).map<|iG n).sum|[]=>rfl|e::es=>by have:=IB n es;rw[zq,List.sum_cons,zJ,List.flatMap_cons,zL,List.sum_append,this,show iG (n+1) e=((mF e).map<|iG n).sum+1 from rfl];lia
theorem P6{cs:List<|Str×Str}{n:Nat}{es:List D}(h:∀e∈es,Sg cs (n+1) e):(es.flatMap mF).length<=((es.flatMap mF).map<|iG n).sum:=by
 have h:∀f∈es.flatMap mF,Sg cs n f:=λf hf=>by obtain⟨e,he,hf⟩:=List.mem_flatMap.mp hf;exact IA (h e he) f hf
 generalize es.flatMap mF=fs at h⊢;induction fs with|nil=>exact zp _|cons f fs ih=>have h1:=h f zi;have ih:=ih λx hx=>h x<|ze _ hx;have:1<=iG n f:=(by cases n with|zero=>exact h1.elim|succ n=>exact Nat.le_add_left _ _);rw[zq,List.sum_cons,zJ];lia
inductive km (ds:List D) (S:aw) (R:KD) (Z:KX):Prop where
 |mk (cs d) (h0:ds=[.tup<|cs.map aA,d]) (h1:Gd cs) (h2:Sq cs d) (h3:R .ax S):km ds S R Z
theorem fu(T:Txt w K mg t):Ok P w base T.dR 6 km:=by
 refine T.dR.F.b_ bE ?_;rintro _ _ _ _ _ _ _ S R Z hr ⟨cs,d,e,hg,hd,q⟩;subst e;refine{_,(sc (cC (i:=2) bE.nd<|cK<|ac (dv 1) an)<|sc (cC (i:=3) bE.nd di)<|sc (cC (i:=4) bE.nd di)<|s1<|swh (bq sG hr.u (cb aZ T.aV aI<|ac (dv 2) an) di)<|sc (sau (i:=3) bE.nd di)<|sc (sau (i:=4) bE.nd<|cb aZ T.aV aI<|ac (dv 2) an)<|sc (si (twd<|twor (bq sG hr.u (dv 3)<|dg (v:=.int 8) T.uT {_,rfl} λ_=>aO _)<|tw1<|bq sG hr.u (dv 4)<|dg (v:=.int 200) T.i_ {_,rfl} λ_=>aO _) (s1<|qv ⟨T.h_⟩ T.oz<|ac ds an) s0)<|sc (si (bY<|tv<|cb j_ T.kf fZ<|ac (sI (N:=["thing","columns"]) (src:=[none,some 0]) (j7 (ag sL) ["columns","sieve","level","deep","parts"] rfl rfl<|by trivial) (il<|dv 2) (pj<|show(["thing","columns"]:List Str).Nodup by trivial) (aR rfl) aT (λ_ _ _ _ _=>sH) λ_ _ _ _ _=>(aH T.nJ (vN T) hr<|ac (dv 1)<|ac (dv 0) an)) an) (s1<|qv ⟨T.h_⟩ T.oz<|ac ds an) s0)<|s1<|cC (i:=2) bE.nd<|aH T.gk (n6 T) hr<|ac (dv 2) an),?_};refine !{pF,λl0 UD=>?_};refine{λm aJ S'=>∃(l:Addr) (es:List D) (dp p:Nat),aJ=[some<|.tup<|cs.map aA,some d,some<|.ref l,some<|.int dp,some<|.int p]/\S' l=some (.lst es)/\Sub S S'/\(∀e∈es,Sg cs m e)/\dp+m=7/\p+(es.map<|iG m).sum<=200,{7,l0,[d],0,0,rfl,aa,.new UD,λe he=>by rw[zE.mp he];exact hd.1,rfl,by have:=hd.2;simp only[zq,yO,List.sum_cons,List.sum_nil];lia},?_};rintro m aJ S' ⟨l,es,dp,p,rfl,hl,sb,rD,hdp,hp⟩;refine !!⟨.inl {_,hl,_,rfl,?_}⟩;refine bP (λh1=>?_) λh1=>?_;have Ex:0<es.length:=by have h1:(0:Int)<((es.length:Nat):Int):=zB h1;lia
 obtain⟨e0,he0⟩:=List.exists_mem_of_length_pos Ex;obtain⟨n,rfl⟩:∃n,m=n+1:=by cases m with|zero=>exact(rD e0 he0).elim|succ n=>exact⟨n,rfl⟩
 have acW:=IB n es;have Sn:=P6 (cs:=cs) (n:=n) (es:=es) rD;refine !!!!!⟨.inl {_,hl,_,rfl,?_}⟩;refine !!⟨bF (zy<|by lia) !!⟨bF (zy<|by lia) ?_⟩⟩;refine !{es,hl,?_};refine comp_map (λ_=>.bl true) hl (by show es.length<=1000;lia) (λe he Q hQ=>?_) λp1 vO=>?_;exact !!{cs,_,e,rfl,hg,rD e he,hQ};have e2:es.map (λ_=>D.bl true)=(es.map λ_=>true).map D.bl:=by rw[zD];rfl
 have e3:(es.map λ_=>true).all id=true:=by rw[all_map];exact ya.mpr λ_ _=>rfl
 refine{.ref p1,es.map λ_=>true,rfl,?_,_,rfl,?_};show(S'.set p1<|.lst<|es.map _) p1=_;rw[aa,e2];rw[e3];refine bh ?_;have s1:=sb.trans<|.new (c:=.lst<|es.map λ_=>D.bl true) vO;have P7:(S'.set p1<|.lst<|es.map λ_=>D.bl true) l=some (.lst es):=(ae<|eP hl vO).trans hl;refine !{l,es,cs,n,rfl,P7,by lia,rD,λp2 h3=>?_};refine{n,yI n,p2,es.flatMap mF,dp+1,p+es.length,?_,aa,s1.trans<|.new h3,λf hf=>?_,by lia,by lia};show[_,_,_,some<|D.int<|((dp:Nat):Int)+1,some<|D.int<|((p:Nat):Int)+((es.length:Nat):Int)]=_;rw[show(((dp:Nat):Int)+1)=((dp+1:Nat):Int) by lia,show(((p:Nat):Int)+((es.length:Nat):Int))=((p+es.length:Nat):Int) by lia];obtain⟨e,he,hf⟩:=List.mem_flatMap.mp hf;exact IA (rD e he) f hf;exact⟨S,sb,q⟩
noncomputable def P8(cs:List<|Str×Str)(z:Str):Nat:=(cs.map Prod.fst).idxOf z
noncomputable def ao(cs:List<|Str×Str)(ws:List D)(z:Str):D:=(ws[P8 cs z]?).getD .ax
noncomputable def ai(r:Str×List D):D:=.tup [.str r.1,.tup r.2]
theorem rE:∀{l:List α}{m:List β},Paired rel l m->∀{i:Nat}{a:α},l[i]?=some a->∃b,m[i]?=some b/\rel a b|_,_,.nil,_,_,h=>by simp at h|_,_,.cons r t,0,a,h=>(by rw[List.getElem?_cons_zero]at h⊢;cases h;exact{_,rfl,r})|_,_,.cons r t,i+1,a,h=>by rw[List.getElem?_cons_succ]at h⊢;exact rE t h
theorem rF(hg:Gd cs)(h:c∈cs):cs[P8 cs c.1]?=some c/\(cs.map Prod.fst)[P8 cs c.1]?=some c.1:=by
 have hm:c.1∈cs.map Prod.fst:=zf.mpr ⟨c,h,rfl⟩;have hi:(cs.map Prod.fst).idxOf c.1<(cs.map Prod.fst).length:=List.idxOf_lt_length_of_mem hm;have e1:(cs.map Prod.fst)[(cs.map Prod.fst).idxOf c.1]?=some c.1:=by rw[zj hi,List.getElem_idxOf]
 refine{?_,e1};obtain⟨j,ej⟩:=List.getElem?_of_mem h;have ej1:(cs.map Prod.fst)[j]?=some c.1:=by rw[zw,ej];rfl
 obtain⟨b1,c1⟩:=zk.mp e1;obtain⟨b2,c2⟩:=zk.mp ej1;have:=(List.getElem_inj hg.2.1 (h₀:=b1) (h₁:=b2)).mp<|c1.trans c2.symm;unfold P8;rw[this];exact ej
theorem pT(hg:Gd cs)(hw:Wg cs ws)(h:c∈cs):ws[P8 cs c.1]?=some (ao cs ws c.1)/\Vg c.2 (ao cs ws c.1):=by obtain⟨v,e,r⟩:=rE hw (rF hg h).1;unfold ao;rw[e];exact⟨rfl,r⟩
noncomputable def k9:D->D->Bool|.ax,.ax=>true|.int i,.int j=>decide (i=j)|.str i,.str j=>decide (i=j)|_,_=>false
theorem cF(ha:bu a=true)(hb:bu b=true):k9 a b=true↔a=b:=by cases a<;>cases b<;>first|(cases ha;done)|(cases hb;done)|simp[k9]
theorem x5(ha:bu a=true)(hb:bu b=true)(q:R (.bl<|if neg then !k9 a b else k9 a b) S):Js neg a b S R:=by
 have mix:∀{a b:D},bu a=true->bu b=true->(∀p q,Dp S a p->Dp S b q->PyData.eqv p q=k9 a b)->(∀i j,a=.int i->b≠.int j)->(∀i j,a=.str i->b≠.str j)->R (.bl<|if neg then !k9 a b else k9 a b) S->Js neg a b S R:=by intro a b ha hb h h1 h2 q;obtain⟨p,p1,p2,p3⟩:=Ly.plain (S:=S) ha;obtain⟨r,r1,r2,r3⟩:=Ly.plain (S:=S) hb;have e:=h p r p1 r1;obtain⟨p',p1',p2',p3'⟩:=Ly.dl<|Ly.plain (S:=S) ha;cases a<;>cases b<;>first|(cases ha;done)|(cases hb;done)|exact absurd rfl (h1 _ _ rfl)|exact absurd rfl (h2 _ _ rfl)|exact{p,r,p1,r1,p2,r2,.inl<|by lia,by rw[e];exact q}
 cases a with|ax=>(cases b with|ax=>exact mix ha hb (λp q h1 h2=>by simp only[Dp]at h1 h2;subst h1 h2;rfl) nofun nofun q|int j=>exact mix ha hb (λp q h1 h2=>by simp only[Dp]at h1 h2;subst h1 h2;rfl) nofun nofun q|str j=>exact mix ha hb (λp q h1 h2=>by simp only[Dp]at h1 h2;subst h1 h2;rfl) nofun nofun q|_=>cases hb)|int i=>(cases b with|ax=>exact mix ha hb (λp q h1 h2=>by simp only[Dp]at h1 h2;subst h1 h2;rfl) nofun nofun q|int j=>exact q|str j=>exact mix ha hb (λp q h1 h2=>by simp only[Dp]at h1 h2;subst h1 h2;rfl) nofun nofun q|_=>cases hb)|str i=>(cases b with|ax=>exact mix ha hb (λp q h1 h2=>by simp only[Dp]at h1 h2;subst h1 h2;rfl) nofun nofun q|int j=>exact mix ha hb (λp q h1 h2=>by simp only[Dp]at h1 h2;subst h1 h2;rfl) nofun nofun q|str j=>exact q|_=>cases hb)|_=>cases ha
noncomputable def sX:D->D->Bool|.int i,.int j=>decide (i<j)|.str i,.str j=>tN i j|_,_=>false
noncomputable def stP:D->D->Bool|.str i,.str j=>PySem.Txt.startswith i j|_,_=>false
noncomputable def C7(o:Str)(a b:D):Bool:=if o ="is" then k9 a b else if ah a then false else if o ="below" then sX a b else if o ="above" then sX b a else stP a b
noncomputable def Fq:D->List D|.tup ds=>ds|_=>[]
noncomputable def UU(cs:List<|Str×Str)(r:Str×List D)(f:D->Bool):D->Bool|.tup [.str _]=>true|.tup [.str o,e]=>(if o ="not" then !f e else if o ="key" then Eh (lT<|.str r.1) ((Fq e).map lT) else if o ="and" then (Fq e).all f else (Fq e).any f)|.tup [.str o,.str z,v]=>C7 o (ao cs r.2 z) v|_=>false
noncomputable def aF(cs:List<|Str×Str)(r:Str×List D):Nat->D->Bool|0,_=>false|n+1,d=>UU cs r (aF cs r n) d
theorem C8(cs:List<|Str×Str)(r:Str×List D)(n:Nat)(o:Str)(e:D):aF cs r (n+1) (.tup [.str o,e])=if o ="not" then !aF cs r n e else if o ="key" then Eh (lT<|.str r.1) ((Fq e).map lT) else if o ="and" then (Fq e).all (aF cs r n) else (Fq e).any (aF cs r n):=rfl
theorem UW(cs:List<|Str×Str)(r:Str×List D)(n:Nat)(o z:Str)(v:D):aF cs r (n+1) (.tup [.str o,.str z,v])=C7 o (ao cs r.2 z) v:=rfl
theorem rG(cs:List<|Str×Str)(r:Str×List D)(n:Nat)(ks:List D):aF cs r (n+1) (.tup [.str "key",.tup ks])=Eh (lT<|.str r.1) (ks.map lT):=by rw[C8,if_neg<|by trivial,if_pos rfl];rfl
theorem gO(cs:List<|Str×Str)(r:Str×List D)(n:Nat)(e:D):aF cs r (n+1) (.tup [.str "not",e])=!aF cs r n e:=by rw[C8,if_pos rfl]
theorem ju(cs:List<|Str×Str)(r:Str×List D)(n:Nat)(es:List D):aF cs r (n+1) (.tup [.str "and",.tup es])=es.all (aF cs r n):=by rw[C8,if_neg<|by trivial,if_neg<|by trivial,if_pos rfl];rfl
theorem mG(cs:List<|Str×Str)(r:Str×List D)(n:Nat)(es:List D):aF cs r (n+1) (.tup [.str "or",.tup es])=es.any (aF cs r n):=by rw[C8,if_neg<|by trivial,if_neg<|by trivial,if_neg<|by trivial];rfl
theorem vP{k:Str}(ha:Vg k a)(hb:Vg k b)(na:a≠.ax)(nb:b≠.ax):(∃i j,a=.int i/\b=.int j)\/∃i j,a=.str i/\b=.str j:=by obtain⟨a1,a2⟩:=ha;obtain⟨b1,b2⟩:=hb;cases a with|ax=>exact absurd rfl na|int i=>(cases b with|ax=>exact absurd rfl nb|int j=>exact .inl ⟨i,j,rfl,rfl⟩|str j=>(exfalso;unfold iO at a1 b1;simp only[ah,yU]at a1 b1;by_cases e:k ="number";rw[if_pos e]at b1;cases b1;rw[if_neg e]at a1;cases a1)|_=>cases b2)|str i=>(cases b with|ax=>exact absurd rfl nb|str j=>exact .inr ⟨i,j,rfl,rfl⟩|int j=>(exfalso;unfold iO at a1 b1;simp only[ah,yU]at a1 b1;by_cases e:k ="number";rw[if_pos e]at a1;cases a1;rw[if_neg e]at b1;cases b1)|_=>cases b2)|_=>cases a2
theorem C9(h:Vg "word" a)(n:a≠.ax):∃z,a=.str z:=by obtain⟨h1,h2⟩:=h;cases a with|ax=>exact absurd rfl n|str z=>exact⟨z,rfl⟩|int i=>(unfold iO at h1;rw[if_neg<|by trivial]at h1;cases h1)|_=>cases h2
theorem bx(h:ah a=false):a≠.ax:=by rintro rfl;cases h
inductive k_ (ds:List D) (S:aw) (R:KD) (Z:KX):Prop where
 |mk (cs r c) (h0:ds=[.tup<|cs.map aA,ai r,.str c.1]) (h1:Gd cs) (h2:Wg cs r.2) (h3:c∈cs) (h4:R (ao cs r.2 c.1) S):k_ ds S R Z
theorem cW(T:Txt w K mg t):Ok P w base T.bZ 2 k_:=by
 refine T.bZ.F.b_ xH ?_;rintro _ _ _ _ _ _ _ S R Z hr ⟨cs,r,c,e,hg,hw,hc,q⟩;subst e;obtain⟨n1,n2⟩:=rF hg hc;refine{_,(s1<|sr<|ix hr.u (ix hr.u (dv 1) di)<|bm zQ PySem.F.slot_list_index PySem.F.type_list_index G7 (aH T.me (oI T) hr<|ac (dv 0) an)<|ac (dv 2) an),?_};refine !!!{cs,rfl,hg.1,λp hp=>?_};refine{{rfl,_,aa},_,rfl,(cs.map Prod.fst).map D.str,.str c.1,P8 cs c.1,rfl,aa,rfl,?_,{.str c.1,by rw[zw,n2];rfl,by show(c.1==c.1)=true;simp},?_,?_};rw[List.all_map];exact ya.mpr λ_ _=>rfl;intro m u hm hu;rw[zw]at hu;cases e:(cs.map Prod.fst)[m]? with|none=>(rw[e]at hu;cases hu)|some z'=>rw[e]at hu;cases hu;show(z'==c.1)=false;have:z'≠c.1:=λq=>(by subst q;obtain⟨b1,c1⟩:=zk.mp e;obtain⟨b2,c2⟩:=zk.mp n2;have:=(List.getElem_inj hg.2.1 (h₀:=b1) (h₁:=b2)).mp<|c1.trans c2.symm;lia);simpa using this
 exact{_,jB (pT hg hw hc).1,S,.new hp,q}
inductive fw (ds:List D) (S:aw) (R:KD) (Z:KX):Prop where
 |mk (o a b c) (h0:ds=[.str o,a,b]) (h1:Vg c.2 a) (h2:Vg c.2 b) (h3:vK o c b) (h4:R (.bl<|C7 o a b) S):fw ds S R Z
theorem pG(T:Txt w K mg t):Ok P w base T.ia 1 fw:=by
 refine T.ia.F.b_ pB ?_;rintro _ _ _ _ _ _ _ S R Z hr ⟨o,a,b,c,e,ha,hb,ho,q⟩;subst e;refine{_,(sc (si (bq bH hr.u (dv 0) ds) (s1<|sr<|cm bH hr.u (dv 1)<|dv 2) s0)<|sc (si (bq jQ hr.u (dv 1) dn) (s1<|sr db) s0)<|sc (si (bq bH hr.u (dv 0) ds) (s1<|sr<|cm wR hr.u (dv 1)<|dv 2) s0)<|sc (si (bq bH hr.u (dv 0) ds) (s1<|sr<|cm sG hr.u (dv 1)<|dv 2) s0)<|s1<|sr<|bm PySem.F.plainAttrs_str PySem.F.slot_str_startswith PySem.F.type_str_startswith G8 (dv 1)<|ac (dv 2) an),?_};unfold C7 at q;rcases ho with rfl|⟨nb,ho⟩;rw[if_pos rfl]at q;exact !!⟨nZ (by trivial) !!⟨x5 ha.2 hb.2<|fo q⟩⟩;have ne:∀{A B:Bool},o≠"is"->R (.bl<|if o ="is" then A else B) S->R (.bl B) S:=λh q=>by rw[if_neg h]at q;exact q
 rcases ho with rfl|rfl|⟨rfl,hk⟩;rw[if_neg<|by trivial]at q;refine !!⟨bF (by trivial) !!⟨bP (λh=>?_) λh=>?_⟩⟩;rw[if_pos h]at q;exact fo q;rw[if_neg<|by rw[show ah a=false from h];exact zd,if_pos rfl]at q;refine !!⟨nZ (by trivial) !!⟨?_⟩⟩;rcases vP ha hb (bx h) nb with⟨i,j,rfl,rfl⟩|⟨i,j,rfl,rfl⟩<;>exact fo q;rw[if_neg<|by trivial]at q;refine !!⟨bF (by trivial) !!⟨bP (λh=>?_) λh=>?_⟩⟩;rw[if_pos h]at q;exact fo q;rw[if_neg<|by rw[show ah a=false from h];exact zd,if_neg<|by trivial,if_pos rfl]at q;refine !!⟨bF (by trivial) !!⟨nZ (by trivial) !!⟨?_⟩⟩⟩;rcases vP ha hb (bx h) nb with⟨i,j,rfl,rfl⟩|⟨i,j,rfl,rfl⟩<;>exact fo q;rw[if_neg<|by trivial]at q;refine !!⟨bF (by trivial) !!⟨bP (λh=>?_) λh=>?_⟩⟩;rw[if_pos h]at q;exact fo q;rw[if_neg<|by rw[show ah a=false from h];exact zd,if_neg<|by trivial,if_neg<|by trivial]at q;refine !!⟨bF (by trivial) !!⟨bF (by trivial) ?_⟩⟩;rw[hk]at ha hb;obtain⟨i,rfl⟩:=C9 ha<|bx h;obtain⟨j,rfl⟩:=C9 hb nb;exact !{rfl,_,rfl,i,j,rfl,rfl,fo q}
def P9(n:Nat):jE:=λds S R _=>∃cs d r,ds=[.tup<|cs.map aA,d,ai r]/\Gd cs/\Sg cs n d/\Wg cs r.2/\R (.bl<|aF cs r n d) S
theorem jL(T:Txt w K mg t):∀n,Ok P w base T.passes (3+n) (P9 n)
 |0=>by refine T.passes.F.ok (k:=2) uc (by rintro ds S R Z ⟨_,_,_,e,_⟩;exact by rw[e];rfl) (by rintro gu A outer s H E ds S R Z hr ⟨cs,d,r,e,hg,hs,_⟩;exact hs.elim)
 |n+1=>by
  refine T.passes.F.ok (k:=3+n) uc (by rintro ds S R Z ⟨_,_,_,e,_⟩;rw[e];rfl) ?_;rintro _ _ _ _ _ _ _ S R Z hr ⟨cs,d,r,e,hg,hs,hw,q⟩;subst e;refine{_,(sc (si (bq bH hr.u (ix hr.u (dv 1) di) ds) (s1<|sr db) s0)<|sc (si (bq bH hr.u (ix hr.u (dv 1) di) ds) (s1<|sr<|cm G6 hr.u (ix hr.u (dv 2) di)<|ix hr.u (dv 1) di) s0)<|sc (si (bq bH hr.u (ix hr.u (dv 1) di) ds) (s1<|sr<|OY<|aH T.passes (jL T n) hr<|ac (dv 0)<|ac (ix hr.u (dv 1) di)<|ac (dv 2) an) s0)<|sc (si (bq bH hr.u (ix hr.u (dv 1) di) ds) (s1<|sr<|cb j_ T.kf fZ<|ac (sI (N:=["inner","columns","row"]) (src:=[none,some 0,some 2]) (j7 (ag xr) ["columns","sieve","row"] rfl rfl<|by trivial) (Jt<|ix hr.u (dv 1) di) (pj<|show(["inner","columns","row"]:List Str).Nodup by trivial) (aR rfl) aT (λ_ _ _ _ _=>sH) λ_ _ _ _ _=>(aH T.passes (jL T n) hr<|ac (dv 1)<|ac (dv 0)<|ac (dv 2) an)) an) s0)<|sc (si (bq bH hr.u (ix hr.u (dv 1) di) ds) (s1<|sr<|cb Th T.UG OI<|ac (sI (N:=["inner","columns","row"]) (src:=[none,some 0,some 2]) (j7 (ag xr) ["columns","sieve","row"] rfl rfl<|by trivial) (Jt<|ix hr.u (dv 1) di) (pj<|show(["inner","columns","row"]:List Str).Nodup by trivial) (aR rfl) aT (λ_ _ _ _ _=>sH) λ_ _ _ _ _=>(aH T.passes (jL T n) hr<|ac (dv 1)<|ac (dv 0)<|ac (dv 2) an)) an) s0)<|s1<|sr<|aH T.ia (pG T) hr<|ac (ix hr.u (dv 1) di)<|ac (aH T.bZ (cW T) hr<|ac (dv 0)<|ac (dv 2)<|ac (ix hr.u (dv 1) di) an)<|ac (ix hr.u (dv 1) di) an),?_};rcases hs with (rfl|⟨ks,rfl,hk8,A7⟩|⟨o,c,v,hc,hv,ho,rfl⟩)|⟨e,rfl,he⟩|⟨o,es,ho,rfl,rD,GX⟩;exact !!!⟨nZ (by trivial)<|fo q⟩;refine !!!⟨bF (by trivial) !!!⟨nZ (by trivial) ?_⟩⟩;refine !!!!{rfl,?_,?_};rw[List.all_map];exact ya.mpr λ_ _=>rfl;rw[rG]at q;exact fo q;rw[UW]at q;have fin:∀Zq,fw [D.str o,ao cs r.2 c.1,v] S (λd S'=>Fo S'<|R d) Zq:=λ_=>{o,_,v,c,rfl,(pT hg hw hc).2,hv,ho,fo q};have h4:o ="is"\/o ="below"\/o ="above"\/o ="begins":=by rcases ho with h|⟨_,h|h|⟨h,_⟩⟩;exact .inl h;exact .inr<|.inl h;exact .inr<|.inr<|.inl h;exact .inr<|.inr<|.inr h
  rcases h4 with rfl|rfl|rfl|rfl;exact !!!⟨bF (by trivial) !!!⟨bF (by trivial) !!!⟨bF (by trivial) !!!⟨bF (by trivial) !!!⟨bF (by trivial) !!!!!!{cs,r,c,rfl,hg,hw,hc,_,rfl,_,rfl,fin _}⟩⟩⟩⟩⟩;exact !!!⟨bF (by trivial) !!!⟨bF (by trivial) !!!⟨bF (by trivial) !!!⟨bF (by trivial) !!!⟨bF (by trivial) !!!!!!{cs,r,c,rfl,hg,hw,hc,_,rfl,_,rfl,fin _}⟩⟩⟩⟩⟩;exact !!!⟨bF (by trivial) !!!⟨bF (by trivial) !!!⟨bF (by trivial) !!!⟨bF (by trivial) !!!⟨bF (by trivial) !!!!!!{cs,r,c,rfl,hg,hw,hc,_,rfl,_,rfl,fin _}⟩⟩⟩⟩⟩;exact !!!⟨bF (by trivial) !!!⟨bF (by trivial) !!!⟨bF (by trivial) !!!⟨bF (by trivial) !!!⟨bF (by trivial) !!!!!!{cs,r,c,rfl,hg,hw,hc,_,rfl,_,rfl,fin _}⟩⟩⟩⟩⟩;rw[gO]at q;exact !!!⟨bF (by trivial) !!!⟨bF (by trivial) !!!⟨nZ (by trivial) !!!!{cs,e,r,rfl,hg,he,hw,_,rfl,fo q}⟩⟩⟩;have hz:es.length<=1000:=by lia
  rcases ho with rfl|rfl;rw[ju]at q;refine !!!⟨bF (by trivial) !!!⟨bF (by trivial) !!!⟨bF (by trivial) !!!⟨nZ (by trivial) !!{_,.inl rfl,?_}⟩⟩⟩⟩;refine comp_map (λd=>.bl<|aF cs r n d) trivial hz (λd hd Q hQ=>!!!{cs,d,r,rfl,hg,GX d hd,hw,hQ}) λp hp=>?_;refine{.ref p,es.map<|aF cs r n,rfl,?_,S,.new hp,?_};show(S.set p<|.lst<|es.map _) p=_;rw[aa,zD];rfl;rw[all_map];exact q;rw[mG]at q;refine !!!⟨bF (by trivial) !!!⟨bF (by trivial) !!!⟨bF (by trivial) !!!⟨bF (by trivial) !!!⟨nZ (by trivial) !!{_,.inl rfl,?_}⟩⟩⟩⟩⟩;refine comp_map (λd=>.bl<|aF cs r n d) trivial hz (λd hd Q hQ=>!!!{cs,d,r,rfl,hg,GX d hd,hw,hQ}) λp hp=>?_;refine{.ref p,es.map<|aF cs r n,rfl,?_,S,.new hp,?_};show(S.set p<|.lst<|es.map _) p=_;rw[aa,zD];rfl;rw[List.any_map];exact q
abbrev Row:=Str×List D
abbrev Part:=Str×Str×Str
theorem P_{a b:Str}(h:a.cps.toList=b.cps.toList):a=b:=by obtain⟨x⟩:=a;obtain⟨y⟩:=b;exact congrArg Str.mk<|Array.ext' h
theorem C_(a:Str):tN a a=false:=zy<|List.lt_irrefl _
theorem vQ{a b:Str}(h:a≠b):tN b a=!tN a b:=by unfold tN;rw[yk];simp only[decide_eq_true_iff,Bool.not_eq_true',decide_eq_false_iff_not];constructor;exact λh1 h2=>List.lt_irrefl _<|List.lt_trans h1 h2;intro h1;by_cases h2:b.cps.toList<a.cps.toList;exact h2;exact absurd (P_<|List.le_antisymm (List.not_lt.mp h2)<|List.not_lt.mp h1) h
theorem Qb(h1:tN a b=true)(h2:tN b c=true):tN a c=true:=zx<|List.lt_trans (zB h1)<|zB h2
theorem Dc(a:D):sX a a=false:=by cases a<;>first|rfl|exact C_ _|exact zy (Int.lt_irrefl _)
theorem mH(ha:Vg k a)(hb:Vg k b)(na:a≠.ax)(nb:b≠.ax)(h:a≠b):sX b a=!sX a b:=by rcases vP ha hb na nb with⟨i,j,rfl,rfl⟩|⟨i,j,rfl,rfl⟩;have kH:i≠j:=λe=>h<|congrArg D.int e;show decide (j<i)=!decide (i<j);rw[yk];simp only[decide_eq_true_iff,Bool.not_eq_true',decide_eq_false_iff_not];lia;exact vQ λe=>h<|congrArg D.str e
theorem IC(h1:sX a b=true)(h2:sX b c=true):sX a c=true:=by cases a with|int i=>(cases b with|int j=>(cases c with|int l=>have h1:i<j:=zB h1;have h2:j<l:=zB h2;exact zx (by lia)|_=>cases h2)|_=>cases h1)|str i=>(cases b with|str j=>(cases c with|str l=>exact Qb h1 h2|_=>cases h2)|_=>cases h1)|_=>cases h1
theorem ID(h:Ug a b):sX a b=true:=by cases a with|int i=>(cases b with|int j=>exact zx h|_=>exact h.elim)|str i=>(cases b with|str j=>exact zx h|_=>exact h.elim)|_=>exact h.elim
noncomputable def cM(p:Part)(x y:D):Bool:=if (ah x != ah y)=true then ah x==decide (p.2.2 ="first") else sX x y==decide (p.2.1 ="up")
noncomputable def cA(cs:List<|Str×Str)(wy:Str):List Part->Row->Row->Bool|[],a,b=>tN a.1 b.1==decide (wy ="up")|p::ps,a,b=>if k9 (ao cs a.2 p.1) (ao cs b.2 p.1)=true then cA cs wy ps a b else cM p (ao cs a.2 p.1) (ao cs b.2 p.1)
theorem bxor:((!x)==u)=!(x==u):=by cases x<;>cases u<;>rfl
theorem dj(h:ah x=true):x=.ax:=by cases x<;>first|rfl|cases h
theorem uh(hx:Vg k x)(hy:Vg k y)(h:x≠y):cM p y x=!cM p x y:=by unfold cM;cases nx:ah x with|true=>(cases ny:ah y with|true=>exact absurd ((dj nx).trans (dj ny).symm) h|false=>rw[if_pos<|by rfl,if_pos<|by rfl];cases decide (p.2.2 ="first")<;>rfl)|false=>cases ny:ah y with|true=>(rw[if_pos<|by rfl,if_pos<|by rfl];cases decide (p.2.2 ="first")<;>rfl)|false=>rw[if_neg<|by simp,if_neg<|by simp,mH hx hy (bx nx) (bx ny) h,bxor]
theorem LI(hx:Vg k x)(hy:Vg k y)(hz:Vg k z)(Zn:x≠y)(hyz:y≠z)(h1:cM p x y=true)(h2:cM p y z=true):x≠z/\cM p x z=true:=by
 have Zo:x≠z:=by rintro rfl;have:=uh (p:=p) hx hy Zn;rw[h1,h2]at this;cases this
 refine{Zo,?_};unfold cM at h1 h2⊢;cases nx:ah x with|true=>(cases ny:ah y with|true=>exact absurd ((dj nx).trans (dj ny).symm) Zn|false=>rw[nx,ny,if_pos<|by rfl]at h1;cases nz:ah z with|true=>exact absurd ((dj nx).trans (dj nz).symm) Zo|false=>rw[if_pos<|by rfl];exact h1)|false=>cases ny:ah y with|true=>(rw[nx,ny,if_pos<|by rfl]at h1;cases nz:ah z with|true=>exact absurd ((dj ny).trans (dj nz).symm) hyz|false=>rw[ny,nz,if_pos<|by rfl]at h2;cases e:decide (p.2.2 ="first")<;>rw[e]at h1 h2<;>first|cases h1;done|cases h2;done)|false=>rw[nx,ny,if_neg<|by simp]at h1;cases nz:ah z with|true=>rw[ny,nz,if_pos<|by rfl]at h2;rw[if_pos<|by rfl];exact h2|false=>rw[ny,nz,if_neg<|by simp]at h2;rw[if_neg<|by simp];cases e:decide (p.2.1 ="up") with|true=>rw[e]at h1 h2;rw[IC (a:=x) (b:=y) (c:=z) (by simpa using h1)<|by simpa using h2];rfl|false=>rw[e]at h1 h2;have h1:sX x y=false:=(by simpa using h1);have h2:sX y z=false:=(by simpa using h2);have a1:=mH hx hy (bx nx) (bx ny) Zn;have a2:=mH hy hz (bx ny) (bx nz) hyz;rw[h1]at a1;rw[h2]at a2;have a3:=IC a2 a1;have a4:=mH hx hz (bx nx) (bx nz) Zo;rw[a3]at a4;cases q:sX x z with|true=>(rw[q]at a4;cases a4)|false=>rfl
def Pin(cs:List<|Str×Str)(ps:List Part):Prop:=∀p∈ps,∃c∈cs,c.1=p.1
section
variable{cs:List (Str×Str)}{wy:Str}
theorem Pin.tail(h:Pin cs<|p::ps):Pin cs ps:=λq hq=>h q<|ze _ hq
theorem vR(hg:Gd cs)(h:Pin cs<|p::ps):∃k,∀ws,Wg cs ws->Vg k (ao cs ws p.1):=by obtain⟨c,hc,e⟩:=h p zi;rw[<-e];exact{c.2,λws hw=>(pT hg hw hc).2}
theorem x6(hg:Gd cs):∀{ps:List Part}{a b:Row},Pin cs ps->Wg cs a.2->Wg cs b.2->a.1≠b.1->cA cs wy ps b a=!cA cs wy ps a b|[],a,b,_,_,_,h=>by show(tN b.1 a.1==_)=!(tN a.1 b.1==_);rw[vQ h,bxor]|p::ps,a,b,hp,ha,hb,h=>by obtain⟨k,hk⟩:=vR hg hp;have va:=hk _ ha;have vb:=hk _ hb;unfold cA;by_cases e:ao cs a.2 p.1=ao cs b.2 p.1;rw[if_pos<|(cF vb.2 va.2).mpr e.symm,if_pos<|(cF va.2 vb.2).mpr e];exact x6 hg hp.tail ha hb h;rw[if_neg λq=>e ((cF vb.2 va.2).mp q).symm,if_neg λq=>e<|(cF va.2 vb.2).mp q];exact uh va vb e
def Rg(cs:List<|Str×Str)(rs:List Row):Prop:=(∀r∈rs,Wg cs r.2)/\(rs.map Prod.fst).Nodup
theorem Rg.perm(h:Rg cs rs)(p:bC.Perm rs):Rg cs bC:={λr hr=>h.1 r<|p.mem_iff.mp hr,(p.map _).nodup_iff.mpr h.2}
theorem Rg.sub(h:Rg cs rs)(p:bC.Sublist rs):Rg cs bC:={λr hr=>h.1 r<|p.subset hr,h.2.sublist<|p.map _}
theorem LJ(hg:Gd cs)(hp:Pin cs ps)(hr:Rg cs m)(hl:l.Pairwise λa b=>cA cs wy ps a b=true)(hm:m.Pairwise λa b=>cA cs wy ps a b=true)(pm:l.Perm m):l=m:=by refine List.Perm.eq_of_pairwise (le:=λa b=>cA cs wy ps a b=true) (λa b ha hb h1 h2=>?_) hl hm pm;have ha:=pm.mem_iff.mp ha;by_cases e:a.1=b.1;exact fQ (f:=Prod.fst) hr.2 ha hb e;have:=x6 (wy:=wy) hg hp (hr.1 a ha) (hr.1 b hb) e;rw[h1,h2]at this;cases this
end
theorem BF{l m:List Nat}(hl:l.Nodup)(hm:m.Nodup)(h:∀x,x∈l↔x∈m):l.Perm m:=by induction l generalizing m with|nil=>(cases m with|nil=>exact .nil|cons y m=>exact absurd ((h y).mpr zi)<|by simp)|cons x l ih=>obtain⟨n1,n2⟩:=yo.mp hl;have hx:=(h x).mp zi;refine .trans ((ih n2 (hm.erase x) λy=>?_).cons x) (List.perm_cons_erase hx).symm;rw[hm.mem_erase_iff];constructor;intro hy;exact{λe=>n1<|e ▸ hy,(h y).mp<|ze _ hy};rintro⟨h1,h2⟩;rcases zh.mp ((h y).mpr h2) with e|e;exact absurd e h1;exact e
theorem map_range(d:α)(xs:List α):(List.range xs.length).map (λk=>xs.getD k d)=xs:=by refine List.ext_getElem (by simp) λi h1 h2=>?_;simp[zj h2]
theorem Fs{α:Type}(d:α){xs:List α}{g:Nat->Nat}(lt:∀k,k<xs.length->g k<xs.length)(inj:∀i j,i<xs.length->j<xs.length->g i=g j->i=j):((List.range xs.length).map λk=>xs.getD (g k) d).Perm xs:=by
 have nd:((List.range xs.length).map g).Nodup:=by refine List.pairwise_map.mpr<|List.nodup_range.imp_of_mem λ{a b} ha hb n e=>n<|inj a b (zT.mp ha) (zT.mp hb) e
 have sub:∀x∈(List.range xs.length).map g,x∈List.range xs.length:=λx hx=>by obtain⟨k,hk,rfl⟩:=zf.mp hx;exact zT.mpr<|lt k<|zT.mp hk
 have p:((List.range xs.length).map g).Perm (List.range xs.length):=BF nd List.nodup_range λx=>by refine{sub x,λhx=>?_};by_cases h:x∈(List.range xs.length).map g;exact h;exfalso;have:=sub_len nd (m:=(List.range xs.length).erase x) λy hy=>(List.Nodup.mem_erase_iff List.nodup_range).mpr {λe=>h<|e ▸ hy,sub y hy};rw[zb,List.length_erase_of_mem hx,List.length_range]at this;have:=zT.mp hx;lia
 have e:((List.range xs.length).map λk=>xs.getD (g k) d)=((List.range xs.length).map g).map λk=>xs.getD k d:=by rw[zD];rfl
 rw[e];have:=p.map λk=>xs.getD k d;rw[map_range]at this;exact this
theorem Ft{α:Type}(d:α){xs:List α}{g:Nat->Nat}{r:α->α->Prop}(h:∀i j,i<j->j<xs.length->r (xs.getD (g i) d) (xs.getD (g j) d)):((List.range xs.length).map λk=>xs.getD (g k) d).Pairwise r:=by rw[List.pairwise_map,List.pairwise_iff_getElem];intro i j hi hj kH;rw[List.length_range]at hj;rw[List.getElem_range,List.getElem_range];exact h i j kH hj
noncomputable def r0:Row:=("",[])
theorem getD_map{rs:List Row}{j:Nat}(h:j<rs.length):(rs.map ai).getD j .ax=ai (rs.getD j r0):=by rw[zM,zM,zw,zj h];rfl
theorem getD_mem{rs:List Row}{j:Nat}(h:j<rs.length):rs.getD j r0∈rs:=by rw[zM,zj h];exact List.getElem_mem h
theorem mI{rs:List Row}{b:Bool}{f:D->D}{g:Nat->Nat}(h:Po b (λj=>f<|(rs.map ai).getD j .ax) (rs.map ai).length g): ∃bC:List Row,(List.range (rs.map ai).length).map (λk=>(rs.map ai).getD (g k) .ax)=bC.map ai/\bC.Perm rs/\∀q r:Row->Row->Prop,rs.Pairwise q->(∀x y,x∈rs->y∈rs->(if b=true then Ug (f<|ai y) (f<|ai x) else Ug (f<|ai x) (f<|ai y))->r x y)->(∀x y,x∈rs->y∈rs->f (ai x)=f (ai y)->q x y->r x y)->bC.Pairwise r:=by have hn:(rs.map ai).length=rs.length:=zb _;rw[hn]at h⊢;refine{(List.range rs.length).map λk=>rs.getD (g k) r0,?_,Fs r0 h.lt h.inj,λq r hq h1 h2=>Ft r0 λi j kH hj=>?_};rw[zD];exact zW λk hk=>getD_map<|h.lt k<|zT.mp hk;have gi:=h.lt i<|Nat.lt_trans kH hj;have gj:=h.lt j hj;have o:=h.ord i j kH hj;rw[getD_map gi,getD_map gj]at o;rcases o with o|⟨o,l⟩;exact h1 _ _ (getD_mem gi) (getD_mem gj) o;refine h2 _ _ (getD_mem gi) (getD_mem gj) o ?_;have:=List.pairwise_iff_getElem.mp hq (g i) (g j) gi gj l;rw[zM,zM,zj gi,zj gj];exact this
section
variable{cs:List (Str×Str)}{wy:Str}
noncomputable def valued(cs:List<|Str×Str)(p:Part)(r:Row):Bool:=!ah (ao cs r.2 p.1)
theorem LK(h1:ah x=true)(h2:ah y=true):k9 x y=true:=by rw[dj h1,dj h2];rfl
theorem vS(h:ah x≠ah y):k9 x y=false:=by cases x<;>cases y<;>first|rfl|exact absurd rfl h
theorem Fu{ps:List Part}{p:Part}{L V:List Row}(hL:L.Pairwise λa b=>cA cs wy ps a b=true)(hV:V.Perm<|L.filter<|valued cs p)(Wm:V.Pairwise λa b=>cA cs wy (p::ps) a b=true): (if p.2.2 ="first" then L.filter (λr=>!valued cs p r)++V else V++L.filter (λr=>!valued cs p r)).Perm L/\(if p.2.2 ="first" then L.filter (λr=>!valued cs p r)++V else V++L.filter (λr=>!valued cs p r)).Pairwise λa b=>cA cs wy (p::ps) a b=true:=by
 have hN:(L.filter λr=>!valued cs p r).Pairwise λa b=>cA cs wy (p::ps) a b=true:=by refine(hL.sublist yq).imp_of_mem λ{a b} ha hb h=>?_;have ha:=(zY.mp ha).2;have hb:=(zY.mp hb).2;unfold valued at ha hb;rw[Bool.not_not]at ha hb;show(if k9 (ao cs a.2 p.1) (ao cs b.2 p.1)=true then cA cs wy ps a b else _)=true;rw[if_pos<|LK ha hb];exact h
 have Nc:∀a∈L.filter (λr=>!valued cs p r),∀b∈V,ah (ao cs a.2 p.1)=true/\ah (ao cs b.2 p.1)=false:=λa ha b hb=>by have ha:=(zY.mp ha).2;have hb:=(zY.mp<|hV.mem_iff.mp hb).2;unfold valued at ha hb;rw[Bool.not_not]at ha;exact{ha,by simpa using hb}
 have pm:(L.filter (λr=>!valued cs p r)++V).Perm L:=(List.Perm.append_left _ hV).trans<|List.perm_append_comm.trans<|List.filter_append_perm (valued cs p) L;by_cases e:p.2.2 ="first";rw[if_pos e];refine{pm,List.pairwise_append.mpr {hN,Wm,λa ha b hb=>?_}};obtain⟨na,nb⟩:=Nc a ha b hb;show(if k9 (ao cs a.2 p.1) (ao cs b.2 p.1)=true then cA cs wy ps a b else cM p (ao cs a.2 p.1) (ao cs b.2 p.1))=true;rw[vS<|by rw[na,nb];nofun,if_neg zd];unfold cM;rw[na,nb,if_pos<|by rfl,zx e];rfl;rw[if_neg e];refine{List.perm_append_comm.trans pm,List.pairwise_append.mpr {Wm,hN,λa ha b hb=>?_}};obtain⟨na,nb⟩:=Nc b hb a ha;show(if k9 (ao cs a.2 p.1) (ao cs b.2 p.1)=true then cA cs wy ps a b else cM p (ao cs a.2 p.1) (ao cs b.2 p.1))=true;rw[vS<|by rw[na,nb];nofun,if_neg zd];unfold cM;rw[na,nb,if_pos<|by rfl,zy e];rfl
end
noncomputable abbrev qK:Str:="sorted_by_keys.<locals>.<lambda>"
noncomputable abbrev qV:Str:="sorted_by_values.<locals>.<lambda>"
noncomputable def Qc:D->D|.tup (x::_)=>x|_=>.ax
noncomputable def BG(cs:List<|Str×Str)(z:Str):D->D|.tup [_,.tup ws]=>ao cs ws z|_=>.ax
inductive IE (t:iL) (ds:List D) (S:aw) (R:KD) (Z:KX):Prop where
 |mk (cs:List<|Str×Str) (l:Addr) (rs:List Row) (wy:Str) (h0:ds=[.ref l,.str wy]) (h1:k8 wy=true) (h2:S l=some (.lst<|rs.map ai)) (h3:rs.length<64) (h4:Rg cs rs) (h5:S t.aU=some (.tab qK)) (h6:∀(bC:List Row)(p:Addr),bC.Perm rs->(bC.Pairwise λa b=>cA cs wy [] a b=true)->S p=none->R (.ref p) (S.set p<|.lst<|bC.map ai)):IE t ds S R Z
theorem fS{S S2:aw}{p:Addr}{c:Ce}(h:Sub S S2):Sub (S.set p c) (S2.set p c):=λb e hb=>by by_cases q:b=p;subst q;rw[aa]at hb⊢;exact hb;rw[ae q]at hb⊢;exact h b e hb
theorem dk{S S2:aw}{p:Addr}(h:Sub S S2)(e:S2 p=none):S p=none:=by cases q:S p with|none=>rfl|some c=>rw[h p c q]at e;cases e
theorem vT{z:Str}(h:k8 z=true):z ="up"\/z ="down":=by unfold k8 at h;simpa using h
theorem Rg.unlike(h:Rg cs rs):rs.Pairwise λa b=>a.1≠b.1:=List.pairwise_map.mp h.2
theorem mJ(T:Txt w K mg t)(B:Bm mg base):Ok P w base T.fg 4 (IE t):=by
 refine T.fg.F.okC (k:=3) mm (by rintro ds S R Z ⟨_,_,_,_,e,_⟩;rw[e];rfl) ?_;rintro gu A outer s H E ds S R Z rW hr ⟨cs,l,rs,wy,e,LL,hl,hn,gQ,ht,q⟩;subst e;have A7:xf ((rs.map ai).map Qc):=.inl {rs.map Prod.fst,by rw[zD,zD];rfl};have un:rs.Pairwise λa b=>a.1≠b.1:=gQ.unlike;have Mf:(rs.map ai).length<64:=by rw[zb];exact hn
 refine{_,(sc (si (bq bH hr.u (dv 1) ds) (s1<|sr<|MX (N:=["row"]) (src:=[none]) (rW.trans T.fL) ⟨T.c0,B⟩ hr (j7 (ag gz) ["rows","way"] rfl rfl<|by trivial) (dv 0) (λ_ _ _ _=>(ix (hr.in1.in1.deeper _).units (dv 0) di)) T.ja gy) s0)<|s1<|sr<|Ui (N:=["row"]) (src:=[none]) (rW.trans T.fL) ⟨T.c0,B⟩ hr (j7 (ag gz) ["rows","way"] rfl rfl<|by trivial) (dv 0) (λ_ _ _ _=>(ix (hr.in1.in1.deeper _).units (dv 0) di)) T.ja gy),?_};rcases vT LL with rfl|rfl;refine !!⟨bF (by trivial) !{l,rs.map ai,Qc,rfl,hl,Mf,ht,A7,λx hx S' hs Qk hQ=>?_,λg S2 p hg hs hp=>?_}⟩;obtain⟨r,hr,rfl⟩:=zf.mp hx;exact !!⟨hQ S'<|.refl _⟩;obtain⟨bC,e,pm,h⟩:=mI hg;rw[e];refine{S.set p<|.lst<|bC.map ai,fS hs,q bC p pm (h _ _ un (λx y hx hy eN=>?_) λx y hx hy e ne=>absurd (D.str.inj e) ne)<|dk hs hp};show(tN x.1 y.1==decide (("up": Str) ="up"))=true;have:tN x.1 y.1=true:=zx eN;rw[this];rfl;refine !!⟨nZ (by trivial) !{l,rs.map ai,Qc,rfl,hl,Mf,ht,A7,λx hx S' hs Qk hQ=>?_,λg S2 p hg hs hp=>?_}⟩;obtain⟨r,hr,rfl⟩:=zf.mp hx;exact !!⟨hQ S'<|.refl _⟩;obtain⟨bC,e,pm,h⟩:=mI hg;rw[e];refine{S.set p<|.lst<|bC.map ai,fS hs,q bC p pm (h _ _ un (λx y hx hy eN=>?_) λx y hx hy e ne=>absurd (D.str.inj e) ne)<|dk hs hp};show(tN x.1 y.1==decide (("down": Str) ="up"))=true;have:tN y.1 x.1=true:=zx eN;by_cases e:x.1=y.1;rw[e,C_]at this;cases this;rw[vQ e]at this;have h2:tN x.1 y.1=false:=by simpa using this
 rw[h2,zy<|by trivial];rfl
inductive IF (t:iL) (ds:List D) (S:aw) (R:KD) (Z:KX):Prop where
 |mk (cs:List<|Str×Str) (ps:List Part) (p:Part) (wy:Str) (l:Addr) (rs:List Row) (h0:ds=[.tup<|cs.map aA,p3 p,.ref l]) (h1:Gd cs) (h2:Pin cs<|p::ps) (h3:k8 p.2.1=true) (h4:S l=some (.lst<|rs.map ai)) (h5:rs.length<64) (h6:Rg cs rs) (h7:(∀r∈rs,valued cs p r=true)) (h8:(rs.Pairwise λa b=>cA cs wy ps a b=true)) (h9:S t.aL=some (.tab qV)) (h10:∀(bC:List Row)(a:Addr),bC.Perm rs->(bC.Pairwise λa b=>cA cs wy (p::ps) a b=true)->S a=none->R (.ref a) (S.set a<|.lst<|bC.map ai)):IF t ds S R Z
theorem BH{α:Type}{f:α->D}{β:Type}{mk:β->D} : ∀{l:List α},(∀x∈l,∃b,f x=mk b)->∃bs:List β,l.map f=bs.map mk|[],_=>{[],rfl}|x::l,h=>by obtain⟨b,e⟩:=h x zi;obtain⟨bs,e2⟩:=BH λy hy=>h y<|ze _ hy;exact{b::bs,by rw[zq,e,e2];rfl}
theorem Fv{cs:List<|Str×Str}{p:Part}{k:Str}{rs:List Row}(hk:∀r∈rs,Vg k<|ao cs r.2 p.1)(hv:∀r∈rs,valued cs p r=true):xf ((rs.map ai).map<|BG cs p.1):=by
 rw[zD];have nn:∀r∈rs,ao cs r.2 p.1≠.ax:=λr hr=>bx (by have:=hv r hr;unfold valued at this;simpa using this);by_cases e:k ="number";refine .inr<|BH λr hr=>?_;have h1:=hk r hr;have h2:=nn r hr;show ∃b,ao cs r.2 p.1=.int b;generalize ao cs r.2 p.1=v at h1 h2;cases v with|ax=>exact absurd rfl h2|int i=>exact⟨i,rfl⟩|str z=>(have h1:=h1.1;unfold iO at h1;simp only[ah,yU]at h1;rw[if_pos e]at h1;cases h1)|_=>cases h1.2
 refine .inl<|BH λr hr=>?_;have h1:=hk r hr;have h2:=nn r hr;show ∃b,ao cs r.2 p.1=.str b;generalize ao cs r.2 p.1=v at h1 h2;cases v with|ax=>exact absurd rfl h2|str i=>exact⟨i,rfl⟩|int z=>(have h1:=h1.1;unfold iO at h1;simp only[ah,yU]at h1;rw[if_neg e]at h1;cases h1)|_=>cases h1.2
theorem IG{cs:List<|Str×Str}{wy:Str}{ps:List Part}{p:Part}{x y:Row}(nx:valued cs p x=true)(ny:valued cs p y=true)(ne:k9 (ao cs x.2 p.1) (ao cs y.2 p.1)=false)(h:(sX (ao cs x.2 p.1) (ao cs y.2 p.1)==decide (p.2.1 ="up"))=true):cA cs wy (p::ps) x y=true:=by
 unfold valued at nx ny;have nx:ah (ao cs x.2 p.1)=false:=by simpa using nx
 have ny:ah (ao cs y.2 p.1)=false:=by simpa using ny
 show(if k9 (ao cs x.2 p.1) (ao cs y.2 p.1)=true then cA cs wy ps x y else cM p (ao cs x.2 p.1) (ao cs y.2 p.1))=true;rw[ne,if_neg zd];unfold cM;rw[nx,ny,if_neg<|by simp];exact h
theorem IH{x y:D}(h:sX x y=true):k9 x y=false:=by cases x with|int i=>(cases y with|int j=>(exact zy λe=>by rw[e,Dc]at h;cases h)|_=>cases h)|str i=>(cases y with|str j=>(exact zy λe=>by rw[e,Dc]at h;cases h)|_=>cases h)|_=>cases h
theorem II(x y:D):k9 x y=k9 y x:=by cases x<;>cases y<;>first|rfl|exact yL.mpr ⟨Eq.symm,Eq.symm⟩
theorem jX(T:Txt w K mg t)(B:Bm mg base):Ok P w base T.dE 6 (IF t):=by
 refine T.dE.F.okC (k:=5) jV (by rintro ds S R Z ⟨_,_,_,_,_,_,e,_⟩;rw[e];rfl) ?_;rintro gu A outer s H E ds S R Z rW hr ⟨cs,ps,p,wy,l,rs,e,hg,IJ,LL,hl,hn,gQ,hv,UX,ht,q⟩;subst e;obtain⟨c,hc,ec⟩:=IJ p zi;obtain⟨k,hk⟩:=vR hg IJ;have A7:xf ((rs.map ai).map<|BG cs p.1):=Fv (λr hr=>hk _<|gQ.1 r hr) hv;have Mf:(rs.map ai).length<64:=by rw[zb];exact hn
 have same:∀x y:Row,x∈rs->y∈rs->BG cs p.1 (ai x)=BG cs p.1 (ai y)->cA cs wy ps x y=true->cA cs wy (p::ps) x y=true:=λx y hx hy e h=>by show(if k9 (ao cs x.2 p.1) (ao cs y.2 p.1)=true then cA cs wy ps x y else _)=true;rw[if_pos<|(cF (hk _<|gQ.1 x hx).2 (hk _<|gQ.1 y hy).2).mpr e];exact h
 have step:∀x,x∈rs.map ai->∀Qk:KD,∀S':aw,Qk (BG cs p.1 x) S'->∀Zq,k_ [D.tup<|cs.map aA,x,.str p.1] S' Qk Zq:=λx hx Qk S' hQ _=>by obtain⟨r,hr,rfl⟩:=zf.mp hx;exact{cs,r,c,by rw[ec],hg,gQ.1 r hr,hc,by rw[ec];exact hQ}
 refine{_,(sc (si (bq bH hr.u (ix hr.u (dv 1) di) ds) (s1<|sr<|MX (N:=["row","columns","part"]) (src:=[none,some 0,some 1]) (rW.trans T.eC) ⟨T.cL,B⟩ hr (j7 (ag fb) ["columns","part","rows"] rfl rfl<|by trivial) (dv 2) (λ_ _ _ _=>(cf ((cW T).mono<|by decide) (hr.in1.in1.deeper _) T.bZ.m T.bZ.k T.bZ.b d0<|ac (dv 1)<|ac (dv 0)<|ac (ix (hr.in1.in1.deeper _).units (dv 2) di) an)) T.ja gy) s0)<|s1<|sr<|Ui (N:=["row","columns","part"]) (src:=[none,some 0,some 1]) (rW.trans T.eC) ⟨T.cL,B⟩ hr (j7 (ag fb) ["columns","part","rows"] rfl rfl<|by trivial) (dv 2) (λ_ _ _ _=>(cf ((cW T).mono<|by decide) (hr.in1.in1.deeper _) T.bZ.m T.bZ.k T.bZ.b d0<|ac (dv 1)<|ac (dv 0)<|ac (ix (hr.in1.in1.deeper _).units (dv 2) di) an)) T.ja gy),?_};rcases vT LL with e1|e1;refine !!!⟨bF (by rw[e1];decide +kernel) !{l,rs.map ai,BG cs p.1,rfl,hl,Mf,ht,A7,λx hx S' hs Qk hQ=>!!!!⟨step x hx _ S' (hQ S'<|.refl _) _⟩,λg S2 a hg hs ha=>?_}⟩;obtain⟨bC,e,pm,h⟩:=mI hg;rw[e];refine{S.set a<|.lst<|bC.map ai,fS hs,q bC a pm (h _ _ UX (λx y hx hy eN=>?_) same)<|dk hs ha};have eN:=ID (a:=ao cs x.2 p.1) (b:=ao cs y.2 p.1) eN;exact IG (hv x hx) (hv y hy) (IH eN) (by rw[eN,zx e1];rfl);refine !!!⟨nZ (by rw[e1];decide +kernel) !{l,rs.map ai,BG cs p.1,rfl,hl,Mf,ht,A7,λx hx S' hs Qk hQ=>!!!!⟨step x hx _ S' (hQ S'<|.refl _) _⟩,λg S2 a Yv hs ha=>?_}⟩;obtain⟨bC,e,pm,h⟩:=mI Yv;rw[e];refine{S.set a<|.lst<|bC.map ai,fS hs,q bC a pm (h _ _ UX (λx y hx hy eN=>?_) same)<|dk hs ha};have eN:=ID (a:=ao cs y.2 p.1) (b:=ao cs x.2 p.1) eN;have ne:=IH eN;refine IG (hv x hx) (hv y hy) (by rw[II];exact ne) ?_;have nn:∀r∈rs,ao cs r.2 p.1≠.ax:=λr hr=>bx (by have:=hv r hr;unfold valued at this;simpa using this);have CZ:ao cs x.2 p.1≠ao cs y.2 p.1:=λe=>by have:=(cF (hk _<|gQ.1 y hy).2 (hk _<|gQ.1 x hx).2).mpr e.symm;rw[ne]at this;cases this
 have:=mH (hk _<|gQ.1 x hx) (hk _<|gQ.1 y hy) (nn x hx) (nn y hy) CZ;rw[eN]at this;have h2:sX (ao cs x.2 p.1) (ao cs y.2 p.1)=false:=by simpa using this
 rw[h2,e1,zy<|by trivial];rfl
def Tb(t:iL)(S:aw):Prop:=S t.aU=some (.tab qK)/\S t.aL=some (.tab qV)
theorem Tb.sub{t:iL}{S S':aw}(h:Tb t S)(s:Sub S S'):Tb t S':={s _ _ h.1,s _ _ h.2}
noncomputable def Dd(b:Bool)(cs:List<|Str×Str)(p:Part):D->Bool|.tup [_,.tup ws]=>ah (ao cs ws p.1)==b|_=>false
theorem eQ{rs:List Row}{f:D->Bool}{g:Row->Bool}(h:∀r,f (ai r)=g r):((rs.map ai).filter f).map id=(rs.filter g).map ai:=by rw[List.map_id,List.filter_map];exact congrArg (List.map ai)<|List.filter_congr λr _=>h r
inductive IK (t:iL) (ds:List D) (S:aw) (R:KD) (Z:KX):Prop where
 |mk (cs:List<|Str×Str) (ps:List Part) (p:Part) (wy:Str) (l:Addr) (rs:List Row) (h0:ds=[.tup<|cs.map aA,p3 p,.ref l]) (h1:Gd cs) (h2:Pin cs<|p::ps) (h3:k8 p.2.1=true) (h4:S l=some (.lst<|rs.map ai)) (h5:rs.length<64) (h6:Rg cs rs) (h7:(rs.Pairwise λa b=>cA cs wy ps a b=true)) (h8:Tb t S) (h9:∀(bC:List Row)(a:Addr),bC.Perm rs->(bC.Pairwise λa b=>cA cs wy (p::ps) a b=true)->S a=none->R (.ref a) (S.set a<|.lst<|bC.map ai)):IK t ds S R Z
theorem mK(T:Txt w K mg t)(B:Bm mg base):Ok P w base T.fh 7 (IK t):=by
 refine T.fh.F.b_ cq ?_;rintro _ _ _ _ _ _ _ S R Z hr ⟨cs,ps,p,wy,l,rs,e,hg,IJ,LL,hl,hn,gQ,UX,ht,q⟩;subst e;obtain⟨c,hc,ec⟩:=IJ p zi;have hz:(rs.map ai).length<=1000:=by rw[zb];lia
 refine{_,(sc (MM (i:=3) (N:=["row","columns","part"]) (src:=[none,some 0,some 1]) cq.nd (j7 (ag gA) ["columns","part","rows","without","valued"] rfl rfl<|by trivial) (il<|dv 2) (pj<|show(["row","columns","part"]:List Str).Nodup by trivial) (aR rfl) aT (λ_ _ _ _ _=>(if1<|bq jQ hr.u (aH T.bZ (cW T) hr<|ac (dv 1)<|ac (dv 0)<|ac (ix hr.u (dv 2) di) an) dn)) λ_ _ _ _ _=>(dv 0))<|sc (MM (i:=4) (N:=["row","columns","part"]) (src:=[none,some 0,some 1]) cq.nd (j7 (ag gA) ["columns","part","rows","without","valued"] rfl rfl<|by trivial) (il<|dv 2) (pj<|show(["row","columns","part"]:List Str).Nodup by trivial) (aR rfl) aT (λ_ _ _ _ _=>(if1<|bq kF hr.u (aH T.bZ (cW T) hr<|ac (dv 1)<|ac (dv 0)<|ac (ix hr.u (dv 2) di) an) dn)) λ_ _ _ _ _=>(dv 0))<|sc (cC (i:=4) cq.nd<|aH T.dE (jX T B) hr<|ac (dv 0)<|ac (dv 1)<|ac (dv 4) an)<|s1<|sr<|QX (bq bH hr.u (ix hr.u (dv 1) di) ds) (bo cw hr.u (dv 3)<|dv 4)<|bo cw hr.u (dv 4)<|dv 3),?_};refine !{_,hl,?_};refine cg (Dd true cs p) id hl hz (λd hd Q Q' hQ Bz=>?_) λp1 vO=>?_;obtain⟨r,hr,rfl⟩:=zf.mp hd;refine !!!!{cs,r,c,(show[D.tup<|cs.map aA,ai r,D.str p.1]=[_,_,D.str c.1] by rw[ec]),hg,gQ.1 r hr,hc,?_};rw[ec];refine{_,rfl,bP (λh=>!⟨hQ ?_⟩) λh=>Bz ?_};show(ah (ao cs r.2 p.1)==true)=true;rw[show ah (ao cs r.2 p.1)=true from h];rfl;show(ah (ao cs r.2 p.1)==true)=false;rw[show ah (ao cs r.2 p.1)=false from h];rfl;have e1:((rs.map ai).filter<|Dd true cs p).map id=(rs.filter λr=>!valued cs p r).map ai:=eQ λr=>by show(ah (ao cs r.2 p.1)==true)=!valued cs p r;unfold valued;cases ah (ao cs r.2 p.1)<;>rfl
 rw[show({rs.map ai,λS=>wg S (.ref l)<|rs.map ai}:uJ).xs=rs.map ai from rfl,e1];have Zp:Sub S (S.set p1<|.lst<|(rs.filter λr=>!valued cs p r).map ai):=.new vO;have h1:(S.set p1<|.lst<|(rs.filter λr=>!valued cs p r).map ai) p1=some (.lst<|(rs.filter λr=>!valued cs p r).map ai):=aa;generalize S.set p1 (.lst<|(rs.filter λr=>!valued cs p r).map ai)=S1 at Zp h1⊢;have P7:=Zp _ _ hl;refine !{_,P7,?_};refine cg (Dd false cs p) id P7 hz (λd hd Q Q' hQ Bz=>?_) λp2 lL=>?_;obtain⟨r,hr,rfl⟩:=zf.mp hd;refine !!!!{cs,r,c,(show[D.tup<|cs.map aA,ai r,D.str p.1]=[_,_,D.str c.1] by rw[ec]),hg,gQ.1 r hr,hc,?_};rw[ec];refine{_,rfl,bP (λh=>!⟨hQ ?_⟩) λh=>Bz ?_};show(ah (ao cs r.2 p.1)==false)=true;rw[show ah (ao cs r.2 p.1)=false from nt h];rfl;show(ah (ao cs r.2 p.1)==false)=false;rw[show ah (ao cs r.2 p.1)=true from nf h];rfl;have e2:((rs.map ai).filter<|Dd false cs p).map id=(rs.filter<|valued cs p).map ai:=eQ λr=>by show(ah (ao cs r.2 p.1)==false)=valued cs p r;unfold valued;cases ah (ao cs r.2 p.1)<;>rfl
 rw[show({rs.map ai,λS=>wg S (.ref l)<|rs.map ai}:uJ).xs=rs.map ai from rfl,e2];have Eu:Sub S (S1.set p2<|.lst<|(rs.filter<|valued cs p).map ai):=Zp.trans<|.new lL;have F9:(S1.set p2<|.lst<|(rs.filter<|valued cs p).map ai) p1=_:=(ae<|eP h1 lL).trans h1;have Zr:(S1.set p2<|.lst<|(rs.filter<|valued cs p).map ai) p2=_:=aa;generalize S1.set p2 (.lst<|(rs.filter<|valued cs p).map ai)=S2 at Eu F9 Zr⊢;have fl:(rs.filter<|valued cs p).length<=rs.length:=List.length_filter_le _ _;have fl2:(rs.filter λr=>!valued cs p r).length<=rs.length:=List.length_filter_le _ _;refine !!!{cs,ps,p,wy,p2,rs.filter<|valued cs p,rfl,hg,IJ,LL,Zr,by lia,gQ.sub yq,λr hr=>(zY.mp hr).2,UX.sublist yq,(ht.sub Eu).2,λV p3 hV Wm PY=>?_};obtain⟨pm,pw⟩:=Fu UX hV Wm;have UY:(S2.set p3<|.lst<|V.map ai) p1=_:=(ae<|eP F9 PY).trans F9;have Zs:(S2.set p3<|.lst<|V.map ai) p3=some (.lst<|V.map ai):=aa;have UZ:Sub S (S2.set p3<|.lst<|V.map ai):=Eu.trans<|.new PY;generalize S2.set p3 (.lst<|V.map ai)=S3 at UY Zs UZ⊢;have hVl:=hV.length_eq;refine !!!⟨bP (λh=>?_) λh=>?_⟩;rw[if_pos<|zB h]at pm pw;refine !!{_,_,UY,Zs,sm<|by rw[zb,zb];lia,λp4 Zt=>?_};rw[<-zL];exact{_,fS UZ,q _ p4 pm pw<|dk UZ Zt};rw[if_neg<|zP h]at pm pw;refine !!{_,_,Zs,UY,sm<|by rw[zb,zb];lia,λp4 Zt=>?_};rw[<-zL];exact{_,fS UZ,q _ p4 pm pw<|dk UZ Zt}
structure Og(cs:List (Str×Str))(ps:List Part)(wy:Str):Prop where
 pin:Pin cs ps
 Zu:∀p∈ps,k8 p.2.1=true
 way:k8 wy=true
 ok:xX cs ps wy=true
 tx:∀p∈ps,Zl p
noncomputable def cG(ps:List Part)(wy:Str):D:=.tup [.tup<|ps.map p3,.str wy]
inductive Nd (t:iL) (ds:List D) (S:aw) (R:KD) (Z:KX):Prop where
 |mk (cs:List<|Str×Str) (ps:List Part) (wy:Str) (l:Addr) (rs:List Row) (h0:ds=[.tup<|cs.map aA,cG ps wy,.ref l]) (h1:Gd cs) (h2:Og cs ps wy) (h3:S l=some (.lst<|rs.map ai)) (h4:rs.length<64) (h5:Rg cs rs) (h6:Tb t S) (h7:∀(bC:List Row)(a:Addr),bC.Perm rs->(bC.Pairwise λa b=>cA cs wy ps a b=true)->S a=none->R (.ref a) (S.set a<|.lst<|bC.map ai)):Nd t ds S R Z
structure Vw(C:Addr)(S:aw)(a:Addr)(cs:List (Str×Str))(m:D)(rows:List Row):Prop where
 sh:∃F dl rs,bQ C S a F cs dl rs/\rs.length<64/\rf dl.length m≠none/\∀i ss,rf dl.length m=some i->ss.Perm (rs.map (·.1))->PyProof.Rows.sortedS ss=true->kZ rs i ss=rows.map ai
 mo:Gt S m
 len:rows.length<64
 rg:Rg cs rows
theorem bQ.sub(b:Sub S S')(h:bQ C S a F cs dl rs):bQ C S' a F cs dl rs:=by obtain⟨ld,lr,ra,h,e⟩:=h;exact{ld,lr,ra,{b _ _ h.ins,b _ _ h.xN,b _ _ h.run,λr hr=>b _ _<|h.cell r hr,h.kn,h.an,h.sz},e}
theorem x8(T:Txt w K mg t)(B:Bm mg base):Ok P w base T.qO 8 (Nd t):=by
 refine T.qO.F.b_ fP ?_;rintro _ _ _ _ _ _ _ S R Z hr ⟨cs,ps,wy,l,rs,e,hg,ho,hl,hn,gQ,ht,q⟩;subst e;refine{_,(sc (cC (i:=3) fP.nd<|aH T.fg (mJ T B) hr<|ac (dv 2)<|ac (ix hr.u (dv 1) di) an)<|sc (A4<|Ju (irt T.qM<|ac (ix hr.u (dv 1) di) an) (gn (i:=4) fP.nd)<|s1<|cC (i:=3) fP.nd<|aH T.fh (mK T B) hr<|ac (dv 0)<|ac (dv 4)<|ac (dv 3) an)<|s1<|sr<|dv 3),?_};refine !!!{cs,l,rs,wy,rfl,ho.way,hl,hn,gQ,ht.1,λrs1 p1 pm1 pw1 vO=>?_};have Wn:ps.reverse.length=ps.length:=yC;refine{λaJ S'=>∃(o:Option D)(p:Addr)(bC:List Row),aJ=[some<|.tup<|cs.map aA,some<|cG ps wy,some<|.ref l,some<|.ref p,o]/\S p=none/\S' p=some (.lst<|bC.map ai)/\Sub S S'/\bC.Perm rs/\bC.Pairwise λa b=>cA cs wy ps a b=true,?_,?_};refine !!!⟨?_⟩;refine{λi aJ S'=>∃(o:Option D)(p:Addr)(bC:List Row),aJ=[some<|.tup<|cs.map aA,some<|cG ps wy,some<|.ref l,some<|.ref p,o]/\S p=none/\S' p=some (.lst<|bC.map ai)/\Sub S S'/\bC.Perm rs/\bC.Pairwise λa b=>cA cs wy (ps.reverse.take i).reverse a b=true,{none,p1,rs1,rfl,vO,aa,.new vO,pm1,pw1},λ_ _ _ _=>trivial,?_,?_};rintro i d aJ S' hd ⟨o,p,bC,rfl,hp,dr,sb,pm,pw⟩;have hd:(ps.map p3).reverse[i]?=some d:=hd;rw[<-List.map_reverse,zw]at hd;cases e5:ps.reverse[i]? with|none=>(rw[e5]at hd;cases hd)|some pt=>rw[e5]at hd;cases hd;have OT:pt∈ps:=List.mem_reverse.mp<|zG e5;have et:(ps.reverse.take<|i+1).reverse=pt::(ps.reverse.take i).reverse:=(by rw[List.take_add_one,e5,List.reverse_append];rfl);have Ew:Pin cs (pt::(ps.reverse.take i).reverse):=λx hx=>(by rcases zh.mp hx with rfl|hx;exact ho.pin _ OT;exact ho.pin _<|List.mem_reverse.mp<|List.mem_of_mem_take<|List.mem_reverse.mp hx);refine !!!{cs,(ps.reverse.take i).reverse,pt,wy,p,bC,rfl,hg,Ew,ho.Zu pt OT,dr,by rw[pm.length_eq];exact hn,gQ.perm pm,pw,ht.sub sb,λYJ p2 pm2 Wo lL=>?_};rw[<-et]at Wo;exact{_,p2,YJ,rfl,dk sb lL,aa,sb.trans<|.new lL,pm2.trans pm,Wo}
 rintro aJ S' ⟨o,p,bC,rfl,hp,dr,sb,pm,pw⟩;have pw:bC.Pairwise λa b=>cA cs wy (ps.reverse.take (ps.map p3).reverse.length).reverse a b=true:=pw;rw[yC,zb,List.take_of_length_le<|Nat.le_of_eq Wn,List.reverse_reverse]at pw;exact fo ⟨o,p,bC,rfl,hp,dr,sb,pm,pw⟩;rintro aJ S' ⟨o,p,bC,rfl,hp,dr,sb,pm,pw⟩;refine !{S.set p<|.lst<|bC.map ai,λb c hb=>?_,q bC p pm pw hp};by_cases e:b=p;subst e;rw[aa]at hb;cases hb;exact dr;rw[ae e]at hb;exact sb b c hb
noncomputable def Df(cs:List<|Str×Str)(d:D):D->Bool|.tup [.str k,.tup ws]=>aF cs (k,ws) 7 d|_=>false
inductive IL (t:iL) (ds:List D) (S:aw) (R:KD) (Z:KX):Prop where
 |mk (a cs d m rows) (h0:ds=[.ref a,d,m]) (h1:Gd cs) (h2:Sq cs d) (h3:Vw t.aj S a cs m rows) (h4:∀p,S p=none->R (.ref p) (S.set p<|.lst<|(rows.filter λr=>aF cs r 7 d).map ai)):IL t ds S R Z
theorem iI(T:Txt w K mg t):Ok P w base T.eI 11 (IL t):=by refine T.eI.F.b_ iB ?_;rintro _ _ _ _ _ _ _ S R Z hr ⟨a,cs,d,m,rows,e,hg,hd,hv,q⟩;subst e;obtain⟨F,dl,rs,hS,hn,Rm,Nf⟩:=hv.sh;obtain⟨ld,lr,ra,h,_⟩:=id hS;refine{_,(sc (cC (i:=3) iB.nd<|lX (dv 0) T.ak T.aE (bc T) hr)<|s1<|sr<|sI (N:=["row","columns","sieve"]) (src:=[none,some 3,some 1]) (j7 (ag qD) ["shelf","sieve","moment","columns"] rfl rfl<|by trivial) (il<|FZ (dv 0) T.ak T.hX (Fi T) hr<|ac (dv 2) an) (pj<|show(["row","columns","sieve"]:List Str).Nodup by trivial) (aR rfl) aT (λ_ _ _ _ _=>(if1<|tv<|aH T.passes (jL T 7) hr<|ac (dv 1)<|ac (dv 2)<|ac (dv 0) an)) λ_ _ _ _ _=>(dv 0)),?_};refine !{a,_,rfl,h.ins,rfl,a,F,cs,dl,rs,rfl,hS,?_};refine !{a,_,rfl,h.ins,rfl,_,rfl,a,F,cs,dl,rs,m,rfl,hS,hn,hv.mo,λi ss hi hp hs p sW=>?_,λh=>absurd h Rm};rw[Nf i ss hi hp hs];refine{_,aa,?_};refine cg (Df cs d) id aa (by show(rows.map ai).length<=1000;rw[zb];have:=hv.len;lia) (λx hx Q Q' hQ Bz=>?_) λp2 lL=>?_;obtain⟨r,hr,rfl⟩:=zf.mp hx;refine !!!{cs,d,r,rfl,hg,hd.1,hv.rg.1 r hr,_,rfl,bP (λh=>!⟨hQ h⟩) λh=>Bz h};have e1:((rows.map ai).filter<|Df cs d).map id=(rows.filter λr=>aF cs r 7 d).map ai:=eQ λr=>rfl;rw[show({rows.map ai,λS=>wg S (.ref p)<|rows.map ai}:uJ).xs=rows.map ai from rfl,e1];exact{_,fS<|.new sW,q p2<|dk (.new sW) lL}
inductive U0 (t:iL) (ds:List D) (S:aw) (R:KD) (Z:KX):Prop where
 |mk (a cs ps wy d m rows) (h0:ds=[.ref a,cG ps wy,d,m]) (h1:Gd cs) (h2:Og cs ps wy) (h3:Sq cs d) (h4:Vw t.aj S a cs m rows) (h5:Tb t S) (h6:∀(bC:List Row)(p:Addr),bC.Perm (rows.filter λr=>aF cs r 7 d)->(bC.Pairwise λa b=>cA cs wy ps a b=true)->S p=none->R (.ref p) (S.set p<|.lst<|bC.map ai)):U0 t ds S R Z
theorem dm(T:Txt w K mg t)(B:Bm mg base):Ok P w base T.cz 12 (U0 t):=by refine T.cz.F.b_ mj ?_;rintro _ _ _ _ _ _ _ S R Z hr ⟨a,cs,ps,wy,d,m,rows,e,hg,ho,hd,hv,ht,q⟩;subst e;obtain⟨F,dl,rs,hS,hn,Rm,Nf⟩:=hv.sh;obtain⟨ld,lr,ra,h,_⟩:=id hS;refine{_,(s1<|sr<|aH T.qO (x8 T B) hr<|ac (lX (dv 0) T.ak T.aE (bc T) hr)<|ac (dv 1)<|ac (aH T.eI (iI T) hr<|ac (dv 0)<|ac (dv 2)<|ac (dv 3) an) an),?_};refine !{a,_,rfl,h.ins,rfl,a,F,cs,dl,rs,rfl,hS,?_};refine !!!!{a,cs,d,m,rows,rfl,hg,hd,hv,λp hp=>?_};have fl:(rows.filter λr=>aF cs r 7 d).length<=rows.length:=List.length_filter_le _ _;have:=hv.len;refine{cs,ps,wy,p,rows.filter λr=>aF cs r 7 d,rfl,hg,ho,aa,Nat.lt_of_le_of_lt fl this,hv.rg.sub yq,ht.sub<|.new hp,λbC p2 pm pw lL=>?_};exact{_,fS<|.new hp,q bC p2 pm pw<|dk (.new hp) lL}
inductive vU (t:iL) (ds:List D) (S:aw) (R:KD) (Z:KX):Prop where
 |mk (a:_) (cs:_) (ps:_) (wy:_) (d:_) (m:_) (rows:_) (h0:ds=[.ref a,cG ps wy,d,m]) (h1:Gd cs) (h2:Og cs ps wy) (h3:Sq cs d) (h4:Vw t.aj S a cs m rows) (h5:Tb t S) (h6:∀(bC:List Row)(p:Addr),bC.Perm (rows.filter λr=>aF cs r 7 d)->(bC.Pairwise λa b=>cA cs wy ps a b=true)->S p=none->R (.ref p) (S.set p<|.lst<|bC.map ai)):vU t ds S R Z
theorem jv(T:Txt w K mg t)(B:Bm mg base):Ok P w base T.plain 13 (vU t):=by refine T.plain.F.b_ H9 ?_;rintro _ _ _ _ _ _ _ S R Z hr ⟨a,cs,ps,wy,d,m,rows,e,hg,ho,hd,hv,ht,q⟩;subst e;obtain⟨F,dl,rs,hS,hn,Rm,Nf⟩:=hv.sh;obtain⟨ld,lr,ra,h,_⟩:=id hS;refine{_,(sc (se<|aH T.fM (jt T) hr<|ac (lX (dv 0) T.ak T.aE (bc T) hr)<|ac (dv 1) an)<|sc (se<|aH T.dR (fu T) hr<|ac (lX (dv 0) T.ak T.aE (bc T) hr)<|ac (dv 2) an)<|s1<|sr<|aH T.cz (dm T B) hr<|ac (dv 0)<|ac (dv 1)<|ac (dv 2)<|ac (dv 3) an),?_};refine !{a,_,rfl,h.ins,rfl,a,F,cs,dl,rs,rfl,hS,_,rfl,cs,ps,wy,rfl,hg,ho.tx,λ_=>?_,λz=>by rw[ho.ok]at z;cases z};refine !{a,_,rfl,h.ins,rfl,a,F,cs,dl,rs,rfl,hS,_,rfl,cs,d,rfl,hg,hd,?_};exact !!!!{a,cs,ps,wy,d,m,rows,rfl,hg,ho,hd,hv,ht,λbC p pm pw hp=>fo<|q bC p pm pw hp}
inductive lg (t:iL) (ds:List D) (S:aw) (R:KD) (Z:KX):Prop where
 |mk (a cs d m rows) (h0:ds=[.ref a,d,m]) (h1:Gd cs) (h2:Sq cs d) (h3:Vw t.aj S a cs m rows) (h4:R (.int ((rows.filter λr=>aF cs r 7 d).length:Nat)) S):lg t ds S R Z
theorem oO(T:Txt w K mg t):Ok P w base T.l8 12 (lg t):=by refine T.l8.F.b_ xI ?_;rintro _ _ _ _ _ _ _ S R Z hr ⟨a,cs,d,m,rows,e,hg,hd,hv,q⟩;subst e;obtain⟨F,dl,rs,hS,hn,Rm,Nf⟩:=hv.sh;obtain⟨ld,lr,ra,h,_⟩:=id hS;refine{_,(sc (se<|aH T.dR (fu T) hr<|ac (lX (dv 0) T.ak T.aE (bc T) hr)<|ac (dv 1) an)<|s1<|sr<|cb aZ T.aV aI<|ac (aH T.eI (iI T) hr<|ac (dv 0)<|ac (dv 1)<|ac (dv 2) an) an),?_};refine !{a,_,rfl,h.ins,rfl,a,F,cs,dl,rs,rfl,hS,_,rfl,cs,d,rfl,hg,hd,?_};refine !!!{a,cs,d,m,rows,rfl,hg,hd,hv,λp hp=>!⟨.inl {_,aa,S,.new hp,?_}⟩};rw[zb];exact q
theorem kd_sub(h:Sub S S')(hk:O3 S d k):O3 S' d k:=by cases d with|ref a=>(rcases hk with⟨e,ds,q⟩|⟨e,ds,q⟩;exact .inl {e,ds,h _ _ q};exact .inr {e,ds,h _ _ q})|_=>exact hk
theorem Gt.sub(h:Sub S S')(g:Gt S d):Gt S' d:={by obtain⟨k,hk⟩:=g.1;exact{k,kd_sub h hk},g.2}
theorem Qd:Gt S (.tup ws):={{.tup,rfl},λ_=>nofun}
theorem LM(h:ws.length<=1000)(g:∀v∈ws,Gt S v):Rh S (.tup ws):={Qd,λWl e=>by cases e;exact⟨h,g⟩}
theorem gt_int:Gt S (.int i):={{.int,rfl},λ_=>nofun}
theorem Dg(h:z.cps.size<=1000):Gt S (.str z):={{.str,rfl},λz' e=>by cases e;exact h}
theorem IM(h:bu d=true):Gt S d:=by cases d with|ax=>exact vA|int i=>exact gt_int|str z=>have h:(decide (z.cps.size<=40)&&PyData.strOk z)=true:=h;rw[zK]at h;have:=zB h.1;exact Dg (by lia)|_=>cases h
theorem rH:∀{cs:List (Str×Str)}{ws:List D},Paired rel cs ws->ws.length=cs.length|_,_,.nil=>rfl|_,_,.cons _ t=>by rw[zJ,zJ,rH t]
theorem Wg.len(h:Wg cs ws):ws.length=cs.length:=rH h
theorem Wg.Qe(h:Wg cs ws):mw cs (.tup ws)=true:=by show(decide (ws.length=cs.length)&&(List.zipWith (λc v=>iO c.2 v) cs ws).all id)=true;rw[zx h.len,yc];unfold Wg at h;induction h with|nil=>rfl|cons r t ih=>rw[List.zipWith_cons_cons,yH,ih];show(id (iO _ _)&&true)=true;rw[show id (iO _ _)=true from r.1];rfl
theorem Wg.gts(h:Wg cs ws)(hc:cs.length<=8):Rh S (.tup ws):=LM (by rw[h.len];lia) λv hv=>IM<|h.all v hv
theorem Dh(hg:Gd cs)(hN:∀c∈cs,c.1∈BA):∀d∈cs.map aA,Ly S 60 d:=λd hd=>by obtain⟨c,hc,rfl⟩:=zf.mp hd;refine(Ly.tup (n:=0) λx hx=>?_).le (by decide);have hx:x∈[D.str c.1,D.str c.2]:=hx;simp only[zh,zI,or_false]at hx;rcases hx with rfl|rfl;exact Ly.str (Ik _<|hN c hc).2;rcases (hg.2.2 c hc).2 with e|e<;>rw[e]<;>exact Ly.str (by trivial)
theorem LN{S:aw}{a b:Addr}{ds:List D}{R:KD}(e1:S a=some (.lst ds))(e2:S b=some (.lst []))(h:∀d∈ds,Ly S 60 d)(q:R (.bl<|!ds.isEmpty) S):Js true (.ref a) (.ref b) S R:=by obtain⟨ps,k1,k2,k3,k4⟩:=Ly.all h;refine{.list ps,.list [],⟨ds,ps,e1,rfl,k1⟩,{[],[],e2,rfl,by simp only[DpAll]},by simp only[PyData.canLay0];exact k2,by simp only[PyData.canLay0,PyData.canLayAll0],.inl<|by simp only[PyData.depth];lia,?_};rw[if_pos rfl,xW,show ps.isEmpty=ds.isEmpty by cases ps<;>cases ds<;>first|rfl|cases k4];exact q
def OG(cs:List<|Str×Str)(ps:List<|Str×Str×Str)(M:List<|Str×Str):Prop:=(ps.map Prod.fst++M.map Prod.fst).Perm (cs.map Prod.fst)/\∀p∈ps,k8 p.2.1=true/\Iy p.2.2=true
theorem OG.ord(hg:Gd cs)(h:OG cs ps M)(hw:k8 wy=true):xX cs ps wy=true:=by unfold xX;have hl:=h.1.length_eq;rw[zC,zb,zb,zb]at hl;have h8:=hg.1;rw[zx<|show ps.length<=8 by lia,hw,zx (List.nodup_append.mp<|h.1.nodup_iff.mpr hg.2.1).1,ya.mpr];rfl;intro p hp;unfold fR;rw[(h.2 p hp).1,(h.2 p hp).2,zx<|h.1.mem_iff.mp<|zS _<|zf.mpr ⟨p,hp,rfl⟩];rfl
theorem IP{cs M:List<|Str×Str}(h:Cg cs)(hm:∀c∈M,c∈cs){S:aw} : ∀d∈M.map aA,Ly S 60 d:=λd hd=>by obtain⟨c,hc,rfl⟩:=zf.mp hd;exact Dh h.1 h.2 _<|zf.mpr {c,hm c hc,rfl}
theorem OG.og{cs:List<|Str×Str}{ps:List Part}{M:List<|Str×Str}{wy:Str}(hg:Gd cs)(h:OG cs ps M)(hw:k8 wy=true):Og cs ps wy:=by
 have pin:Pin cs ps:=λp hp=>by obtain⟨c,hc,e⟩:=zf.mp<|h.1.mem_iff.mp<|zS _<|zf.mpr ⟨p,hp,rfl⟩;exact⟨c,hc,e⟩
 refine{pin,λp hp=>(h.2 p hp).1,hw,h.ord hg hw,λp hp=>?_};obtain⟨c,hc,ec⟩:=pin p hp;obtain⟨h1,h2⟩:=h.2 p hp;refine{by rw[<-ec];exact nV (hg.2.2 c hc).1,by rcases vT h1 with e|e<;>rw[e]<;>decide +kernel,?_};unfold Iy at h2;simp only[Bool.or_eq_true,zX]at h2;rcases h2 with e|e<;>rw[e]<;>decide +kernel
inductive ui (ds:List D) (S:aw) (R:KD) (Z:KX):Prop where
 |mk (l cs) (h0:ds=[.ref l,.tup<|cs.map aA]) (h1:Cg cs) (h2:S l=some .well) (h3:∀(ps:List Part)(wy:Str),Og cs ps wy->R (cG ps wy) S):ui ds S R Z
theorem IQ(T:Txt w K mg t):Ok P w base T.u7 2 ui:=by
 refine T.u7.F.b_ dJ ?_;rintro _ _ _ _ _ _ _ S R Z hr ⟨l,cs,e,hg,hw,q⟩;subst e;have h8:=hg.1.1;refine{_,(sc (cC (i:=2) dJ.nd<|ct O4 T.PK Kg<|ac (dv 1) an)<|sc (cC (i:=3) dJ.nd<|cK an)<|sc (A4<|Ju (ML T.eG<|ac (aH T.aB (aP T) hr<|ac (dv 0)<|ac (uM<|ix hr.u (cK<|ac di<|ac di<|ac di an)<|aH T.aB (aP T) hr<|ac (dv 0)<|ac di an) an) an) (gn (i:=4) dJ.nd)<|s1<|si (bq iK hr.u (dv 2)<|cK an) (sc (sa (bm zQ PySem.F.slot_list_pop PySem.F.type_list_pop Cz (dv 2)<|ac (aH T.aB (aP T) hr<|ac (dv 0)<|ac (cb aZ T.aV aI<|ac (dv 2) an) an) an)<|gt (n:=2)<|gc (gn (i:=5) dJ.nd)<|gc (gn (i:=6) dJ.nd) g0)<|s1<|se<|bm zQ yh yi cY (dv 3)<|ac (bw<|ac (dv 5)<|ac (uM<|ix hr.u (cK<|ac ds<|ac ds an)<|aH T.aB (aP T) hr<|ac (dv 0)<|ac di an)<|ac (uM<|ix hr.u (cK<|ac ds<|ac ds an)<|aH T.aB (aP T) hr<|ac (dv 0)<|ac di an) an) an) s0)<|s1<|sr<|bw<|ac (ct fH T.bt aW<|ac (dv 3) an)<|ac (uM<|ix hr.u (cK<|ac ds<|ac ds an)<|aH T.aB (aP T) hr<|ac (dv 0)<|ac di an) an),?_};refine !{_,_,rfl,.inr rfl,λll F_=>{vp,λlp LO=>?_}};have Wq:ll≠lp:=eP (aa (S:=S)) LO;have U1:S lp=none:=by rw[ae Wq.symm]at LO;exact LO
 have Zh:l≠ll:=eP hw F_;have hnp:l≠lp:=eP hw U1;have A2:((S.set ll<|.lst<|cs.map aA).set lp<|.lst []) l=some .well:=wl (wl hw F_) LO;have hL2:((S.set ll<|.lst<|cs.map aA).set lp<|.lst []) ll=some (.lst<|cs.map aA):=(ae Wq).trans aa;have hP2:((S.set ll<|.lst<|cs.map aA).set lp<|.lst []) lp=some (.lst []):=aa;have Eu:Sub S ((S.set ll<|.lst<|cs.map aA).set lp<|.lst []):=(Sub.new F_).trans<|.new LO;refine{λaJ S'=>∃(o4 o5 o6:Option D)(ps:List (Str×Str×Str))(M:List (Str×Str)),aJ=[some<|.ref l,some<|.tup<|cs.map aA,some<|.ref ll,some<|.ref lp,o4,o5,o6]/\OG cs ps M/\S' lp=some (.lst<|ps.map p3)/\S' l=some .well/\Sub S S',?_,?_};generalize (S.set ll<|.lst<|cs.map aA).set lp (.lst [])=S2 at A2 hL2 hP2 Eu⊢;refine !{mq,λp hp=>!{l,_,rfl,(by decide),(by decide),wl A2 hp,λn3 h30 UY=>bK h30 UY hp λd hd=>?_}};obtain⟨m,rfl,hm0,hm⟩:∃m:Nat,d=.int m/\1<=m/\m<=9:=by have hd:d∈[D.int 4,.int 4,.int 9]:=hd;simp only[zh,zI,or_false]at hd;rcases hd with h|h|h;exact{4,h,by decide,by decide};exact{4,h,by decide,by decide};exact{9,h,by decide,by decide}
 refine{l,_,rfl,(by lia),js (by lia)<|by lia,A2,λn h0 h1=>{n,rfl,by lia,by lia,?_}};refine{λi aJ S'=>∃(o4 o5 o6:Option D)(ps:List (Str×Str×Str))(M:List (Str×Str)),aJ=[some<|.ref l,some<|.tup<|cs.map aA,some<|.ref ll,some<|.ref lp,o4,o5,o6]/\OG cs ps M/\(∀c∈M,c∈cs)/\M.length<=8/\S' ll=some (.lst<|M.map aA)/\S' lp=some (.lst<|ps.map p3)/\S' l=some .well/\Sub S S',{none,none,none,[],cs,rfl,{.refl _,λ_ h=>(nomatch h)},λ_ h=>h,h8,hL2,hP2,A2,Eu},λ_ _ _ _=>trivial,?_,?_};rintro i d aJ S' hd ⟨o4,o5,o6,ps,M,rfl,Ng,Wr,hM8,hL,hP,hW,hs⟩;have hd:(eF 0 n.toNat)[i]?=some d:=hd;obtain⟨hi,rfl⟩:=eW hd;have Na:(M.map aA).length=M.length:=zb _;refine !{vp,λpe K3=>LN ((Sub.new K3) _ _ hL) aa (IP hg Wr) !⟨?_⟩};have U4:=(Sub.new (c:=.lst []) K3) _ _ hL;have MV:=(Sub.new (c:=.lst []) K3) _ _ hP;have Ws:=wl (c:=.lst []) hW K3;have Mu:=hs.trans<|.new (c:=.lst []) K3;generalize S'.set pe (.lst [])=S3 at U4 MV Ws Mu⊢;refine bP (λCZ=>?_) λCZ=>?_;have Ex:0<M.length:=by have CZ:(!(M.map aA).isEmpty)=true:=CZ;cases M with|nil=>(cases CZ)|cons a M=>exact Nat.succ_pos _
 refine{_,rfl,{rfl,_,U4},_,rfl,_,rfl,_,rfl,.inl {_,U4,l,_,rfl,by lia,js (by lia)<|by lia,Ws,λj hj0 hj1=>?_}};obtain⟨jn,rfl⟩:∃jn:Nat,j=(jn:Int):={j.toNat,by lia};have P0:jn<M.length:=by lia
 have hz:M[jn]?=some (M[jn]'P0):=zj P0;generalize M[jn]'P0=c at hz;have hcM:=zG hz;refine{ll,_,_,jn,aA c,rfl,rfl,U4,by lia,by lia,C6<|by lia,by rw[zw,hz];rfl,?_};rw[<-nu];have Zv:(S3.set ll<|.lst<|(M.eraseIdx jn).map aA) lp=some (.lst<|ps.map p3):=(ae Wq.symm).trans MV;have Wt:(S3.set ll<|.lst<|(M.eraseIdx jn).map aA) l=some .well:=(ae Zh).trans Ws;have hL4:(S3.set ll<|.lst<|(M.eraseIdx jn).map aA) ll=some (.lst<|(M.eraseIdx jn).map aA):=aa;have hs4:Sub S (S3.set ll<|.lst<|(M.eraseIdx jn).map aA):=λb c hb=>(ae<|eP hb F_).trans<|Mu b c hb;generalize S3.set ll (.lst<|(M.eraseIdx jn).map aA)=S4 at Zv Wt hL4 hs4⊢;refine !{rfl,_,_,rfl,_,_,rfl,rfl,?_};refine{_,rfl,{rfl,_,Zv},_,rfl,bI,λp hp=>!{l,_,rfl,(by decide),(by decide),wl Wt hp,λn2 P1 F9=>bK P1 F9 hp λd hd=>?_}};obtain⟨wy,rfl,LL⟩:∃wy:Str,d=.str wy/\k8 wy=true:=by have hd:d∈[D.str "up",.str "down"]:=hd;simp only[zh,zI,or_false]at hd;rcases hd with h|h;exact{_,h,(by trivial)};exact{_,h,(by trivial)}
 refine{bI,λp hp=>!{l,_,rfl,(by decide),(by decide),wl Wt hp,λn2 P1 F9=>bK P1 F9 hp λd hd=>?_}};obtain⟨en,rfl,y8⟩:∃en:Str,d=.str en/\Iy en=true:=by have hd:d∈[D.str "first",.str "last"]:=hd;simp only[zh,zI,or_false]at hd;rcases hd with h|h;exact{_,h,(by trivial)};exact{_,h,(by trivial)}
 have dr:ps.length<=8:=by have hl:=Ng.1.length_eq;rw[zC,zb,zb,zb]at hl;lia
 refine{mq,lp,_,_,rfl,rfl,Zv,bg<|by rw[zb];lia,?_};refine{_,_,_,ps++[(c.1,wy,en)],M.eraseIdx jn,rfl,{?_,λx hx=>?_},λx hx=>Wr x<|List.mem_of_mem_eraseIdx hx,by have:=List.length_eraseIdx_le M jn;lia,(ae Wq).trans hL4,by rw[aa,zL];rfl,(ae hnp).trans Wt,λb c hb=>(ae<|eP hb U1).trans<|hs4 b c hb};rw[zL,List.append_assoc];exact(((k7 hz).map Prod.fst).append_left _).trans Ng.1;rcases zN.mp hx with hx|hx;exact Ng.2 x hx;rw[zE.mp hx];exact⟨LL,y8⟩;exact{_,_,_,ps,M,rfl,Ng,Wr,hM8,U4,MV,Ws,Mu};rintro aJ S' ⟨o4,o5,o6,ps,M,rfl,Ng,Wr,hM8,hL,hP,hW,hs⟩;exact fo ⟨o4,o5,o6,ps,M,rfl,Ng,hP,hW,hs⟩;rintro aJ S' ⟨o4,o5,o6,ps,M,rfl,Ng,hP,hW,hs⟩;refine !{_,_,rfl,.inl hP,bI,λp hp=>!{l,_,rfl,(by decide),(by decide),wl hW hp,λn2 P1 F9=>bK P1 F9 hp λd hd=>?_}};obtain⟨wy,rfl,LL⟩:∃wy:Str,d=.str wy/\k8 wy=true:=by have hd:d∈[D.str "up",.str "down"]:=hd;simp only[zh,zI,or_false]at hd;rcases hd with h|h;exact{_,h,(by trivial)};exact{_,h,(by trivial)}
 exact{bI,S,hs,q ps wy<|Ng.og hg.1 LL}
theorem Nh{c1:Bool}{X A B:Prop}(c2:Bool)(hx:(if c2=true then A else B)->X)(h:if (c1||c2)=true then A else B):if c1=true then (if true=true then A else B) else X:=by cases c1 with|true=>exact h|false=>exact hx h
theorem Qf{c1:Bool}{X A B:Prop}(c2:Bool)(hx:(if c2=true then A else B)->X)(h:if (c1&&c2)=true then A else B):if c1=true then X else (if false=true then A else B):=by cases c1 with|true=>exact hx h|false=>exact h
theorem Qg(x:D)(ws:List D):tJ (x::ws) 0=some x:=by unfold tJ Gw;rw[if_pos<|Int.le_refl 0];show(if (0:Int)<(((x::ws).length:Nat):Int) then some (0:Int).toNat else none).bind _=_;rw[if_pos<|by rw[zJ];lia];rfl
theorem keys_str:(∀d∈out,∃z∈KS,d=.str z)->∃ks:List Str,out=ks.map D.str/\∀k∈ks,k∈KS:=by induction out with|nil=>exact λ_=>{[],rfl,λ_ h=>(nomatch h)}|cons x l ih=>intro h;obtain⟨z,hz,e⟩:=h x zi;obtain⟨ks,e2,hk⟩:=ih λd hd=>h d<|ze _ hd;exact{z::ks,by rw[e,e2];rfl,λk GK=>(zh.mp GK).elim (λe=>e ▸ hz)<|hk k}
theorem lh:∀{xs out:List D},Paired rel xs out->∀v∈out,∃x,rel x v|_,_,.nil,_,h=>(nomatch h)|_,_,.cons r t,v,h=>by rcases zh.mp h with rfl|h;exact{_,r};exact lh t v h
theorem U5{cs:List<|Str×Str}{d:D}(h:Lf cs d){n:Nat} : iG (n+1) d=1:=by rcases h with rfl|⟨ks,rfl,_⟩|⟨o,c,v,_,_,_,rfl⟩<;>rfl
theorem BI(n:Nat)(e:D):iG (n+1) (.tup [.str "not",e])=iG n e+1:=by show((mF _).map<|iG n).sum+1=_;rw[vL];simp
theorem mL{o:Str}(h:o ="and"\/o ="or")(n:Nat)(ds:List D):iG (n+1) (.tup [.str o,.tup ds])=(ds.map<|iG n).sum+1:=by show((mF _).map<|iG n).sum+1=_;rw[vM h]
structure U6(cs:List (Str×Str))(n r k:Nat)(es:List D):Prop where
 all:∀e∈es,Sg cs n e
 le:k<=r
 sz:(es.map<|iG n).sum<=k\/k=r/\(es.map<|iG n).sum<=k+1
theorem U6.snoc{cs:List<|Str×Str}{n r k:Nat}{es:List D}(h:U6 cs n r k es){d:D}{j:Nat}(hr:k<r)(hj:j<=r-k)(hd:iG n d<=j\/j=r-k/\iG n d<=j+1)(hs:Sg cs n d):U6 cs n r (k+j) (es++[d]):=by have:=h.sz;refine{λe he=>(zN.mp he).elim (h.all e) λhe=>by rw[zE.mp he];exact hs,by lia,?_};rw[zL,List.sum_append];simp only[zq,yO,List.sum_cons,List.sum_nil];lia
inductive U7 (ds:List D) (S:aw) (R:KD) (Z:KX):Prop where
 |mk (l cs) (h0:ds=[.ref l,.tup<|cs.map aA]) (h1:Cg cs) (h2:S l=some .well) (h3:∀d,Lf cs d->R d S):U7 ds S R Z
theorem LP(T:Txt w K mg t):Ok P w base T.Bj 4 U7:=by
 refine T.Bj.F.b_ gG ?_;rintro _ _ _ _ _ _ _ S R Z hr ⟨l,cs,e,hg,hw,q⟩;subst e;have n0:=vp;have n1:=pF;have n2:=bI;have n3:=mq;refine{_,(sc (cC (i:=2) gG.nd<|aH T.aB (aP T) hr<|ac (dv 0)<|ac di an)<|sc (si (twd<|twor (bq bH hr.u (dv 2) di)<|tw1<|twd<|twand (bq sG hr.u (dv 2) di)<|tw1<|bq bH hr.u (dv 1)<|bw an) (s1<|sr<|bw<|ac ds an) s0)<|sc (si (bq bH hr.u (dv 2) di) (s1<|sr<|bw<|ac ds<|ac (ct fH T.bt aW<|ac (sI (N:=["_law_k","_law_well_here"]) (src:=[none,some 0]) (j7 (ag HM) ["_law_well_here","_law_columns_here","_law_way","_law_name","_law_kind","_law_value_here"] rfl rfl<|by trivial) (ML T.eG<|ac (aH T.aB (aP T) hr<|ac (dv 0)<|ac (uM<|ix hr.u (cK<|ac di<|ac di an)<|aH T.aB (aP T) hr<|ac (dv 0)<|ac di an) an) an) (pj<|show(["_law_k","_law_well_here"]:List Str).Nodup by trivial) (aR rfl) aT (λ_ _ _ _ _=>sH) λ_ _ _ _ _=>(aH T.xC (BC T) hr<|ac (dv 1) an)) an) an) s0)<|sc (sa (ix hr.u (dv 1)<|aH T.aB (aP T) hr<|ac (dv 0)<|ac (cb aZ T.aV aI<|ac (dv 1) an) an)<|gt (n:=2)<|gc (gn (i:=3) gG.nd)<|gc (gn (i:=4) gG.nd) g0)<|sc (cC (i:=5) gG.nd<|aH T.mh (rm T) hr<|ac (dv 0)<|ac (dv 4) an)<|sc (si (twd<|twor (bq wR hr.u (dv 2) di)<|tw1<|bq jQ hr.u (dv 5) dn) (s1<|sr<|bw<|ac ds<|ac (dv 3)<|ac (dv 5) an) s0)<|sc (si (twd<|twand (bq bH hr.u (dv 2) di)<|tw1<|bq bH hr.u (dv 4) ds) (s1<|sr<|bw<|ac ds<|ac (dv 3)<|ac (dv 5) an) s0)<|s1<|sr<|bw<|ac (uM<|ix hr.u (cK<|ac ds<|ac ds an)<|bo ou hr.u (dv 2) di)<|ac (dv 3)<|ac (dv 5) an),?_};refine !{l,_,rfl,(by decide),(by decide),hw,λway w0 w1=>?_};have q0:=q _<|.inl rfl;refine !{decide<|way=0,rfl,bP (λh1=>du {n1,fo q0}) λh1=>?_};have h1:way≠0:=zP h1;refine !{decide<|1<way,rfl,bP (λh2=>?_) λh2=>bh ?_};have h2:1<way:=zB h2;refine !{n0,LF (Dh hg.1 hg.2) !⟨bP (λh3=>{n1,fo q0}) λh3=>?_⟩};refine !{false,congrArg D.bl<|zy<|show ¬way=1 by lia,bh ?_};have Cs:0<cs.length:=by cases cs with|nil=>(cases h3)|cons c cs=>exact Nat.succ_pos _
 have h8:=hg.1.1;refine !!!!{l,_,rfl,by rw[zb];lia,js (by rw[zb];lia)<|by rw[zb];lia,hw,λi i0 i1=>?_};obtain⟨d,e1,e2⟩:=lQ (l:=cs.map aA) i0 i1;obtain⟨c,hc,rfl⟩:=zf.mp<|zG e2;refine{_,e1,_,rfl,rfl,_,_,rfl,_,_,rfl,rfl,?_};refine !!{l,_,rfl,⟨c.2,rfl⟩,hw,λv hv=>?_};obtain⟨k,ek,hv⟩:=hv;cases ek;have qc:∀o,vK o c v->R (.tup [.str o,.str c.1,v]) S:=λo ho=>q _<|.inr<|.inr ⟨o,c,v,hc,hv,ho,rfl⟩;refine !{decide<|way<4,rfl,Nh (ah v) (λh=>!{ah v,rfl,h})<|bP (λh4=>?_) λh4=>?_};exact !!{n3,fo<|qc _<|.inl rfl};rw[Bool.or_eq_false_iff]at h4;have MS:=bx h4.2;refine !{decide<|way=7,rfl,Qf (decide<|c.2 ="word") (λh=>!!⟨h⟩)<|bP (λh5=>?_) λh5=>?_};rw[zK]at h5;exact !!{n3,fo<|qc _<|.inr {MS,.inr<|.inr {rfl,zB h5.2}}};refine{n2,λp hp=>!{(by decide:(0:Int)<2),bK (Int.emod_nonneg _<|by decide) (Int.emod_lt_of_pos _<|by decide) hp λd hd=>?_}};obtain⟨o,rfl,ho⟩:∃o:Str,d=.str o/\(o ="below"\/o ="above"):=by have hd:d∈[D.str "below",.str "above"]:=hd;simp only[zh,zI,or_false]at hd;rcases hd with rfl|rfl;exact{_,rfl,.inl rfl};exact{_,rfl,.inr rfl}
 exact !!{n3,fo<|qc o<|.inr {MS,ho.elim .inl λh=>.inr<|.inl h}};have h2:¬1<way:=zP h2;obtain rfl:way=1:=by lia
 refine !{true,rfl,du ?_};refine !{n2,λp hp=>!{l,_,rfl,(by decide),(by decide),wl hw hp,λi i0 i1=>bK i0 i1 hp λm hm=>?_}};obtain⟨m',rfl,V1,Jw⟩:∃m':Nat,m=.int (m':Int)/\0<m'/\m'<=9:=by have hm:m∈[D.int 4,.int 9]:=hm;simp only[zh,zI,or_false]at hm;rcases hm with rfl|rfl;exact{4,rfl,by decide,by decide};exact{9,rfl,by decide,by decide}
 refine{l,_,rfl,by lia,js (by lia)<|by lia,hw,λj j0 j1=>{j,rfl,by lia,by lia,?_}};refine fq (λ_ v=>∃z∈KS,v=.str z) trivial (by show(eF 0 j.toNat).length<=_;rw[cu];lia) (λd hd Q hQ=>?_) λout ho p2 lL=>?_;exact !{l,[],rfl,rfl,hw,λd ⟨z,hz,e⟩=>hQ d {z,Ij hz,e}};obtain⟨ks,rfl,A7⟩:=keys_str λd hd=>(lh ho d hd).elim λ_ h=>h;have hl:=yT ho;rw[show({eF 0 j.toNat,λ_=>True}:uJ).xs=eF 0 j.toNat from rfl,cu,zb]at hl;exact{_,_,rfl,.inl aa,n2,S,.new lL,q _<|.inr<|.inl {ks,rfl,by lia,A7}}
inductive Qh (n:Nat) (ds:List D) (S:aw) (R:KD) (Z:KX):Prop where
 |mk (l:Addr) (cs:List<|Str×Str) (p:Addr) (r:Nat) (h0:ds=[.ref l,.tup<|cs.map aA,.int ((n:Nat):Int),.ref p]) (h1:1<=n) (h2:Cg cs) (h3:S l=some .well) (h4:S p=some (.lst [.int ((r:Nat):Int)])) (h5:1<=r)
  (h6:∀(d:D)(k:Nat),1<=k->k<=r->(iG n d<=k\/k=r/\iG n d<=k+1)->Sg cs n d->R d (S.set p<|.lst [.int ((r-k:Nat):Int)])):Qh n ds S R Z
theorem rJ(T:Txt w K mg t):∀n,Ok P w base T.ie (5+n) (Qh n)
 |0=>by refine T.ie.F.b_ (k:=4) fk ?_;rintro _ _ _ _ _ _ _ S R Z hr ⟨l,cs,p,r,e,h1,_⟩;exact absurd h1 (by decide)
 |n+1=>by
  refine T.ie.F.b_ (k:=5+n) fk ?_;rintro _ _ _ _ _ _ _ S R Z hr ⟨l,cs,p,r,e,h1,hg,hw,hp,vE,q⟩;subst e;have n0:=vp;have n1:=pF;have n2:=bI;have n3:=mq;have lp_:l≠p:=λe=>by rw[e,hp]at hw;cases hw
  refine{_,(sc (Yu (dv 3) di<|bo eV hr.u (ix hr.u (dv 3) di) di)<|sc (cC (i:=4) fk.nd<|aH T.aB (aP T) hr<|ac (dv 0)<|ac di an)<|sc (si (twd<|twor (bq bH hr.u (dv 2) di)<|tw1<|bq wR hr.u (dv 4) di) (s1<|sr<|aH T.Bj (LP T) hr<|ac (dv 0)<|ac (dv 1) an) s0)<|sc (si (bq bH hr.u (dv 4) di) (sc (si (bq wR hr.u (ix hr.u (dv 3) di) di) (s1<|sr<|bw<|ac ds<|ac (bw<|ac ds an) an) s0)<|s1<|sr<|bw<|ac ds<|ac (aH T.ie (rJ T n) hr<|ac (dv 0)<|ac (dv 1)<|ac (bo eV hr.u (dv 2) di)<|ac (dv 3) an) an) s0)<|sc (cC (i:=5) fk.nd<|cK an)<|sc (A4<|Ju (ML T.eG<|ac (aH T.aB (aP T) hr<|ac (dv 0)<|ac (uM<|ix hr.u (cK<|ac di<|ac di<|ac di an)<|aH T.aB (aP T) hr<|ac (dv 0)<|ac di an) an) an) (gn (i:=6) fk.nd)<|s1<|si (bq sG hr.u (ix hr.u (dv 3) di) di) (s1<|se<|bm zQ yh yi cY (dv 5)<|ac (aH T.ie (rJ T n) hr<|ac (dv 0)<|ac (dv 1)<|ac (bo eV hr.u (dv 2) di)<|ac (dv 3) an) an) s0)<|s1<|sr<|bw<|ac (uM<|ix hr.u (cK<|ac ds<|ac ds an)<|bo ou hr.u (dv 4) di)<|ac (ct fH T.bt aW<|ac (dv 5) an) an),?_};refine !{_,_,hp,Qg _ _,_,rfl,p,_,0,0,rfl,rfl,hp,rfl,?_};rw[show([D.int ((r:Nat):Int)]:List D).set 0 (D.int<|((r:Nat):Int)-1)=[.int ((r-1:Nat):Int)] by show[D.int _]=_;rw[show((r:Nat):Int)-1=((r-1:Nat):Int) by lia]];have PM:(S.set p<|.lst [.int ((r-1:Nat):Int)]) l=some .well:=(ae lp_).trans hw;refine !{l,_,rfl,(by decide),(by decide),PM,λway w0 w1=>?_};have xQ:(S.set p<|.lst [.int ((r-1:Nat):Int)]) p=some (.lst [.int ((r-1:Nat):Int)]):=aa;refine !{decide<|((n+1:Nat):Int)=1,rfl,Nh (decide<|way<3) (λh=>!{decide<|way<3,rfl,h})<|bP (λh2=>?_) λh2=>?_};exact !!{l,cs,rfl,hg,PM,λd hd=>fo<|q d 1 (by decide) vE (.inl<|by rw[U5 hd];exact zp _)<|.inl hd};rw[Bool.or_eq_false_iff]at h2;have F9:¬((n+1:Nat):Int)=1:=zP h2.1;have Zr:¬way<3:=zP h2.2;have Ph:1<=n:=by lia
  have en:((n+1:Nat):Int)-1=((n:Nat):Int):=by lia
  refine !{decide<|way=3,rfl,bP (λh3=>?_) λh3=>?_};refine !{_,_,xQ,Qg _ _,_,rfl,bP (λh4=>?_) λh4=>?_};have h4:((r-1:Nat):Int)<1:=zB h4;obtain⟨m,rfl⟩:∃m,n=m+1:={n-1,by lia};exact{n1,n2,fo<|q _ 1 (by decide) vE (.inr {by lia,zp 2})<|.inr<|.inl !⟨.inl<|.inl rfl⟩};have h4:¬((r-1:Nat):Int)<1:=zP h4;refine !!!!{l,cs,p,r-1,by rw[en];rfl,Ph,hg,PM,xQ,by lia,λd k k1 k2 hc hd=>{n2,?_}};have:=q _ (k+1) (by lia) (by lia) (by rw[BI];lia)<|.inr<|.inl ⟨d,rfl,hd⟩;rw[eO,show r-1-k=r-(k+1) by lia];exact fo this;refine{n0,λa ha=>?_};have Zw:a≠p:=λe=>by rw[e,aa]at ha;cases ha
  have haS:S a=none:=(ae Zw).symm.trans ha;have hal:a≠l:=λe=>by rw[e,PM]at ha;cases ha
  refine{λaJ S'=>∃(es:List D)(k:Nat)(o6:Option D),aJ=[some<|.ref l,some<|.tup<|cs.map aA,some<|.int ((n+1:Nat):Int),some<|.ref p,some<|.int way,some<|.ref a,o6]/\Sub (S.set p<|.lst [.int ((r-1-k:Nat):Int)]) S'/\S' a=some (.lst es)/\es.length<=8/\U6 cs n (r-1) k es,?_,?_};refine !{n3,λp1 vO=>!{l,_,rfl,(by decide),(by decide),wl ((ae<|Ne.symm hal).trans PM) vO,λi i0 i1=>bK i0 i1 vO λm hm=>?_}};obtain⟨m',rfl,V1,Jw⟩:∃m':Nat,m=.int (m':Int)/\0<m'/\m'<=9:=by have hm:m∈[D.int 4,.int 4,.int 9]:=hm;simp only[zh,zI,or_false]at hm;rcases hm with rfl|rfl|rfl;exact{4,rfl,by decide,by decide};exact{4,rfl,by decide,by decide};exact{9,rfl,by decide,by decide}
  refine{l,_,rfl,by lia,js (by lia)<|by lia,(ae<|Ne.symm hal).trans PM,λj j0 j1=>{j,rfl,by lia,by lia,?_}};refine{λi aJ S'=>∃(es:List D)(k:Nat)(o6:Option D),aJ=[some<|.ref l,some<|.tup<|cs.map aA,some<|.int ((n+1:Nat):Int),some<|.ref p,some<|.int way,some<|.ref a,o6]/\Sub (S.set p<|.lst [.int ((r-1-k:Nat):Int)]) S'/\S' a=some (.lst es)/\es.length<=i/\U6 cs n (r-1) k es,{[],0,none,rfl,.new ha,aa,zp _,{λ_ h=>(nomatch h),zZ _,.inl<|zp _}},λ_ _ _ _=>trivial,?_,?_};rintro i d aJ S' hd ⟨es,k,o6,rfl,sb,rD,GX,JB⟩;have hd:(eF 0 j.toNat)[i]?=some d:=hd;obtain⟨hi,rfl⟩:=eW hd;have Rf:S' p=some (.lst [.int ((r-1-k:Nat):Int)]):=sb _ _ aa;refine !{_,_,Rf,Qg _ _,_,rfl,bP (λh4=>?_) λh4=>?_};have h4:(0:Int)<((r-1-k:Nat):Int):=zB h4;have VC:S' l=some .well:=sb _ _<|(ae lp_).trans hw;refine{_,rfl,{rfl,_,rD},_,rfl,_,rfl,_,rfl,_,rfl,l,cs,p,r-1-k,by rw[en];rfl,Ph,hg,VC,Rf,by lia,λd k2 a1 a2 a3 a4=>?_};have Zx:(S'.set p<|.lst [.int ((r-1-k-k2:Nat):Int)]) a=some (.lst es):=(ae Zw).trans rD;refine{a,_,_,rfl,rfl,Zx,bg<|by lia,es++[d],k+k2,_,rfl,?_,aa,by rw[zC];show es.length+1<=_;lia,JB.snoc (by lia) a2 a3 a4};rw[show r-1-(k+k2)=r-1-k-k2 by lia];intro b x hb;by_cases Wu:b=p;subst Wu;rw[aa]at hb;rw[ae<|Ne.symm Zw,aa];exact hb;rw[ae Wu]at hb;have hba:b≠a:=λe=>by rw[e,haS]at hb;cases hb
  rw[ae hba,ae Wu];exact sb b x<|(ae Wu).trans hb;exact{es,k,_,rfl,sb,rD,by lia,JB};rintro aJ S' ⟨es,k,o6,rfl,sb,rD,GX,JB⟩;have GX:es.length<=(eF 0 j.toNat).length:=GX;rw[cu]at GX;exact fo {es,k,_,rfl,sb,rD,by lia,JB};rintro aJ S' ⟨es,k,o6,rfl,sb,rD,he8,JB⟩;refine{n2,λp1 vO=>!{(by decide:(0:Int)<2),bK (Int.emod_nonneg _<|by decide) (Int.emod_lt_of_pos _<|by decide) vO λd hd=>?_}};obtain⟨o,rfl,ho⟩:∃o:Str,d=.str o/\(o ="and"\/o ="or"):=by have hd:d∈[D.str "and",.str "or"]:=hd;simp only[zh,zI,or_false]at hd;rcases hd with rfl|rfl;exact{_,rfl,.inl rfl};exact{_,rfl,.inr rfl}
  have hkr:=JB.le;have hsz:=JB.sz;have:=q _ (k+1) (by lia) (by lia) (by rw[mL ho];lia)<|.inr<|.inr ⟨o,es,ho,rfl,he8,JB.all⟩;rw[show r-(k+1)=r-1-k by lia]at this;exact !{_,_,rfl,.inl rD,n2,_,sb,this}
theorem Di:∀{l:List Str}{p:Str},PyProof.Rows.risingS p l=true->(p::l).Pairwise λa b=>a.cps.toList<=b.cps.toList|[],p,_=>List.pairwise_singleton _ _|x::r,p,h=>by have h:(!PySem.Spec.ltCps x.cps.toList p.cps.toList&&PyProof.Rows.risingS x r)=true:=h;rw[zK,PyProof.Rows.ltCps_eq,Bool.not_eq_true',decide_eq_false_iff_not]at h;have ih:=Di h.2;have hpx:p.cps.toList<=x.cps.toList:=List.not_lt.mp h.1;refine List.pairwise_cons.mpr {λy hy=>?_,ih};rcases zh.mp hy with e|hy;rw[e];exact hpx;exact List.le_trans hpx<|(List.pairwise_cons.mp ih).1 y hy
theorem uj(h:PyProof.Rows.sortedS l=true):l.Pairwise λa b=>a.cps.toList<=b.cps.toList:=by cases l with|nil=>exact List.Pairwise.nil|cons x r=>exact Di h
theorem LQ{a b:Str}(h:a.cps.toList=b.cps.toList):a=b:=by obtain⟨⟨x⟩⟩:=a;obtain⟨⟨y⟩⟩:=b;cases h;rfl
theorem Fw{l m:List Str}(hl:l.Pairwise λa b=>a.cps.toList<=b.cps.toList)(hm:m.Pairwise λa b=>a.cps.toList<=b.cps.toList)(nl:l.Nodup)(nm:m.Nodup)(h:∀z,z∈l↔z∈m):l=m:=List.Perm.eq_of_pairwise (λa b _ _ h1 h2=>LQ<|List.le_antisymm h1 h2) hl hm<|(List.perm_ext_iff_of_nodup nl nm).mpr h
def TI(l:List Std)(n:Nat):Prop:=∀s∈l,s.b<=n/\∀m,s.e=some m->m<n
noncomputable def LR(s:Std):D:=match s.e with|none=>.tup s.ws|some _=>.ax
noncomputable def cur(l:List Std):D:=match l.getLast? with|none=>.ax|some s=>LR s
theorem jw(r:List Std)(s:Std):cur (r++[s])=LR s:=by unfold cur;rw[List.getLast?_concat]
theorem Qi(h:TI l n):wt l n=cur l:=by by_cases e:l=[];subst e;rfl;obtain⟨r,s,rfl⟩:=jK e;rw[jw];unfold wt;rw[List.reverse_append];obtain⟨h1,h2⟩:=h s<|zt _<|zE.mpr rfl;show Ia (s::r.reverse) (n:Int)=_;unfold Ia LR;rw[if_pos<|show(s.b:Int)<=(n:Int) by lia];cases q:s.e with|none=>rfl|some m=>have:=h2 m q;exact if_neg<|show ¬(n:Int)<=(m:Int) by lia
theorem TI.up(h:TI l n):TI l (n+1):=λs hs=>{Nat.le_succ_of_le (h s hs).1,λm e=>Nat.lt_succ_of_lt<|(h s hs).2 m e}
theorem TI.close(h:TI l n):TI (ik n l) (n+1):=by by_cases e:l=[];subst e;exact λs hs=>(nomatch hs);obtain⟨r,s,rfl⟩:=jK e;rw[dS];intro x hx;rcases zN.mp hx with hx|hx;exact h.up x<|zS _ hx;rw[zE.mp hx];exact{Nat.le_succ_of_le (h s<|zt _<|zE.mpr rfl).1,λm e=>by cases e;exact yI _}
theorem TI.beg(h:TI l<|n+1):TI (l++[Std.mk (n+1) none ws]) (n+1):=λs hs=>by rcases zN.mp hs with hs|hs;exact h s hs;rw[zE.mp hs];exact{zp _,λm e=>(by cases e)}
theorem Fx:cur (ik n l)=.ax:=by by_cases e:l=[];subst e;rfl;obtain⟨r,s,rfl⟩:=jK e;rw[dS,jw];rfl
noncomputable def x9(kn:Kn)(z:Str):D:=match ir kn z with|none=>.ax|some ws=>.tup ws
structure RI(rs:pS)(n:Nat)(kn:Kn):Prop where
 ti:∀z,TI ((lu rs z).getD []) n
 eq:∀z,cur ((lu rs z).getD [])=x9 kn z
 ks:∀r∈rs,r.1∈KS
theorem LS(h:r∈Bw rs z s):r.1=z\/∃r'∈rs,r'.1=r.1:=by unfold Bw at h;split at h;obtain⟨r0,wj,e⟩:=zf.mp h;refine .inr {r0,wj,?_};subst e;split<;>rfl;rcases zN.mp h with h|h;exact .inr ⟨r,h,rfl⟩;rw[zE.mp h];exact .inl rfl
theorem IS(h:∀r∈rs,r.1∈KS)(hz:z∈KS):∀r∈Bw rs z s,r.1∈KS:=λr hr=>by rcases LS hr with e|⟨r',gQ,e⟩;rw[e];exact hz;rw[<-e];exact h r' gQ
theorem Dj:x9 (nY kn z ws) k=if k=z then .tup ws else x9 kn k:=by unfold x9;rw[LC];by_cases h:k=z;rw[if_pos h,if_pos h];rw[if_neg h,if_neg h]
theorem Dk:x9 (vI kn z) k=if k=z then .ax else x9 kn k:=by unfold x9;rw[LD];by_cases h:k=z;rw[if_pos h,if_pos h];rw[if_neg h,if_neg h]
theorem RI.nil:RI [] 0 []:={λz s hs=>(nomatch hs),λz=>rfl,λr hr=>(nomatch hr)}
theorem RI.put(h:RI rs n kn)(hz:z∈KS):RI (sV rs z (n+1) ws) (n+1) (nY kn z ws):=by refine{λk=>?_,λk=>?_,IS h.ks hz};unfold sV;rw[jq];by_cases e:k=z;rw[if_pos e];exact(h.ti z).up.beg;rw[if_neg e];exact(h.ti k).up;unfold sV;rw[jq,Dj];by_cases e:k=z;rw[if_pos e,if_pos e];exact jw _ _;rw[if_neg e,if_neg e];exact h.eq k
theorem RI.del(h:RI rs n kn)(hz:z∈KS):RI (nX rs z n) (n+1) (vI kn z):=by refine{λk=>?_,λk=>?_,IS h.ks hz};unfold nX;rw[jq];by_cases e:k=z;rw[if_pos e];exact(h.ti z).close;rw[if_neg e];exact(h.ti k).up;unfold nX;rw[jq,Dk];by_cases e:k=z;rw[if_pos e,if_pos e];exact Fx;rw[if_neg e,if_neg e];exact h.eq k
theorem RI.change(h:RI rs n kn)(hz:z∈KS):RI (sV (nX rs z n) z (n+1) ws) (n+1) (nY kn z ws):=by have h1:=h.del hz;refine{λk=>?_,λk=>?_,IS h1.ks hz};unfold sV;rw[jq];by_cases e:k=z;rw[if_pos e];exact(h1.ti z).beg;rw[if_neg e];exact h1.ti k;unfold sV;rw[jq,Dj];by_cases e:k=z;rw[if_pos e,if_pos e];exact jw _ _;rw[if_neg e,if_neg e,h1.eq k,Dk,if_neg e]
theorem RI.wt{rs:pS}{n:Nat}{kn:Kn}(h:RI rs n kn)(z:Str):wt ((lu rs z).getD []) n=x9 kn z:=by rw[Qi<|h.ti z,h.eq]
theorem RI.z_(h:RI rs n kn)(hz:z∈KS):z_ rs (.str z) n=x9 kn z:=by rw[vB (iq z hz).1,h.wt]
theorem uk(kn:Kn)(z:Str):ah (x9 kn z)=!(ir kn z).isSome:=by unfold x9;cases ir kn z<;>rfl
theorem Ni(h:bQ C S a F cs dl rs):(rs.map (·.1)).Nodup:=by obtain⟨ld,lr,ra,h,_,rfl⟩:=h;unfold gJ;rw[zD];exact h.kn
theorem RI.len(h:RI rs n kn)(hs:bQ C S a F cs dl rs):rs.length<=60:=by
 have:=sub_len (Ni hs) (m:=KS) λx hx=>by obtain⟨r,hr,rfl⟩:=zf.mp hx;exact h.ks r hr
 rw[zb]at this;exact zH this<|by trivial
noncomputable def Qj(kn:Kn)(ss:List Str):List D:=ss.map λz=>.tup [.str z,x9 kn z]
theorem U8(h:lu rs k=some s):k∈rs.map (·.1):=by induction rs with|nil=>(cases h)|cons r rs ih=>rw[eL]at h;rw[zq];by_cases e:r.1=k;exact zh.mpr<|.inl e.symm;rw[if_neg e]at h;exact ze _<|ih h
noncomputable def n8(k:Nat)(l:List Std):List Std:=match l.getLast? with|none=>l|some s=>match s.e with|none=>ik k l|some _=>l
theorem oP(h:s.e=none):n8 k (r++[s])=r++[Std.mk s.b (some k) s.ws]:=by unfold n8;rw[List.getLast?_concat];dsimp only;rw[h];exact dS _ _ _
theorem x_(h:s.e=some n):n8 k (r++[s])=r++[s]:=by unfold n8;rw[List.getLast?_concat];dsimp only;rw[h]
theorem LU{s:Std}{r:List Std}{m:Nat}(h:m<s.b):Ia (s::r) m=Ia r m:=by show(if (s.b:Int)<=(m:Int) then _ else Ia r m)=_;rw[if_neg<|by lia]
theorem Fy(hm:m<=n):wt (n8 n l) m=wt l m:=by by_cases e:l=[];subst e;rfl;obtain⟨r,s,rfl⟩:=jK e;cases q:s.e with|some k=>rw[x_ q]|none=>rw[oP q];unfold wt;rw[List.reverse_append,List.reverse_append];show(if (s.b:Int)<=(m:Int) then (if (m:Int)<=(n:Int) then D.tup s.ws else .ax) else Ia r.reverse m)=(if (s.b:Int)<=(m:Int) then (match s.e with|none=>.tup s.ws|some n=>if (m:Int)<=(n:Int) then .tup s.ws else .ax) else Ia r.reverse m);rw[q,if_pos<|show(m:Int)<=(n:Int) by lia]
theorem BJ(h:cur l≠.ax):n8 n l=ik n l:=by by_cases e:l=[];subst e;rfl;obtain⟨r,s,rfl⟩:=jK e;rw[jw]at h;cases q:s.e with|none=>rw[oP q,dS]|some m=>unfold LR at h;rw[q]at h;exact absurd rfl h
noncomputable def oQ(kn:Kn)(ss:List Str):List Row:=ss.map λz=>(z,(ir kn z).getD [])
structure Snap(rs:pS)(cs:List (Str×Str))(m:Nat)(rows:List Row):Prop where
 ex:∃kn ss,rows=oQ kn ss/\KI cs kn/\ss.Perm (kn.map (·.1))/\PyProof.Rows.sortedS ss=true/\∀z,wt ((lu rs z).getD []) m=x9 kn z
theorem Fz(p:ss.Perm (kn.map (·.1))):(oQ kn ss).map ai=Qj kn ss:=by unfold oQ Qj;rw[zD];refine zW λz hz=>?_;obtain⟨ws,BK⟩:=rA<|p.mem_iff.mp hz;show D.tup [.str z,.tup<|(ir kn z).getD []]=.tup [.str z,x9 kn z];unfold x9;rw[BK];rfl
theorem IT(hI:KI cs kn)(p:ss.Perm (kn.map (·.1))):Rg cs (oQ kn ss):=by refine{λr hr=>?_,?_};obtain⟨z,hz,rfl⟩:=zf.mp hr;obtain⟨ws,BK⟩:=rA<|p.mem_iff.mp hz;show Wg cs ((ir kn z).getD []);rw[BK];exact(hI.ok _<|vH BK).2;unfold oQ;rw[zD];show(ss.map id).Nodup;rw[List.map_id];exact p.nodup_iff.mpr hI.nd
theorem FA(hI:KI cs kn)(p:ss.Perm (kn.map (·.1))):(oQ kn ss).length<=60:=by unfold oQ;rw[zb,p.length_eq,zb];exact hI.len
theorem Snap.rg(h:Snap rs cs m rows):Rg cs rows/\rows.length<=60:=by obtain⟨kn,ss,rfl,hI,p,_⟩:=h.ex;exact{IT hI p,FA hI p}
theorem Snap.key(h:Snap rs cs m rows):∀r∈rows,r.1∈KS:=by obtain⟨kn,ss,rfl,hI,p,_⟩:=h.ex;intro r hr;obtain⟨z,hz,rfl⟩:=zf.mp hr;obtain⟨ws,BK⟩:=rA<|p.mem_iff.mp hz;exact(hI.ok _<|vH BK).1
theorem FC{C a:Addr}{S:aw}{F:List Addr}{cs:List<|Str×Str}{dl:List D}{rs:pS}{m:Nat}{rows:List Row}(h:Snap rs cs m rows)(hs:bQ C S a F cs dl rs){ss:List Str} (p1:ss.Perm (rs.map (·.1))) (o1:PyProof.Rows.sortedS ss=true):kZ rs m ss=rows.map ai:=by
 obtain⟨kn,s2,rfl,hI,p2,o2,hw⟩:=h.ex;rw[Fz p2];have e:ss.filter (λz=>!ah (wt ((lu rs z).getD []) m))=s2:=by refine Fw ((uj o1).filter _) (uj o2) ?_ (p2.nodup_iff.mpr hI.nd) λz=>?_;exact yq.nodup<|p1.nodup_iff.mpr<|Ni hs;rw[zY,hw,uk,Bool.not_not,p1.mem_iff,p2.mem_iff];constructor;rintro⟨_,hz⟩;obtain⟨ws,BK⟩:=Option.isSome_iff_exists.mp hz;exact zf.mpr {_,vH BK,rfl};intro hz;obtain⟨ws,BK⟩:=rA hz;refine{?_,by rw[BK];rfl};have e:=hw z;unfold x9 at e;rw[BK]at e;cases q:lu rs z with|none=>(rw[q]at e;cases e)|some s=>exact U8 q
 unfold kZ Qj;rw[e];refine zW λz _=>?_;unfold vF;rw[hw]
def HI(rs:pS)(cs:List<|Str×Str)(n:Nat)(hs:List<|List Row):Prop:=hs.length=n+1/\∀m rows,hs[m]?=some rows->Snap rs cs m rows
theorem HI.step{rs bC:pS}{cs:List<|Str×Str}{n:Nat}{hs:List<|List Row}(h:HI rs cs n hs)(old:∀z m,m<=n->wt ((lu bC z).getD []) m=wt ((lu rs z).getD []) m){kn:Kn}(hI:KI cs kn)(hR:RI bC (n+1) kn){ss:List Str}(p:ss.Perm (kn.map (·.1)))(o:PyProof.Rows.sortedS ss=true):HI bC cs (n+1) (hs++[oQ kn ss]):=by
 refine{by rw[zC,h.1];rfl,λm rows e=>?_};by_cases hm:m<hs.length;rw[List.getElem?_append_left hm]at e;obtain⟨kn0,s0,e0,h1,h2,h3,h4⟩:=(h.2 m rows e).ex;have:=h.1;exact{kn0,s0,e0,h1,h2,h3,λz=>(old z m<|by lia).trans<|h4 z};rw[List.getElem?_append_right<|by lia]at e;have Jw:m-hs.length=0:=by cases q:m-hs.length with|zero=>rfl|succ k=>rw[q]at e;simp at e
 rw[Jw]at e;cases e;have:=h.1;have hmn:m=n+1:=by lia
 subst hmn;exact{kn,ss,rfl,hI,p,o,λz=>hR.wt z}
theorem Ql{l:List Std}{n m:Nat}{ws:List D}(hm:m<=n):wt (l++[Std.mk (n+1) none ws]) m=wt l m:=by unfold wt;rw[List.reverse_append];exact LU<|show m<n+1 by lia
theorem Dm(k:Str)(m:Nat)(hm:m<=n):wt ((lu (sV rs z (n+1) ws) k).getD []) m=wt ((lu rs k).getD []) m:=by unfold sV;rw[jq];by_cases e:k=z;rw[if_pos e,e];exact Ql hm;rw[if_neg e]
theorem Dn(h:RI rs n kn)(hz:(ir kn z).isSome=true)(k:Str)(m:Nat)(hm:m<=n):wt ((lu (nX rs z n) k).getD []) m=wt ((lu rs k).getD []) m:=by
 unfold nX;rw[jq];by_cases e:k=z;rw[if_pos e,e];have hc:cur ((lu rs z).getD [])≠.ax:=by rw[h.eq];unfold x9;cases q:ir kn z with|none=>(rw[q]at hz;cases hz)|some ws=>exact λe=>by cases e
 show wt (ik n<|(lu rs z).getD []) m=_;rw[<-BJ hc,Fy hm];rw[if_neg e]
theorem Dq(hz:z∈KS):Gt S (.str z):=Dg<|by have:=(iq z hz).2.1;lia
section
variable{t:iL}{S:aw}{a:Addr}{F:List Addr}{cs:List (Str×Str)}{dl:List D}{rs:pS}{kn:Kn}{d:D}{R:KD}{Z:KX}
theorem IU(hz:z∈KS)(h:Wg cs ws):nU cs (.str z) (.tup ws)=true:=by unfold nU;rw[h.Qe,show ofStr jW (.str z)=true from(iq z hz).1];rfl
theorem BL(hR:RI rs dl.length kn)(hz:z∈KS):ah (z_ rs (.str z) dl.length)=!(ir kn z).isSome:=by rw[hR.z_ hz,uk]
theorem U9(h:ir kn z=none):(!(ir kn z).isSome)=true:=by rw[h];rfl
theorem IV(h:(ir kn z).isSome=true):(!(ir kn z).isSome)=false:=by rw[h];rfl
theorem tf{b:Bool}(h1:b=true)(h2:b=false){p:Prop} : p:=by rw[h1]at h2;cases h2
theorem bQ.out(hS:bQ C S a F cs dl rs)(hb:S b=none):b∉F:=λm=>by obtain⟨ld,lr,ra,h,rfl,_⟩:=hS;unfold fp at m;simp only[zh,zf]at m;rcases m with e|e|e|⟨r,hr,e⟩;have:=h.ins;rw[<-e,hb]at this;cases this;have:=h.xN;rw[<-e,hb]at this;cases this;have:=h.run;rw[<-e,hb]at this;cases this;have:=h.cell r hr;rw[e,hb]at this;cases this
theorem bQ.off(hS:bQ C S a F cs dl rs)(hp:p∉F):bQ C (S.set p c) a F cs dl rs:=by obtain⟨ld,lr,ra,hh,rfl,e2⟩:=hS;unfold fp at hp;simp only[zh,not_or]at hp;obtain⟨n1,n2,n3,n4⟩:=hp;exact{ld,lr,ra,{(ae<|Ne.symm n1).trans hh.ins,(ae<|Ne.symm n2).trans hh.xN,(ae<|Ne.symm n3).trans hh.run,λr hr=>(ae λe=>n4<|by rw[<-e];exact zf.mpr ⟨r,hr,rfl⟩).trans<|hh.cell r hr,hh.kn,hh.an,hh.sz},rfl,e2}
theorem IW(hS:bQ t.aj S a F cs dl rs)(hg:Gd cs)(hR:RI rs dl.length kn)(hl:dl.length<=100){z:Str}{ws:List D}(hz:z∈KS)(hw:Wg cs ws)(hn:ir kn z=none) (q:∀S' F' bC d,bQ t.aj S' a F' cs (dl++[d]) bC->xO F F' S S'->RI bC (dl.length+1) (nY kn z ws)->(∀z m,m<=dl.length->wt ((lu bC z).getD []) m=wt ((lu rs z).getD []) m)->R .ax S'):W (UT t) [.ref a,.str z,.tup ws] S R Z:=by have Wn:=hR.len hS;have U_:=hg.1;have ro:=IU hz hw;have st:=(BL hR hz).trans<|U9 hn;refine{a,F,cs,_,rs,_,_,rfl,hS,U_,Dq hz,hw.gts U_,by lia,by lia,λe=>tf ro e,λ_ e=>tf st e,λz' Wl e1 e2 _ _ S' F' ow hK=>?_};cases e1;cases e2;exact q S' F' _ _ ow hK (hR.put hz) Dm
theorem yW(hS:bQ t.aj S a F cs dl rs)(hg:Gd cs)(hR:RI rs dl.length kn)(hl:dl.length<=100){z:Str}{ws:List D}(hz:z∈KS)(hw:Wg cs ws)(hn:(ir kn z).isSome=true) (q:∀S' F' bC d,bQ t.aj S' a F' cs (dl++[d]) bC->xO F F' S S'->RI bC (dl.length+1) (nY kn z ws)->(∀z m,m<=dl.length->wt ((lu bC z).getD []) m=wt ((lu rs z).getD []) m)->R .ax S'):W (Iw t) [.ref a,.str z,.tup ws] S R Z:=by have Wn:=hR.len hS;have U_:=hg.1;have ro:=IU hz hw;have st:=(BL hR hz).trans<|IV hn;refine{a,F,cs,_,rs,_,_,rfl,hS,U_,Dq hz,hw.gts U_,by lia,by lia,λe=>tf ro e,λ_ e=>tf e st,λz' Wl e1 e2 _ _ S' F' ow hK=>?_};cases e1;cases e2;exact q S' F' _ _ ow hK (hR.change hz) λk m hm=>(Dm k m hm).trans<|Dn hR hn k m hm
theorem FD(hS:bQ t.aj S a F cs dl rs)(hR:RI rs dl.length kn)(hl:dl.length<=100){z:Str}(hz:z∈KS)(hn:(ir kn z).isSome=true) (q:∀S' F' bC d,bQ t.aj S' a F' cs (dl++[d]) bC->xO F F' S S'->RI bC (dl.length+1) (vI kn z)->(∀z m,m<=dl.length->wt ((lu bC z).getD []) m=wt ((lu rs z).getD []) m)->R .ax S'):W (P5 t) [.ref a,.str z] S R Z:=by have Wn:=hR.len hS;have st:=(BL hR hz).trans<|IV hn;refine{a,F,cs,_,rs,_,rfl,hS,Dq hz,by lia,λe=>tf (iq z hz).1 e,λ_ e=>tf e st,λz' e1 _ _ S' ow hK=>?_};cases e1;exact q S' F _ _ ow hK (hR.del hz)<|Dn hR hn
theorem Snap.vw(h:Snap rs cs m rows)(hS:bQ t.aj S a F cs dl rs)(hR:RI rs dl.length kn)(hm:rf dl.length md=some (m:Int))(V3:Gt S md):Vw t.aj S a cs md rows:=by have:=h.rg;refine{{F,dl,rs,hS,by have:=hR.len hS;lia,(λe=>by rw[hm]at e;cases e),λi ss hi hp hs=>?_},V3,by lia,this.1};rw[hm]at hi;cases hi;exact FC h hS hp hs
end
def Wv(S:aw)(F:List Addr)(S':aw):Prop:=∀b c,S b=some c->b∉F/\S' b=some c
theorem Wv.sub(h:Wv S F S'):Sub S S':=λb c e=>(h b c e).2
theorem KI.nil(cs:List<|Str×Str):KI cs []:={List.nodup_nil,λ_ h=>(nomatch h)}
structure St(t:iL)(S0:aw)(a:Addr)(fs:List (Addr×Ce))(F:List Addr)(cs:List (Str×Str))(dl:List D)(rs:pS)(S:aw):Prop where
 sh:bQ t.aj S a F cs dl rs
 fa:∀x∈fs,S x.1=some x.2/\x.1∉F/\S0 x.1=none
 nd:(fs.map Prod.fst).Nodup
 IX:Wv S0 F S
section
variable{t:iL}{S0:aw}{a:Addr}{fs:List (Addr×Ce)}{F:List Addr}{cs:List (Str×Str)}{dl:List D}{rs:pS}{S:aw}
theorem St.at(h:St t S0 a fs F cs dl rs S)(i:Nat)(e:fs[i]?=some (b,c)):S b=some c:=(h.fa _<|zG e).1
theorem St.sub(h:St t S0 a fs F cs dl rs S)(b:Sub S S'):St t S0 a fs F cs dl rs S':={h.sh.sub b,λx hx=>{b _ _ (h.fa x hx).1,(h.fa x hx).2},h.nd,λx c hx=>{(h.IX x c hx).1,b _ _ (h.IX x c hx).2}}
theorem St.zero(h:St t S0 a fs F cs dl rs S)(hb:S b=none):S0 b=none:=by cases e:S0 b with|none=>rfl|some c=>have:=h.IX.sub _ _ e;rw[hb]at this;cases this
theorem St.new(h:St t S0 a fs F cs dl rs S)(hp:S p=none)(c:Ce):St t S0 a (fs++[(p,c)]) F cs dl rs (S.set p c):=by
 have h1:=h.sub<|.new (c:=c) hp;refine{h1.sh,λx hx=>?_,?_,h1.IX};rcases zN.mp hx with hx|hx;exact h1.fa x hx;rw[zE.mp hx];exact{aa,h.sh.out hp,h.zero hp};rw[zL,List.nodup_append];refine{h.nd,by simp,λx hx y hy e=>?_};obtain⟨z,hz,rfl⟩:=zf.mp hx;have hy:y=p:=by simpa using hy
 have:=(h.fa z hz).1;rw[e,hy,hp]at this;cases this
theorem St.put(h:St t S0 a fs F cs dl rs S)(i:Nat)(e:fs[i]?=some (b,c))(c':Ce):St t S0 a (fs.set i (b,c')) F cs dl rs (S.set b c'):=by
 have hb:=h.fa _<|zG e;have hi:=(zk.mp e).1;have em:(fs.set i (b,c')).map Prod.fst=fs.map Prod.fst:=by refine List.ext_getElem? λj=>?_;rw[zw,zw];by_cases q:j=i;subst q;rw[List.getElem?_set_self hi,e];rfl;rw[List.getElem?_set_ne<|Ne.symm q]
 refine{h.sh.off hb.2.1,λx hx=>?_,by rw[em];exact h.nd,λx c hx=>{(h.IX x c hx).1,(ae<|eP hx hb.2.2).trans (h.IX x c hx).2}};obtain⟨j,hj⟩:=List.getElem?_of_mem hx;by_cases q:j=i;subst q;rw[List.getElem?_set_self hi]at hj;cases hj;exact⟨aa,hb.2⟩;rw[List.getElem?_set_ne<|Ne.symm q]at hj;have KR:=h.fa x<|zG hj;refine{(ae λe2=>q ?_).trans KR.1,KR.2};have a1:(fs.map Prod.fst)[j]?=some x.1:=by rw[zw,hj];rfl
 have a2:(fs.map Prod.fst)[i]?=some b:=by rw[zw,e];rfl
 obtain⟨b1,c1⟩:=zk.mp a1;obtain⟨b2,c2⟩:=zk.mp a2;exact(List.getElem_inj h.nd (h₀:=b1) (h₁:=b2)).mp<|by rw[c1,c2];exact e2
theorem St.perm(h:St t S0 a fs F cs dl rs S)(p:QL.Perm fs):St t S0 a QL F cs dl rs S:={h.sh,λx hx=>h.fa x<|p.mem_iff.mp hx,(p.map _).nodup_iff.mpr h.nd,h.IX}
theorem St.less(h:St t S0 a fs F cs dl rs S)(n:(QL.map Prod.fst).Nodup)(p:∀x∈QL,x∈fs):St t S0 a QL F cs dl rs S:={h.sh,λx hx=>h.fa x<|p x hx,n,h.IX}
theorem St.Qm(h:St t S0 a fs F cs dl rs S)(hS:bQ t.aj S' a F' cs dl' bC)(hK:xO F F' S S'):St t S0 a fs F' cs dl' bC S':={hS,λx hx=>by obtain⟨h1,h2,h3⟩:=h.fa x hx;exact by obtain⟨k1,k2⟩:=hK _ _ h2 h1;exact⟨k2,k1,h3⟩,h.nd,λx c hx=>by obtain⟨h1,h2⟩:=h.IX x c hx;exact hK _ _ h1 h2}
end
theorem Qn(hk:r.1∈KS)(hw:Wg cs r.2):Ly S 60 (ai r):=by refine(Ly.tup (n:=1) λx hx=>?_).le (by decide);simp only[zh,zI,or_false]at hx;rcases hx with rfl|rfl;exact(Ly.str (iq _ hk).2.2).le (by decide);exact hw.ly
theorem Vw.sub(h:Vw C S a cs m rows)(b:Sub S S'):Vw C S' a cs m rows:=by obtain⟨F,dl,rs,h1,h2⟩:=h.sh;exact{{F,dl,rs,h1.sub b,h2},h.mo.sub b,h.len,h.rg}
theorem Ds(q:R (.bl<|if neg then !(x==y) else (x==y)) S):Js neg (.bl x) (.bl y) S R:=⟨.bool x,.bool y,by simp only[Dl,Dp],by simp only[Dl,Dp],by simp only[PyData.canLay0],by simp only[PyData.canLay0],.inl<|by simp only[PyData.depth];lia,by
 have e:PyData.eqv (.bool x) (.bool y)=(x==y):=by cases x<;>cases y<;>rfl
 rw[e];exact q⟩
theorem Nj(q:R (.bl<|if neg then !decide (i=j) else decide (i=j)) S):Js neg (.str i) (.str j) S R:=q
noncomputable def cV(w e:Str)(x y:D):Int:=if k9 x y=true then 0 else if cM ("",w,e) x y=true then -1 else 1
def Cm(x y:D):Prop:=∃k,Vg k x/\Vg k y
theorem rK{w e:Str}(h:Cm x y):cV w e x y=0↔x=y:=by obtain⟨k,hx,hy⟩:=h;unfold cV;by_cases q:k9 x y=true;rw[if_pos q];simpa using (cF hx.2 hy.2).mp q;rw[if_neg q];have q':¬x=y:=λz=>q<|(cF hx.2 hy.2).mpr z;constructor;intro z;split at z<;>cases z;exact λz=>absurd z q'
theorem yX{w e:Str}(h:Cm x y):cV w e x y<0↔x≠y/\cM ("",w,e) x y=true:=by obtain⟨k,hx,hy⟩:=h;unfold cV;by_cases q:k9 x y=true;rw[if_pos q];have:=(cF hx.2 hy.2).mp q;simp[this];rw[if_neg q];have q':¬x=y:=λz=>q<|(cF hx.2 hy.2).mpr z;by_cases l:cM ("",w,e) x y=true;rw[if_pos l];simp[q',l];rw[if_neg l];simp[l]
inductive cB (ds:List D) (S:aw) (R:KD) (Z:KX):Prop where
 |mk (x y wy e) (h0:ds=[x,y,.str e]) (h1:Cm x y) (h2:(x=.ax\/y=.ax)) (h3:R (.int<|cV wy e x y) S):cB ds S R Z
theorem iP(T:Txt w K mg t):Ok P w base T.cS 1 cB:=by
 refine T.cS.F.b_ dw ?_;rintro _ _ _ _ _ _ _ S R Z hr ⟨x,y,wy,e,e0,⟨k,hx,hy⟩,hn,q⟩;subst e0;refine{_,(sc (si (twd<|twand (bq jQ hr.u (dv 0) dn)<|tw1<|bq jQ hr.u (dv 1) dn) (s1<|sr di) s0)<|sc (cC (i:=3) dw.nd<|cm bH hr.u (dv 2) ds)<|s1<|sr<|QX (bq bH hr.u (dv 3)<|cm jQ hr.u (dv 0) dn) (OZ di) di),?_};unfold cV at q;refine !!⟨bP (λh=>!!⟨bP (λh2=>?_) λh2=>?_⟩) λh=>?_⟩;rw[dj h,dj h2]at q;exact fo q;have e1:ah x≠ah y:=by rw[show ah x=true from h,show ah y=false from h2];decide
 rw[vS e1,if_neg zd]at q;unfold cM at q;rw[show ah x=true from h,show ah y=false from h2]at q;refine !!!⟨?_⟩;dsimp only[dC,X6];refine Ds !⟨?_⟩;have q:R (.int<|if (ah x==decide (e ="first"))=true then -1 else 1) S:=by rw[show ah x=true from h];exact q
 rw[Bool.beq_comm]at q;refine bP (λz=>?_) λz=>?_;rw[if_pos<|show(decide (e ="first")==ah x)=true from z]at q;exact{_,rfl,fo q};rw[if_neg λz2=>tf z2<|show(decide (e ="first")==ah x)=false from z]at q;exact fo q;have hy1:ah y=true:=by rcases hn with rfl|rfl;cases h;rfl
 have e1:ah x≠ah y:=by rw[show ah x=false from h,hy1];decide
 rw[vS e1,if_neg zd]at q;unfold cM at q;rw[show ah x=false from h,hy1]at q;refine !!!⟨?_⟩;dsimp only[dC,X6];refine Ds !⟨?_⟩;have q:R (.int<|if (ah x==decide (e ="first"))=true then -1 else 1) S:=by rw[show ah x=false from h];exact q
 rw[Bool.beq_comm]at q;refine bP (λz=>?_) λz=>?_;rw[if_pos<|show(decide (e ="first")==ah x)=true from z]at q;exact{_,rfl,fo q};rw[if_neg λz2=>tf z2<|show(decide (e ="first")==ah x)=false from z]at q;exact fo q
inductive rL (ds:List D) (S:aw) (R:KD) (Z:KX):Prop where
 |mk (x y wy e) (h0:ds=[x,y,.str wy,.str e]) (h1:Cm x y) (h2:R (.int<|cV wy e x y) S):rL ds S R Z
theorem oR(T:Txt w K mg t):Ok P w base T.compared 2 rL:=by refine T.compared.F.b_ oA ?_;rintro _ _ _ _ _ _ _ S R Z hr ⟨x,y,wy,e,e0,hc,q⟩;subst e0;obtain⟨k,hx,hy⟩:=id hc;refine{_,(sc (si (twd<|twor (bq jQ hr.u (dv 0) dn)<|tw1<|bq jQ hr.u (dv 1) dn) (s1<|sr<|aH T.cS (iP T) hr<|ac (dv 0)<|ac (dv 1)<|ac (dv 3) an) s0)<|sc (si (bq bH hr.u (dv 0)<|dv 1) (s1<|sr di) s0)<|sc (cC (i:=4) oA.nd<|cm wR hr.u (dv 0)<|dv 1)<|s1<|sr<|QX (bq bH hr.u (dv 4)<|cm bH hr.u (dv 2) ds) (OZ di) di),?_};have none:∀Zq:KX,x=.ax\/y=.ax->cB [x,y,.str e] S (λd S'=>Fo S'<|R d) Zq:=λ_ hn=>{x,y,wy,e,rfl,hc,hn,fo q};refine !!⟨bP (λh=>?_) λh=>!!⟨bP (λh2=>?_) λh2=>?_⟩⟩;exact !!!⟨none _<|.inl<|dj h⟩;exact !!!⟨none _<|.inr<|dj h2⟩;clear none;have nx:ah x=false:=h;have ny:ah y=false:=h2;unfold cV at q;refine !!⟨x5 hx.2 hy.2 !⟨bP (λh3=>?_) λh3=>?_⟩⟩;have h3:k9 x y=true:=h3;rw[if_pos h3]at q;exact fo q;have h3:k9 x y=false:=h3;rw[h3,if_neg zd]at q;unfold cM at q;rw[nx,ny]at q;have q:R (.int<|if (sX x y==decide (wy ="up"))=true then -1 else 1) S:=q;rcases vP hx hy (bx nx) (bx ny) with⟨i,j,rfl,rfl⟩|⟨i,j,rfl,rfl⟩;refine !!!!⟨?_⟩;dsimp only[dC];refine Nj ?_;refine Ds ?_;refine{_,rfl,?_};refine bP (λz=>?_) λz=>?_;rw[if_pos<|show(sX (.int i) (.int j)==decide (wy ="up"))=true from z]at q;exact{_,rfl,fo q};rw[if_neg λz2=>tf z2<|show(sX (.int i) (.int j)==decide (wy ="up"))=false from z]at q;exact fo q;refine !!!!⟨?_⟩;dsimp only[dC];refine Nj ?_;refine Ds ?_;refine{_,rfl,?_};refine bP (λz=>?_) λz=>?_;rw[if_pos<|show(sX (.str i) (.str j)==decide (wy ="up"))=true from z]at q;exact{_,rfl,fo q};rw[if_neg λz2=>tf z2<|show(sX (.str i) (.str j)==decide (wy ="up"))=false from z]at q;exact fo q
noncomputable def BM(ps:List Part)(wy:Str):List (Str×Str):=ps.map Prod.snd++[(wy,("last": Str))]
noncomputable def dZ:List (Str×Str)->List D->List D->Int|w::ws,x::xs,y::ys=>(if cV w.1 w.2 x y=0 then dZ ws xs ys else cV w.1 w.2 x y)|_,_,_=>0
def PV(ks:List Str)(xs:List D):Prop:=Paired (λk x=>Vg k x) ks xs
theorem yY:∀{ws:List (Str×Str)}{ks:List Str}{xs ys:List D},ws.length=ks.length->PV ks xs->PV ks ys->(dZ ws xs ys=0↔xs=ys)|[],_,_,_,h,.nil,.nil=>by simp[dZ]|w::ws,_,_,_,h,.cons (b:=x) a1 a2,.cons (b:=y) b1 b2=>by unfold dZ;have c:=rK (w:=w.1) (e:=w.2) {_,a1,b1};by_cases q:cV w.1 w.2 x y=0;rw[if_pos q,yY (Nat.succ.inj h) a2 b2,c.mp q];simp;rw[if_neg q];exact{λz=>absurd z q,λz=>absurd (c.mpr (List.cons.inj z).1) q}
theorem IY:∀{ws:List (Str×Str)}{ks:List Str}{xs ys zs:List D},PV ks xs->PV ks ys->PV ks zs->dZ ws xs ys<0->dZ ws ys zs<0->dZ ws xs zs<0|[],_,_,_,_,_,_,_,h,_=>by simp[dZ]at h|w::ws,_,_,_,_,.nil,.nil,.nil,h,_=>by simp[dZ]at h|w::ws,_,_,_,_,.cons (b:=x) a1 a2,.cons (b:=y) b1 b2,.cons (b:=z) c1 c2,h1,h2=>by unfold dZ at h1 h2⊢;have e1:=rK (w:=w.1) (e:=w.2) {_,a1,b1};have e2:=rK (w:=w.1) (e:=w.2) {_,b1,c1};have e3:=rK (w:=w.1) (e:=w.2) {_,a1,c1};by_cases q1:x=y;subst q1;rw[if_pos<|e1.mpr rfl]at h1;by_cases q2:x=z;subst q2;rw[if_pos<|e2.mpr rfl]at h2⊢;exact IY a2 b2 c2 h1 h2;rw[if_neg λz=>q2<|e2.mp z]at h2⊢;exact h2;rw[if_neg λz=>q1<|e1.mp z]at h1;by_cases q2:y=z;subst q2;rw[if_neg λz=>q1<|e3.mp z];exact h1;rw[if_neg λz=>q2<|e2.mp z]at h2;obtain⟨q3,l3⟩:=LI (p:=("",w.1,w.2)) a1 b1 c1 q1 q2 ((yX {_,a1,b1}).mp h1).2 ((yX {_,b1,c1}).mp h2).2;rw[if_neg λz=>q3<|e3.mp z];exact(yX {_,a1,c1}).mpr ⟨q3,l3⟩
noncomputable def Ab(cs:List<|Str×Str)(z:Str):Str:=((cs[P8 cs z]?).map Prod.snd).getD "word"
noncomputable def Ww(cs:List<|Str×Str)(ps:List Part):List Str:=ps.map (λp=>Ab cs p.1)++[("word": Str)]
noncomputable def Nk(cs:List<|Str×Str)(ps:List Part)(r:Row):List D:=ps.map (λp=>ao cs r.2 p.1)++[.str r.1]
theorem oS:∀z∈KS,Vg "word" (.str z):=by
 have h:∀z∈KS,(jj z&&bu (.str z))=true:=by trivial
 exact λz hz=>let q:=Bool.and_eq_true_iff.mp<|h z hz;⟨q.1,q.2⟩
theorem lj:∀{l:List α}{m:List β}{l':List α}{m':List β},Paired r l m->Paired r l' m'->Paired r (l++l') (m++m')|_,_,_,_,.nil,h=>h|_,_,_,_,.cons a t,h=>.cons a<|lj t h
theorem BN(hg:Gd cs)(hp:Pin cs ps)(hw:Wg cs ws):Paired (λk x=>Vg k x) (ps.map λp=>Ab cs p.1) (ps.map λp=>ao cs ws p.1):=by induction ps with|nil=>exact .nil|cons p ps ih=>refine .cons ?_<|ih hp.tail;obtain⟨c,hc,e⟩:=hp p zi;show Vg (Ab cs p.1) (ao cs ws p.1);unfold Ab;rw[<-e,(rF hg hc).1];exact(pT hg hw hc).2
theorem IZ(hg:Gd cs)(hp:Pin cs ps)(hw:Wg cs r.2)(hk:r.1∈KS):PV (Ww cs ps) (Nk cs ps r):=lj (BN hg hp hw)<|.cons (oS _ hk) .nil
theorem Du(hg:Gd cs){wy:Str}(ha:Wg cs a.2)(hb:Wg cs b.2)(ka:a.1∈KS)(kb:b.1∈KS)(n:a.1≠b.1):∀{ps:List Part},Pin cs ps->(cA cs wy ps a b=true↔dZ (BM ps wy) (Nk cs ps a) (Nk cs ps b)<0)|[],_=>(by show(tN a.1 b.1==decide (wy ="up"))=true↔(if cV wy "last" (.str a.1) (.str b.1)=0 then 0 else cV wy "last" (.str a.1) (.str b.1))<0;have n':(.str a.1:D)≠.str b.1:=λe=>n<|D.str.inj e;rw[if_neg λz=>n'<|(rK {_,oS _ ka,oS _ kb}).mp z,yX {_,oS _ ka,oS _ kb}];exact{λh=>⟨n',h⟩,λh=>h.2})|p::ps,hp=>by obtain⟨k,hk⟩:=vR hg hp;have va:=hk _ ha;have vb:=hk _ hb;show(if k9 (ao cs a.2 p.1) (ao cs b.2 p.1)=true then cA cs wy ps a b else cM p (ao cs a.2 p.1) (ao cs b.2 p.1))=true↔(if cV p.2.1 p.2.2 (ao cs a.2 p.1) (ao cs b.2 p.1)=0 then dZ (BM ps wy) (Nk cs ps a) (Nk cs ps b) else cV p.2.1 p.2.2 (ao cs a.2 p.1) (ao cs b.2 p.1))<0;by_cases q:ao cs a.2 p.1=ao cs b.2 p.1;rw[if_pos<|(cF va.2 vb.2).mpr q,if_pos<|(rK {_,va,vb}).mpr q];exact Du hg ha hb ka kb n hp.tail;rw[if_neg λz=>q<|(cF va.2 vb.2).mp z,if_neg λz=>q<|(rK {_,va,vb}).mp z,yX {_,va,vb}];exact{λh=>⟨q,h⟩,λh=>h.2}
noncomputable def Va(ws:List<|Str×Str)(g:List D)(sd:Str)(x:List D):Bool:=decide (dZ ws x g<0)||(decide (dZ ws x g=0)&&decide (sd ="behind"))
theorem Vb{ws:List<|Str×Str}{ks:List Str}{g x y:List D}{sd:Str}(hl:ws.length=ks.length)(hx:PV ks x)(hy:PV ks y)(hg:PV ks g)(h:dZ ws x y<0)(q:Va ws g sd y=true):Va ws g sd x=true:=by unfold Va at q⊢;simp only[Bool.or_eq_true,zK,zX]at q⊢;rcases q with q|⟨q,_⟩;exact .inl<|IY hx hy hg h q;rw[<-(yY hl hy hg).mp q];exact .inl h
theorem BO:∀{l:List α},(l.Pairwise λa b=>g b=true->g a=true)->∀{i:Nat}{a:α},l[i]?=some a->(g a=true↔i<l.countP g)
 |[],_,i,a,h=>by simp at h
 |x::l,hp,i,a,h=>by
  obtain⟨h1,h2⟩:=List.pairwise_cons.mp hp;rw[List.countP_cons];by_cases q:g x=true;rw[if_pos q];cases i with|zero=>(cases h;simp[q])|succ i=>rw[BO h2<|show l[i]?=some a from h];lia
  have z:l.countP g=0:=List.countP_eq_zero.mpr λb hb e=>q<|h1 b hb e;rw[if_neg q,z];have:g a≠true:=by cases i with|zero=>(cases h;exact q)|succ i=>exact λe=>q<|h1 a (zG h) e
  simp[this]
theorem Qo{α:Type}{g:α->Bool}{l:List α}(hp:l.Pairwise λa b=>g b=true->g a=true){n:Nat}(hn:n<=l.length)(h1:∀i a,i<n->l[i]?=some a->g a=true)(h2:∀i a,n<=i->l[i]?=some a->g a=false):n=l.countP g:=by
 have hc:l.countP g<=l.length:=List.countP_le_length;rcases Nat.lt_trichotomy n (l.countP g) with h|h|h;have hi:n<l.length:=by lia
 have e:=zj hi;have:=(BO hp e).mpr h;rw[h2 n _ (zp _) e]at this;cases this;exact h;have hi:l.countP g<l.length:=by lia
 have e:=zj hi;have:=(BO hp e).mp<|h1 _ _ h e;lia
theorem fT:∀{l:List α}{m:List β},Paired rel l m->∀{i:Nat}{b:β},m[i]?=some b->∃a,l[i]?=some a/\rel a b|_,_,.nil,_,_,h=>by simp at h|_,_,.cons r t,0,b,h=>(by rw[List.getElem?_cons_zero]at h⊢;cases h;exact{_,rfl,r})|_,_,.cons r t,i+1,b,h=>by rw[List.getElem?_cons_succ]at h⊢;exact fT t h
noncomputable def JC(xs:List D)(k:Str):D:=.tup [.tup xs,.str k]
abbrev um:=List D×Str×Str
noncomputable def vV(g:um):D:=.tup [JC g.1 g.2.1,.str g.2.2]
noncomputable def Dw:Option um->D|none=>.ax|some g=>vV g
noncomputable def Dx(z:Str):Bool:=decide (z ="ahead")||decide (z ="behind")
structure Gp(cs:List (Str×Str))(ps:List Part)(g:um):Prop where
 pv:Paired (λk x=>Vg k x) (ps.map λp=>Ab cs p.1) g.1
 key:g.2.1∈KS
 side:Dx g.2.2=true
def Bg(cs:List<|Str×Str)(ps:List Part)(b:Option um):Prop:=∀g,b=some g->Gp cs ps g
noncomputable def Vc(g:um):List D:=g.1++[.str g.2.1]
theorem Gp.vs(h:Gp cs ps g):PV (Ww cs ps) (Vc g):=lj h.pv<|.cons (oS _ h.key) .nil
theorem Gp.len(h:Gp cs ps g):g.1.length=ps.length:=by have:=yT h.pv;rw[zb]at this;exact this.symm
theorem Og.len(h:Og cs ps wy):ps.length<=8:=by have:=h.ok;unfold xX at this;simp only[zK,zX]at this;exact this.1
theorem BP(hg:Gd cs)(hc:c∈cs):c.1.cps.size<=1000:=by have h:=(hg.2.2 c hc).1;unfold ki at h;simp only[zK,zX]at h;lia
inductive uo (ds:List D) (S:aw) (R:KD) (Z:KX):Prop where
 |mk (z) (h0:ds=[.str z]) (h1:R (.bl<|Dx z) S):uo ds S R Z
theorem BQ(T:Txt w K mg t):Ok P w base T.u3 1 uo:=by refine T.u3.F.b_ Bo ?_;rintro _ _ _ _ _ _ _ S R Z hr ⟨z,e,q⟩;subst e;refine{_,(s1<|sr<|sF (cb cH T.az av<|ac (dv 0)<|ac (rY T.l_ gU) an)<|Jr<|Yw T.uX (dv 0)<|dg (v:=.ref t.hU) T.sM rfl λ_=>gY _),?_};refine !{_,_,_,_,rfl,cD,rfl,_,rfl,du !{z,rfl,rfl,?_}};rw[Iz];exact fo q
inductive fz (ds:List D) (S:aw) (R:KD) (Z:KX):Prop where
 |mk (cs ps xs) (h0:ds=[.tup<|cs.map aA,.tup<|ps.map p3,.tup xs]) (h1:Gd cs) (h2:Pin cs ps) (h3:ps.length<=8) (h4:Paired (λk x=>Vg k x) (ps.map λp=>Ab cs p.1) xs) (h5:R (.bl true) S):fz ds S R Z
theorem jY(T:Txt w K mg t):Ok P w base T.dG 4 fz:=by
 refine T.dG.F.b_ jU ?_;rintro _ _ _ _ _ _ _ S R Z hr ⟨cs,ps,xs,e,hg,hp,h8,hv,q⟩;subst e;have hl:xs.length=ps.length:=by have:=yT hv;rw[zb]at this;exact this.symm
 have Na:(ps.map p3).length=ps.length:=zb _;refine{_,(sc (si (twd<|twor (bY<|tv<|cb cH T.az av<|ac (dv 2)<|ac (rY T.bt aW) an)<|tw1<|bq iK hr.u (cb aZ T.aV aI<|ac (dv 2) an)<|cb aZ T.aV aI<|ac (dv 1) an) (s1<|sr db) s0)<|s1<|sr<|cb j_ T.kf fZ<|ac (sI (N:=["part","value","columns"]) (src:=[none,none,some 0]) (j7 (ag kJ) ["columns","parts","thing"] rfl rfl<|by trivial) (izn T.HV<|ac (dv 1)<|ac (dv 2) an) (VZ<|show(["part","value","columns"]:List Str).Nodup by trivial) (pN rfl rfl) pP (λ_ _ _ _ _=>sH) λ_ _ _ _ _=>(aH T.jc (jl T) hr<|ac (aH T.dF (gp T) hr<|ac (dv 2)<|ac (ix hr.u (dv 0) di) an)<|ac (dv 1) an)) an),?_};refine !{_,_,_,_,rfl,aX,rfl,_,rfl,bh !!!!!⟨bF (by rw[hl,Na];simp) ?_⟩};refine !!{_,_,rfl,by rw[hl,Na],?_};refine comp_map (λ_=>.bl true) trivial (by show(ck _ _).length<=_;unfold ck;rw[List.length_zipWith];lia) (λd hd Q hQ=>?_) λp sW=>?_;have hd:d∈ck (ps.map p3) xs:=hd;unfold ck at hd;obtain⟨i,ei⟩:=List.getElem?_of_mem hd;obtain⟨x,y,e2,e3,e4⟩:=List.getElem?_zipWith_eq_some.mp ei;subst e4;rw[zw]at e2;cases e5:ps[i]? with|none=>(rw[e5]at e2;cases e2)|some pt=>rw[e5]at e2;cases e2;obtain⟨c,hc,ec⟩:=hp pt<|zG e5;obtain⟨k,ek,hk⟩:=fT hv e3;rw[zw,e5]at ek;cases ek;have hk:Vg (Ab cs pt.1) y:=hk;unfold Ab at hk;rw[<-ec,(rF hg hc).1]at hk;have hk:Vg c.2 y:=hk;refine !{rfl,_,_,rfl,_,_,rfl,rfl,_,rfl,_,rfl,_,rfl,cs,pt.1,rfl,hg,by rw[<-ec];exact BP hg hc,λk' GK=>?_,λhn=>absurd (zf.mpr ⟨c,hc,ec⟩) hn};have e6:k'=c.2:=(by have:=fQ (f:=Prod.fst) hg.2.1 GK hc ec.symm;rw[<-this]);rw[e6];refine !{c.2,y,rfl,Nb hk,?_};rw[hk.1];exact hQ
 have e2:(ck (ps.map p3) xs).map (λ_=>D.bl true)=((ck (ps.map p3) xs).map λ_=>true).map D.bl:=by rw[zD];rfl
 have e3:((ck (ps.map p3) xs).map λ_=>true).all id=true:=by rw[all_map];exact ya.mpr λ_ _=>rfl
 refine{.ref p,(ck (ps.map p3) xs).map λ_=>true,rfl,?_,?_};show(S.set p<|.lst<|(ck (ps.map p3) xs).map _) p=_;rw[aa,e2];rw[e3];exact{S,.new sW,q}
inductive ko (ds:List D) (S:aw) (R:KD) (Z:KX):Prop where
 |mk (cs ps wy xs k) (h0:ds=[.tup<|cs.map aA,cG ps wy,JC xs k]) (h1:Gd cs) (h2:Pin cs ps) (h3:ps.length<=8) (h4:Paired (λk x=>Vg k x) (ps.map λp=>Ab cs p.1) xs) (h5:k∈KS) (h6:R .ax S):ko ds S R Z
theorem rM(T:Txt w K mg t):Ok P w base T.jd 5 ko:=by refine T.jd.F.b_ qR ?_;rintro _ _ _ _ _ _ _ S R Z hr ⟨cs,ps,wy,xs,k,e,hg,hp,h8,hv,hk,q⟩;subst e;refine{_,(sc (si (twd<|twor (bY<|tv<|cb cH T.az av<|ac (dv 2)<|ac (rY T.bt aW) an)<|tw1<|bq iK hr.u (cb aZ T.aV aI<|ac (dv 2) an) di) (s1<|qv ⟨T.cR⟩ T.dQ<|ac ds an) s0)<|sc (si (bY<|tv<|aH T.dG (jY T) hr<|ac (dv 0)<|ac (ix hr.u (dv 1) di)<|ac (ix hr.u (dv 2) di) an) (s1<|qv ⟨T.cR⟩ T.dQ<|ac ds an) s0)<|s1<|si (bY<|tv<|aH T.kQ (gI T) hr<|ac (ix hr.u (dv 2) di) an) (s1<|qv ⟨T.cR⟩ T.dQ<|ac ds an) s0),?_};refine !{_,_,_,_,rfl,aX,rfl,_,rfl,bh !!!⟨bh ?_⟩};refine !!!!!{cs,ps,xs,rfl,hg,hp,h8,hv,_,rfl,bh ?_};refine !!{.str k,rfl,Dq hk,_,rfl,?_};rw[show ofStr jW (.str k)=true from(iq k hk).1];exact bh<|fo q
inductive oU (ds:List D) (S:aw) (R:KD) (Z:KX):Prop where
 |mk (cs ps wy g) (h0:ds=[.tup<|cs.map aA,cG ps wy,vV g]) (h1:Gd cs) (h2:Pin cs ps) (h3:ps.length<=8) (h4:Gp cs ps g) (h5:R .ax S):oU ds S R Z
theorem vW(T:Txt w K mg t):Ok P w base T.nI 6 oU:=by refine T.nI.F.b_ vi ?_;rintro _ _ _ _ _ _ _ S R Z hr ⟨cs,ps,wy,g,e,hg,hp,h8,hv,q⟩;subst e;refine{_,(sc (si (twd<|twor (bY<|tv<|cb cH T.az av<|ac (dv 2)<|ac (rY T.bt aW) an)<|tw1<|bq iK hr.u (cb aZ T.aV aI<|ac (dv 2) an) di) (s1<|qv ⟨T.cR⟩ T.dQ<|ac ds an) s0)<|sc (se<|aH T.jd (rM T) hr<|ac (dv 0)<|ac (dv 1)<|ac (ix hr.u (dv 2) di) an)<|s1<|si (bY<|tv<|aH T.u3 (BQ T) hr<|ac (ix hr.u (dv 2) di) an) (s1<|qv ⟨T.cR⟩ T.dQ<|ac ds an) s0),?_};refine !{_,_,_,_,rfl,aX,rfl,_,rfl,bh !!!⟨bh ?_⟩};refine !!!!{cs,ps,wy,g.1,g.2.1,rfl,hg,hp,h8,hv.pv,hv.key,?_};refine !!{g.2.2,rfl,_,rfl,?_};rw[hv.side];exact bh<|fo q
inductive kr (ds:List D) (S:aw) (R:KD) (Z:KX):Prop where
 |mk (cs ps wy b) (h0:ds=[.tup<|cs.map aA,cG ps wy,Dw b]) (h1:Gd cs) (h2:Pin cs ps) (h3:ps.length<=8) (h4:Bg cs ps b) (h5:R .ax S):kr ds S R Z
theorem rN(T:Txt w K mg t):Ok P w base T.jf 7 kr:=by refine T.jf.F.b_ qS ?_;rintro _ _ _ _ _ _ _ S R Z hr ⟨cs,ps,wy,b,e,hg,hp,h8,hv,q⟩;subst e;refine{_,(s1<|si (bq kF hr.u (dv 2) dn) (s1<|se<|aH T.nI (vW T) hr<|ac (dv 0)<|ac (dv 1)<|ac (dv 2) an) s0),?_};cases b with|none=>exact (!!⟨bh<|fo q⟩)|some g=>exact !!⟨du !!!{cs,ps,wy,g,rfl,hg,hp,h8,hv g rfl,fo q}⟩
inductive mM (ds:List D) (S:aw) (R:KD) (Z:KX):Prop where
 |mk (n:Int) (h0:ds=[.int n]) (h1:1<=n) (h2:n<=1000) (h3:R .ax S):mM ds S R Z
theorem sY(T:Txt w K mg t):Ok P w base T.kW 2 mM:=by refine T.kW.F.b_ sR ?_;rintro _ _ _ _ _ _ _ S R Z hr ⟨n,e,h1,h2,q⟩;subst e;refine{_,(s1<|si (twd<|twor (bY<|tv<|aH T.jb (jk T) hr<|ac (dv 0) an)<|tw1<|bY<|VQ iY iY hr.u di (dv 0)<|dg (v:=.int 1000) T.uU {_,rfl} λ_=>aO _) (s1<|qv ⟨T.nF⟩ T.Bf<|ac ds an) s0),?_};refine !{.int n,rfl,gt_int,_,rfl,bh !!⟨nZ (zx h1) !⟨?_⟩⟩};exact bF (by show(!decide (n<=1000))=false;rw[zx h2];rfl)<|fo q
inductive mO (ds:List D) (S:aw) (R:KD) (Z:KX):Prop where
 |mk (cs ps wy d n b) (h0:ds=[.tup<|cs.map aA,cG ps wy,d,.int n,Dw b]) (h1:Gd cs) (h2:Og cs ps wy) (h3:Sq cs d) (h4:1<=n) (h5:n<=1000) (h6:Bg cs ps b) (h7:R .ax S):mO ds S R Z
theorem ku(T:Txt w K mg t):Ok P w base T.ic 8 mO:=by refine T.ic.F.b_ sQ ?_;rintro _ _ _ _ _ _ _ S R Z hr ⟨cs,ps,wy,d,n,b,e,hg,ho,hd,h1,h2,hv,q⟩;subst e;refine{_,(sc (se<|aH T.fM (jt T) hr<|ac (dv 0)<|ac (dv 1) an)<|sc (se<|aH T.dR (fu T) hr<|ac (dv 0)<|ac (dv 2) an)<|sc (se<|aH T.kW (sY T) hr<|ac (dv 3) an)<|s1<|se<|aH T.jf (rN T) hr<|ac (dv 0)<|ac (dv 1)<|ac (dv 4) an),?_};refine !!{cs,ps,wy,rfl,hg,ho.tx,λ_=>?_,λz=>tf ho.ok z};refine !!{cs,d,rfl,hg,hd,_,rfl,n,rfl,h1,h2,?_};exact !!!{cs,ps,wy,b,rfl,hg,ho.pin,ho.len,hv,fo q}
structure An(cs:List (Str×Str))(ps:List Part)(wy:Str)(A:List Row):Prop where
 rg:Rg cs A
 ky:∀r∈A,r.1∈KS
 pw:A.Pairwise λa b=>cA cs wy ps a b=true
noncomputable def gP(cs:List<|Str×Str)(ps:List Part)(wy:Str)(g:um)(r:Row):Bool:=Va (BM ps wy) (Vc g) g.2.2<|Nk cs ps r
theorem LV:(BM ps wy).length=(Ww cs ps).length:=by unfold BM Ww;simp
theorem An.lex(hg:Gd cs)(hp:Pin cs ps)(h:An cs ps wy A):A.Pairwise λa b=>dZ (BM ps wy) (Nk cs ps a) (Nk cs ps b)<0:=by have nd:A.Pairwise λa b=>a.1≠b.1:=List.pairwise_map.mp h.rg.2;refine(h.pw.and nd).imp_of_mem λ{a b} ha hb q=>?_;exact(Du hg (h.rg.1 a ha) (h.rg.1 b hb) (h.ky a ha) (h.ky b hb) q.2 hp).mp q.1
theorem An.mono(hg:Gd cs)(hp:Pin cs ps)(h:An cs ps wy A)(hv:Gp cs ps g):A.Pairwise λa b=>gP cs ps wy g b=true->gP cs ps wy g a=true:=by refine(h.lex hg hp).imp_of_mem λ{a b} ha hb q=>?_;exact Vb LV (IZ hg hp (h.rg.1 a ha)<|h.ky a ha) (IZ hg hp (h.rg.1 b hb)<|h.ky b hb) hv.vs q
inductive rO (ds:List D) (S:aw) (R:KD) (Z:KX):Prop where
 |mk (cs ps wy r) (h0:ds=[.tup<|cs.map aA,cG ps wy,ai r]) (h1:Gd cs) (h2:Pin cs ps) (h3:ps.length<=8) (h4:Wg cs r.2) (h5:R (JC (ps.map λp=>ao cs r.2 p.1) r.1) S):rO ds S R Z
theorem fU(T:Txt w K mg t):Ok P w base T.gF 3 rO:=by
 refine T.gF.F.b_ oB ?_;rintro _ _ _ _ _ _ _ S R Z hr ⟨cs,ps,wy,r,e,hg,hp,h8,hw,q⟩;subst e;refine{_,(sc (MM (i:=3) (N:=["part","columns","row"]) (src:=[none,some 0,some 2]) oB.nd (j7 (ag Bb) ["columns","order","row","values"] rfl rfl<|by trivial) (Jt<|ix hr.u (dv 1) di) (pj<|show(["part","columns","row"]:List Str).Nodup by trivial) (aR rfl) aT (λ_ _ _ _ _=>sH) λ_ _ _ _ _=>(aH T.bZ (cW T) hr<|ac (dv 1)<|ac (dv 2)<|ac (ix hr.u (dv 0) di) an))<|s1<|sr<|bw<|ac (ct fH T.bt aW<|ac (dv 3) an)<|ac (ix hr.u (dv 2) di) an),?_};refine !!{_,.inl rfl,?_};refine comp_map (λd=>match d with|.tup (.str z::_)=>ao cs r.2 z|_=>.ax) trivial (by show(ps.map p3).length<=_;rw[zb];lia) (λd hd Q hQ=>?_) λp sW=>?_;obtain⟨pt,LW,rfl⟩:=zf.mp hd;obtain⟨c,hc,ec⟩:=hp pt LW;refine !!!!{cs,r,c,(by rw[ec];rfl),hg,hw,hc,?_};rw[ec];exact hQ;have e3:(ps.map p3).map (λd=>match d with|.tup (.str z::_)=>ao cs r.2 z|_=>.ax)=ps.map λp=>ao cs r.2 p.1:=by rw[zD];rfl
 rw[show({ps.map p3,λ_=>True}:uJ).xs=ps.map p3 from rfl,e3];exact !{_,_,rfl,.inl aa,_,rfl,_,rfl,bI,S,.new sW,q}
inductive fV (ds:List D) (S:aw) (R:KD) (Z:KX):Prop where
 |mk (ps:List Part) (wy:Str) (xs:List D) (k:Str) (ys:List D) (l:Str) (ks:List Str) (h0:ds=[cG ps wy,JC xs k,JC ys l]) (h1:ps.length=xs.length) (h2:ps.length=ys.length) (h3:Paired (λk x=>Vg k x) ks xs) (h4:Paired (λk x=>Vg k x) ks ys) (h5:k∈KS) (h6:l∈KS) (h7:R (.int<|dZ (BM ps wy) (xs++[.str k])<|ys++[.str l]) S):fV ds S R Z
theorem lq(T:Txt w K mg t):Ok P w base T.dX 3 fV:=by refine T.dX.F.b_ bD ?_;rintro _ _ _ _ _ _ _ S R Z hr ⟨ps,wy,xs,k,ys,l,ks,e,h1,h2,vx,vy,hk,hl,q⟩;subst e;refine{_,(sc (A4<|Ju (Y2 T.HV<|ac (ix hr.u (dv 0) di)<|ac (ix hr.u (dv 1) di)<|ac (ix hr.u (dv 2) di) an) (gt (n:=3)<|gc (gn (i:=3) bD.nd)<|gc (gn (i:=4) bD.nd)<|gc (gn (i:=5) bD.nd) g0)<|sc (cC (i:=6) bD.nd<|aH T.compared (oR T) hr<|ac (dv 4)<|ac (dv 5)<|ac (ix hr.u (dv 3) di)<|ac (ix hr.u (dv 3) di) an)<|s1<|si (bq iK hr.u (dv 6) di) (s1<|sr<|dv 6) s0)<|s1<|sr<|aH T.compared (oR T) hr<|ac (ix hr.u (dv 1) di)<|ac (ix hr.u (dv 2) di)<|ac (ix hr.u (dv 0) di)<|ac ds an),?_};refine{λaJ S'=>∃(o3 o4 o5 o6:Option D),aJ=[some<|cG ps wy,some<|JC xs k,some<|JC ys l,o3,o4,o5,o6]/\S'=S/\dZ (BM ps wy) (xs++[.str k]) (ys++[.str l])=cV wy "last" (.str k) (.str l),?_,?_};{refine !!!!!!{_,_,_,rfl,by rw[zb];exact h1,by rw[zb];exact h2,?_};refine{λi aJ S'=>∃(o3 o4 o5 o6:Option D),aJ=[some<|cG ps wy,some<|JC xs k,some<|JC ys l,o3,o4,o5,o6]/\S'=S/\dZ (BM ps wy) (xs++[.str k]) (ys++[.str l])=dZ (BM (ps.drop i) wy) (xs.drop i++[.str k]) (ys.drop i++[.str l]),{_,_,_,_,rfl,rfl,rfl},λ_ _ _ _=>trivial,?_,?_};rintro i d aJ S' hd ⟨o3,o4,o5,o6,rfl,rfl,he⟩;obtain⟨x,y,z,e1,e2,e3,rfl⟩:=nB hd;rw[zw]at e1;(cases e5:ps[i]? with|none=>(rw[e5]at e1;cases e1)|some p=>rw[e5]at e1;cases e1;obtain⟨i1,g1⟩:=zk.mp e5;obtain⟨i2,g2⟩:=zk.mp e2;obtain⟨i3,g3⟩:=zk.mp e3;rw[List.drop_eq_getElem_cons i1,List.drop_eq_getElem_cons i2,List.drop_eq_getElem_cons i3,g1,g2,g3]at he;have he:_=if cV p.2.1 p.2.2 y z=0 then dZ (BM (ps.drop<|i+1) wy) (xs.drop (i+1)++[.str k]) (ys.drop (i+1)++[.str l]) else cV p.2.1 p.2.2 y z:=he;obtain⟨k1,q1,v1⟩:=fT vx e2;obtain⟨k2,q2,v2⟩:=fT vy e3;cases q1.symm.trans q2;refine !{rfl,_,_,rfl,_,_,rfl,_,_,rfl,rfl,?_};refine !!!!!!{y,z,p.2.1,p.2.2,rfl,⟨k1,v1,v2⟩,_,rfl,_,rfl,bP (λh=>?_) λh=>?_};have h:(!decide (cV p.2.1 p.2.2 y z=0))=true:=h;rw[if_neg<|zP<|nt h]at he;rw[he]at q;exact{_,rfl,fo q};have h:(!decide (cV p.2.1 p.2.2 y z=0))=false:=h;rw[if_pos<|zB<|nf h]at he;exact{_,_,_,_,rfl,rfl,he});{rintro aJ S' ⟨o3,o4,o5,o6,rfl,rfl,he⟩;have he:_=dZ (BM (ps.drop (i4 (ps.map p3) xs ys).length) wy) (xs.drop (i4 (ps.map p3) xs ys).length++[.str k]) (ys.drop (i4 (ps.map p3) xs ys).length++[.str l]):=he;rw[nA (by rw[zb];exact h1)<|by rw[zb];exact h2,zb,List.drop_length,h1,List.drop_length,<-h1,h2,List.drop_length]at he;refine fo {o3,o4,o5,o6,rfl,rfl,he.trans ?_};show(if cV wy "last" (.str k) (.str l)=0 then 0 else cV wy "last" (.str k) (.str l))=_;split;{next h=>exact h.symm};rfl}};rintro aJ S' ⟨o3,o4,o5,o6,rfl,rfl,he⟩;rw[he]at q;exact !!!!!!{_,_,_,_,rfl,{_,oS k hk,oS l hl},fo q}
inductive rP (ds:List D) (S:aw) (R:KD) (Z:KX):Prop where
 |mk (cs ps wy r g) (h0:ds=[cG ps wy,JC (ps.map λp=>ao cs r.2 p.1) r.1,vV g]) (h1:Gd cs) (h2:Pin cs ps) (h3:Wg cs r.2) (h4:r.1∈KS) (h5:Gp cs ps g) (h6:R (.bl<|gP cs ps wy g r) S):rP ds S R Z
theorem oV(T:Txt w K mg t):Ok P w base T.mf 4 rP:=by refine T.mf.F.b_ oE ?_;rintro _ _ _ _ _ _ _ S R Z hr ⟨cs,ps,wy,r,g,e,hg,hp,hw,hk,hv,q⟩;subst e;refine{_,(sc (cC (i:=3) oE.nd<|aH T.dX (lq T) hr<|ac (dv 0)<|ac (dv 1)<|ac (ix hr.u (dv 2) di) an)<|sc (si (bq bH hr.u (dv 3) di) (s1<|sr<|cm bH hr.u (ix hr.u (dv 2) di) ds) s0)<|s1<|sr<|cm wR hr.u (dv 3) di),?_};refine !!!!{ps,wy,_,r.1,g.1,g.2.1,_,rfl,by rw[zb],hv.len.symm,BN hg hp hw,hv.pv,hk,hv.key,_,rfl,_,rfl,?_};unfold gP Va at q;change R (.bl<|decide (dZ (BM ps wy) ((ps.map λp=>ao cs r.2 p.1)++[.str r.1]) (g.1++[.str g.2.1])<0)||decide (dZ (BM ps wy) ((ps.map λp=>ao cs r.2 p.1)++[.str r.1]) (g.1++[.str g.2.1])=0)&&decide (g.2.2 ="behind")) S at q;generalize dZ (BM ps wy) _ _=n at q⊢;refine bP (λh=>?_) λh=>?_;have h:n=0:=zB h;subst h;exact !!⟨fo q⟩;have h:¬n=0:=zP h;rw[zy h,zU,Bool.or_false]at q;exact{_,rfl,fo q}
inductive kx (ds:List D) (S:aw) (R:KD) (Z:KX):Prop where
 |mk (cs ps wy A l g) (h0:ds=[.tup<|cs.map aA,cG ps wy,.ref l,vV g]) (h1:Gd cs) (h2:Pin cs ps) (h3:ps.length<=8) (h4:S l=some (.lst<|A.map ai)) (h5:An cs ps wy A) (h6:Gp cs ps g) (h7:R (.int ((A.countP (gP cs ps wy g):Nat):Int)) S):kx ds S R Z
theorem jx(T:Txt w K mg t):Ok P w base T.fN 5 kx:=by
 refine T.fN.F.b_ bS ?_;rintro _ _ _ _ _ _ _ S R Z hr ⟨cs,ps,wy,A,l,g,e,hg,hp,h8,hl,hA,hv,q⟩;subst e;refine{_,(sc (cC (i:=4) bS.nd di)<|sc (cC (i:=5) bS.nd<|cb aZ T.aV aI<|ac (dv 2) an)<|sc (A4<|swh (bq wR hr.u (dv 4)<|dv 5)<|sc (cC (i:=6) bS.nd<|bo qu hr.u (bo cw hr.u (dv 4)<|dv 5) di)<|s1<|si (tv<|aH T.mf (oV T) hr<|ac (dv 1)<|ac (aH T.gF (fU T) hr<|ac (dv 0)<|ac (dv 1)<|ac (ix hr.u (dv 2)<|dv 6) an)<|ac (dv 3) an) (s1<|cC (i:=4) bS.nd<|bo cw hr.u (dv 6) di)<|s1<|cC (i:=5) bS.nd<|dv 6)<|s1<|sr<|dv 4),?_};refine !!⟨.inl {_,hl,?_}⟩;rw[zb];refine{λaJ S'=>∃(o6:Option D),aJ=[some<|.tup<|cs.map aA,some<|cG ps wy,some<|.ref l,some<|vV g,some<|.int ((A.countP (gP cs ps wy g):Nat):Int),some<|.int ((A.countP (gP cs ps wy g):Nat):Int),o6]/\S'=S,?_,?_};refine{λm aJ S'=>∃(lo hi:Nat)(o6:Option D),aJ=[some<|.tup<|cs.map aA,some<|cG ps wy,some<|.ref l,some<|vV g,some<|.int (lo:Nat),some<|.int (hi:Nat),o6]/\S'=S/\m=hi-lo/\lo<=hi/\hi<=A.length/\(∀i a,i<lo->A[i]?=some a->gP cs ps wy g a=true)/\(∀i a,hi<=i->A[i]?=some a->gP cs ps wy g a=false),{_,0,A.length,none,rfl,rfl,rfl,zZ _,zp _,λi a h=>absurd h<|Nat.not_lt_zero _,λi a h e=>?_},?_};rw[List.getElem?_eq_none h]at e;cases e;rintro m aJ S' ⟨lo,hi,o6,rfl,rfl,rfl,h1,h2,b1,b2⟩;refine !!!⟨bP (λh=>?_) λh=>?_⟩;have h:lo<hi:=by have:=zB h;lia
 have hm:(lo+hi)/2<A.length:=by lia
 have em:=zj hm;generalize A[(lo+hi)/2]=r at em;have vE:=zG em;have ed:(((lo:Nat):Int)+((hi:Nat):Int))/2=(((lo+hi)/2:Nat):Int):=by lia
 have mono:=hA.mono hg hp hv;refine !!⟨{by decide,by decide},?_⟩;rw[ed];refine !!!!!{_,ai r,hl,jB<|by rw[zw,em];rfl,cs,ps,wy,r,rfl,hg,hp,h8,hA.rg.1 r vE,_,rfl,cs,ps,wy,r,g,rfl,hg,hp,hA.rg.1 r vE,hA.ky r vE,hv,_,rfl,bP (λz=>?_) λz=>?_};refine !{hi-((lo+hi)/2+1),by lia,(lo+hi)/2+1,hi,_,rfl,rfl,rfl,by lia,h2,λi a TN ei=>?_,b2};rcases Nat.lt_or_ge i ((lo+hi)/2) with eN|V4;exact List.pairwise_iff_getElem.mp mono i _ (zk.mp ei).1 hm eN |> λk=>by rw[(zk.mp ei).2,(zk.mp em).2]at k;exact k z
 have:i=(lo+hi)/2:=by lia
 subst this;rw[em]at ei;cases ei;exact z;refine !{(lo+hi)/2-lo,by lia,lo,(lo+hi)/2,_,rfl,rfl,rfl,by lia,by lia,b1,λi a TN ei=>?_};rcases Nat.lt_or_ge ((lo+hi)/2) i with eN|V4;cases qa:gP cs ps wy g a with|false=>rfl|true=>have k:=List.pairwise_iff_getElem.mp mono _ i hm (zk.mp ei).1 eN;rw[(zk.mp ei).2,(zk.mp em).2]at k;exact tf (k qa) z
 have:i=(lo+hi)/2:=by lia
 subst this;rw[em]at ei;cases ei;exact z;have h:lo=hi:=by have:=zP h;lia
 subst h;have:=Qo (hA.mono hg hp hv) h2 b1 b2;subst this;exact fo !⟨rfl⟩;rintro aJ S' ⟨o6,rfl,rfl⟩;exact{_,rfl,fo q}
noncomputable def seg{α:Type}(A:List α)(b e:Nat):List α:=(A.drop b).take<|e-b
theorem Dy(h:b<=e)(h2:e<=A.length):(seg A b e).length=e-b:=by unfold seg;rw[yy,List.length_drop];omega
theorem Dz(h:b<=e)(h2:e<=A.length):wW (A.map ai) (some ((b:Nat):Int)) (some ((e:Nat):Int))=(seg A b e).map ai:=by unfold wW seg;rw[HT.sIx_nat,HT.sIx_nat,zb,Nat.min_eq_left h2,Nat.min_eq_left<|zH h h2,List.map_take,List.map_drop]
noncomputable def JD(p:Addr)(b c:Nat):D:=.tup [.ref p,.int (b:Nat),.int (c:Nat)]
noncomputable def pU(cs:List<|Str×Str)(ps:List Part)(wy:Str)(A:List Row)(n:Nat):Option um->Nat|none=>n|some g=>A.countP<|gP cs ps wy g
theorem Qp(h:n<=A.length):∀b,pU cs ps wy A n b<=A.length|none=>h|some _=>List.countP_le_length
structure Qq(cs:List (Str×Str))(ps:List Part)(wy:Str)(n:Nat)(d:D)(rows A:List Row):Prop where
 an:An cs ps wy A
 pm:A.Perm (rows.filter λr=>aF cs r n d)
theorem Qq.one(hg:Gd cs)(hp:Pin cs ps)(h:Qq cs ps wy n d rows A)(h':Qq cs ps wy n d rows A'):A=A':=LJ hg hp h'.an.rg h.an.pw h'.an.pw<|h.pm.trans h'.pm.symm
def I0(rows:List Row):Prop:=∀r∈rows,r.1∈KS
theorem BR{cs:List<|Str×Str}{ps:List Part}{wy:Str}{n:Nat}{d:D}{rows A:List Row}(hr:Rg cs rows)(hk:I0 rows)(pm:A.Perm<|rows.filter λr=>aF cs r n d)(pw:A.Pairwise λa b=>cA cs wy ps a b=true):Qq cs ps wy n d rows A:={{(hr.sub yq).perm pm,λr h=>hk r (zY.mp<|pm.mem_iff.mp h).1,pw},pm}
noncomputable def Ac(A:List Row)(b n:Nat):Nat:=min (b+n) A.length
def Qr(t:iL)(f:List (Str×Str)->List Part->Str->List Row->Option um->Nat->Nat×Nat):jE:=λds S R _=>∃(a:Addr)(cs:List (Str×Str))(ps:List Part)(wy:Str)(d m:D)(n:Nat)(b:Option um)(rows:List Row),ds=[.ref a,cG ps wy,d,.int (n:Nat),Dw b,m]/\Gd cs/\Og cs ps wy/\Sq cs d/\1<=n/\n<=1000/\Bg cs ps b/\Vw t.aj S a cs m rows/\I0 rows/\Tb t S/\∀(A:List Row)(p:Addr),Qq cs ps wy 7 d rows A->S p=none->R (JD p (f cs ps wy A b n).1<|A.length-(f cs ps wy A b n).2) (S.set p<|.lst<|(seg A (f cs ps wy A b n).1 (f cs ps wy A b n).2).map ai)
noncomputable def I9(cs:List<|Str×Str)(ps:List Part)(wy:Str)(A:List Row)(b:Option um)(n:Nat):Nat×Nat:=(pU cs ps wy A 0 b,Ac A (pU cs ps wy A 0 b) n)
noncomputable def Qt(cs:List<|Str×Str)(ps:List Part)(wy:Str)(A:List Row)(b:Option um)(n:Nat):Nat×Nat:=(pU cs ps wy A A.length b-n,pU cs ps wy A A.length b)
theorem DB{S:aw}{p q:Addr}{c e:Ce}(h:S q=none)(hp:S p=none)(hn:q≠p):Sub (S.set q e) ((S.set p c).set q e):=λb x hb=>by by_cases z:b=q;subst z;rw[aa]at hb⊢;exact hb;rw[ae z]at hb⊢;rw[ae<|eP hb hp];exact hb
inductive jy (ds:List D) (S:aw) (R:KD) (Z:KX):Prop where
 |mk (l:Addr) (A:List Row) (b e:Nat) (h0:ds=[.ref l,.int (b:Nat),.int (e:Nat)]) (h1:S l=some (.lst<|A.map ai)) (h2:b<=e) (h3:e<=A.length) (h4:∀p,S p=none->R (JD p b<|A.length-e) (S.set p<|.lst<|(seg A b e).map ai)):jy ds S R Z
theorem iJ(T:Txt w K mg t):Ok P w base T.eJ 1 jy:=by refine T.eJ.F.b_ pC ?_;rintro _ _ _ _ _ _ _ S R Z hr ⟨l,A,b,e,e0,hl,h1,h2,q⟩;subst e0;refine{_,(s1<|sr<|bw<|ac (YY (dv 0) (o1<|dv 1)<|o1<|dv 2)<|ac (dv 1)<|ac (bo eV hr.u (cb aZ T.aV aI<|ac (dv 0) an)<|dv 2) an),?_};refine !!!!!{_,hl,λp hp=>?_};rw[Dz h1 h2];refine !!!⟨.inl {_,(Sub.new hp) _ _ hl,_,rfl,mq,?_}⟩;rw[zb,show((A.length:Nat):Int)-((e:Nat):Int)=((A.length-e:Nat):Int) by omega];exact fo<|q p hp
inductive oW (ds:List D) (S:aw) (R:KD) (Z:KX):Prop where
 |mk (l:Addr) (A:List Row) (b n:Nat) (h0:ds=[.ref l,.int (b:Nat),.int (n:Nat)]) (h1:S l=some (.lst<|A.map ai)) (h2:b<=A.length) (h3:∀p,S p=none->R (JD p b<|A.length-Ac A b n) (S.set p<|.lst<|(seg A b<|Ac A b n).map ai)):oW ds S R Z
theorem vX(T:Txt w K mg t):Ok P w base T.nK 2 oW:=by
 refine T.nK.F.b_ vm ?_;rintro _ _ _ _ _ _ _ S R Z hr ⟨l,A,b,n,e0,hl,h1,q⟩;subst e0;refine{_,(s1<|sr<|aH T.eJ (iJ T) hr<|ac (dv 0)<|ac (dv 1)<|ac (cb Tq T.UH OV<|ac (bo cw hr.u (dv 1)<|dv 2)<|ac (cb aZ T.aV aI<|ac (dv 0) an) an) an),?_};refine !!!!!!⟨.inl {_,hl,_,_,rfl,?_}⟩;rw[zb];have e1:(if decide (((A.length:Nat):Int)<((b:Nat):Int)+((n:Nat):Int))=true then ((A.length:Nat):Int) else ((b:Nat):Int)+((n:Nat):Int))=((Ac A b n:Nat):Int):=by unfold Ac;by_cases h:((A.length:Nat):Int)<((b:Nat):Int)+((n:Nat):Int);rw[if_pos<|zx h];omega;rw[if_neg<|by rw[zy h];exact zd];omega
 rw[e1];exact{l,A,b,Ac A b n,rfl,hl,by unfold Ac;omega,by unfold Ac;omega,λp hp=>fo<|q p hp}
inductive mP (ds:List D) (S:aw) (R:KD) (Z:KX):Prop where
 |mk (l:Addr) (A:List Row) (e n:Nat) (h0:ds=[.ref l,.int (e:Nat),.int (n:Nat)]) (h1:S l=some (.lst<|A.map ai)) (h2:e<=A.length) (h3:∀p,S p=none->R (JD p (e-n)<|A.length-e) (S.set p<|.lst<|(seg A (e-n) e).map ai)):mP ds S R Z
theorem sZ(T:Txt w K mg t):Ok P w base T.kU 2 mP:=by
 refine T.kU.F.b_ sP ?_;rintro _ _ _ _ _ _ _ S R Z hr ⟨l,A,e,n,e0,hl,h1,q⟩;subst e0;refine{_,(s1<|sr<|aH T.eJ (iJ T) hr<|ac (dv 0)<|ac (cb MG T.M4 HA<|ac (bo eV hr.u (dv 1)<|dv 2)<|ac di an)<|ac (dv 1) an),?_};refine !!!{_,_,rfl,?_};have e1:(if decide (((e:Nat):Int)-((n:Nat):Int)<0)=true then (0:Int) else ((e:Nat):Int)-((n:Nat):Int))=((e-n:Nat):Int):=by by_cases h:((e:Nat):Int)-((n:Nat):Int)<0;rw[if_pos<|zx h];omega;rw[if_neg<|by rw[zy h];exact zd];omega
 rw[e1];exact !{l,A,e-n,e,rfl,hl,Nat.sub_le _ _,h1,λp hp=>fo<|q p hp}
def Nl(f:List (Str×Str)->List Part->Str->List Row->Option um->Nat->Nat×Nat):jE:=λds S R _=>∃(cs:List (Str×Str))(ps:List Part)(wy:Str)(l:Addr)(A:List Row)(n:Nat)(b:Option um),ds=[.tup<|cs.map aA,cG ps wy,.ref l,.int (n:Nat),Dw b]/\Gd cs/\Pin cs ps/\ps.length<=8/\S l=some (.lst<|A.map ai)/\An cs ps wy A/\Bg cs ps b/\∀p,S p=none->R (JD p (f cs ps wy A b n).1<|A.length-(f cs ps wy A b n).2) (S.set p<|.lst<|(seg A (f cs ps wy A b n).1 (f cs ps wy A b n).2).map ai)
theorem s_(T:Txt w K mg t):Ok P w base T.kT 6 (Nl I9):=by refine T.kT.F.b_ kh ?_;rintro _ _ _ _ _ _ _ S R Z hr ⟨cs,ps,wy,l,A,n,b,e0,hg,hp,h8,hl,hA,hb,q⟩;subst e0;refine{_,(sc (cC (i:=5) kh.nd<|QX (bq jQ hr.u (dv 4) dn) di<|aH T.fN (jx T) hr<|ac (dv 0)<|ac (dv 1)<|ac (dv 2)<|ac (dv 4) an)<|s1<|sr<|aH T.nK (vX T) hr<|ac (dv 2)<|ac (dv 5)<|ac (dv 3) an),?_};cases b with|none=>exact (!!⟨du !!!{l,A,0,n,rfl,hl,zZ _,λp hp=>fo<|q p hp}⟩)|some g=>exact !!⟨bh !!!!{cs,ps,wy,A,l,g,rfl,hg,hp,h8,hl,hA,hb g rfl,_,rfl,_,rfl,_,rfl,l,A,_,n,rfl,hl,List.countP_le_length,λp hp=>fo<|q p hp}⟩
theorem pH(T:Txt w K mg t):Ok P w base T.ib 6 (Nl Qt):=by refine T.ib.F.b_ iC ?_;rintro _ _ _ _ _ _ _ S R Z hr ⟨cs,ps,wy,l,A,n,b,e0,hg,hp,h8,hl,hA,hb,q⟩;subst e0;refine{_,(sc (cC (i:=5) iC.nd<|QX (bq jQ hr.u (dv 4) dn) (cb aZ T.aV aI<|ac (dv 2) an)<|aH T.fN (jx T) hr<|ac (dv 0)<|ac (dv 1)<|ac (dv 2)<|ac (dv 4) an)<|s1<|sr<|aH T.kU (sZ T) hr<|ac (dv 2)<|ac (dv 5)<|ac (dv 3) an),?_};cases b with|none=>refine !!⟨du !!⟨.inl {_,hl,?_}⟩⟩;rw[zb];exact (!!!{l,A,A.length,n,rfl,hl,zp _,λp hp=>fo<|q p hp})|some g=>exact !!⟨bh !!!!{cs,ps,wy,A,l,g,rfl,hg,hp,h8,hl,hA,hb g rfl,_,rfl,_,rfl,_,rfl,l,A,_,n,rfl,hl,List.countP_le_length,λp hp=>fo<|q p hp}⟩
theorem BS(T:Txt w K mg t)(B:Bm mg base):Ok P w base T.uS 13 (Qr t I9):=by
 refine T.uS.F.b_ Bq ?_;rintro _ _ _ _ _ _ _ S R Z hr ⟨a,cs,ps,wy,d,m,n,b,rows,e0,hg,ho,hd,h1,h2,hb,hv,hk,ht,q⟩;subst e0;obtain⟨F,dl,rs,hS,hn,Rm,Nf⟩:=hv.sh;obtain⟨ld,lr,ra,h,_⟩:=id hS;refine{_,(sc (se<|aH T.ic (ku T) hr<|ac (lX (dv 0) T.ak T.aE (bc T) hr)<|ac (dv 1)<|ac (dv 2)<|ac (dv 3)<|ac (dv 4) an)<|s1<|sr<|aH T.kT (s_ T) hr<|ac (lX (dv 0) T.ak T.aE (bc T) hr)<|ac (dv 1)<|ac (aH T.cz (dm T B) hr<|ac (dv 0)<|ac (dv 1)<|ac (dv 2)<|ac (dv 5) an)<|ac (dv 3)<|ac (dv 4) an),?_};refine !{a,_,rfl,h.ins,rfl,a,F,cs,dl,rs,rfl,hS,_,rfl,_,rfl,_,rfl,_,rfl,cs,ps,wy,d,n,b,rfl,hg,ho,hd,by omega,by omega,hb,?_};refine !{a,_,rfl,h.ins,rfl,a,F,cs,dl,rs,rfl,hS,_,rfl,_,rfl,_,rfl,_,rfl,_,rfl,a,cs,ps,wy,d,m,rows,rfl,hg,ho,hd,hv,ht,λA l pm pw hl=>?_};have an:=BR hv.rg hk pm pw;refine !!{cs,ps,wy,l,A,n,b,rfl,hg,ho.pin,ho.len,aa,an.an,hb,λp hp=>?_};have dr:p≠l:=λe=>by rw[e,aa]at hp;cases hp
 have Vd:S p=none:=by rw[ae dr]at hp;exact hp
 exact{_,DB Vd hl dr,q A p an Vd}
theorem vY(T:Txt w K mg t)(B:Bm mg base):Ok P w base T.nE 13 (Qr t Qt):=by
 refine T.nE.F.b_ vk ?_;rintro _ _ _ _ _ _ _ S R Z hr ⟨a,cs,ps,wy,d,m,n,b,rows,e0,hg,ho,hd,h1,h2,hb,hv,hk,ht,q⟩;subst e0;obtain⟨F,dl,rs,hS,hn,Rm,Nf⟩:=hv.sh;obtain⟨ld,lr,ra,h,_⟩:=id hS;refine{_,(sc (se<|aH T.ic (ku T) hr<|ac (lX (dv 0) T.ak T.aE (bc T) hr)<|ac (dv 1)<|ac (dv 2)<|ac (dv 3)<|ac (dv 4) an)<|s1<|sr<|aH T.ib (pH T) hr<|ac (lX (dv 0) T.ak T.aE (bc T) hr)<|ac (dv 1)<|ac (aH T.cz (dm T B) hr<|ac (dv 0)<|ac (dv 1)<|ac (dv 2)<|ac (dv 5) an)<|ac (dv 3)<|ac (dv 4) an),?_};refine !{a,_,rfl,h.ins,rfl,a,F,cs,dl,rs,rfl,hS,_,rfl,_,rfl,_,rfl,_,rfl,cs,ps,wy,d,n,b,rfl,hg,ho,hd,by omega,by omega,hb,?_};refine !{a,_,rfl,h.ins,rfl,a,F,cs,dl,rs,rfl,hS,_,rfl,_,rfl,_,rfl,_,rfl,_,rfl,a,cs,ps,wy,d,m,rows,rfl,hg,ho,hd,hv,ht,λA l pm pw hl=>?_};have an:=BR hv.rg hk pm pw;refine !!{cs,ps,wy,l,A,n,b,rfl,hg,ho.pin,ho.len,aa,an.an,hb,λp hp=>?_};have dr:p≠l:=λe=>by rw[e,aa]at hp;cases hp
 have Vd:S p=none:=by rw[ae dr]at hp;exact hp
 exact{_,DB Vd hl dr,q A p an Vd}
structure Qs(t:iL)(S:aw)(a:Addr)(cs:List (Str×Str))(ps:List Part)(wy:Str)(d m:D)(rows:List Row):Prop where
 g:Gd cs
 o:Og cs ps wy
 s:Sq cs d
 v:Vw t.aj S a cs m rows
 k:I0 rows
 t:Tb t S
section
variable{t:iL}{S:aw}{a:Addr}{cs:List (Str×Str)}{ps:List Part}{wy:Str}{d m:D}{rows:List Row}(hq:Qs t S a cs ps wy d m rows)
include hq
end
theorem LX(hr:Rg cs rows)(hk:I0 rows):∀d∈rows.map ai,Ly S 60 d:=λd hd=>by obtain⟨r,h,rfl⟩:=zf.mp hd;exact Qn (hk r h)<|hr.1 r h
noncomputable def Wx(cs:List<|Str×Str)(ps:List Part)(sd:Str)(r:Row):um:=(ps.map λp=>ao cs r.2 p.1,r.1,sd)
theorem Qu{cs:List<|Str×Str}(hg:Gd cs){ps:List Part}(hp:Pin cs ps){r:Row}(hw:Wg cs r.2)(hk:r.1∈KS){sd:Str}(hs:Dx sd=true):Gp cs ps (Wx cs ps sd r):={BN hg hp hw,hk,hs}
inductive uq (ds:List D) (S:aw) (R:KD) (Z:KX):Prop where
 |mk (cs:List<|Str×Str) (ps:List Part) (wy:Str) (p:Addr) (rows:List Row) (b c:Nat) (h0:ds=[.tup<|cs.map aA,cG ps wy,JD p b c]) (h1:Gd cs) (h2:Pin cs ps) (h3:ps.length<=8) (h4:S p=some (.lst<|rows.map ai)) (h5:(∀r∈rows,Wg cs r.2)) (h6:(rows=[]->R .ax S)) (h7:∀r0 r1,rows[0]?=some r0->rows[rows.length-1]?=some r1->R (.tup [vV<|Wx cs ps "ahead" r0,vV<|Wx cs ps "behind" r1]) S):uq ds S R Z
theorem BU(T:Txt w K mg t):Ok P w base T.u5 4 uq:=by
 refine T.u5.F.b_ qU ?_;rintro _ _ _ _ _ _ _ S R Z hr ⟨cs,ps,wy,p,rows,b,c,e0,hg,hp,h8,hS,hw,q1,q2⟩;subst e0;refine{_,(sc (cC (i:=3) qU.nd<|ix hr.u (dv 2) di)<|sc (si (bq bH hr.u (cb aZ T.aV aI<|ac (dv 3) an) di) (s1<|sr dn) s0)<|s1<|sr<|bw<|ac (bw<|ac (aH T.gF (fU T) hr<|ac (dv 0)<|ac (dv 1)<|ac (ix hr.u (dv 3) di) an)<|ac ds an)<|ac (bw<|ac (aH T.gF (fU T) hr<|ac (dv 0)<|ac (dv 1)<|ac (ix hr.u (dv 3)<|OZ di) an)<|ac ds an) an),?_};refine !!!!⟨.inl {_,hS,_,rfl,?_}⟩;rw[zb];refine bP (λh=>?_) λh=>?_;have h:((rows.length:Nat):Int)=0:=zB h;exact fo<|q1<|List.length_eq_zero_iff.mp (by lia);have h:¬((rows.length:Nat):Int)=0:=zP h;have h0:0<rows.length:=by lia
 have hl:rows.length-1<rows.length:=by lia
 have e0:=zj h0;have e1:=zj hl;generalize rows[0]=r0 at e0;generalize rows[rows.length-1]=r1 at e1;have w0:=hw r0<|zG e0;have w1:=hw r1<|zG e1;have ea:tJ (rows.map ai) (-1)=some (ai r1):=by unfold tJ Gw;rw[zb,if_neg<|by decide,if_pos<|by lia,show((-1:Int)+((rows.length:Nat):Int)).toNat=rows.length-1 by lia];show(rows.map ai)[rows.length-1]?=_;rw[zw,e1];rfl
 refine !!!{_,ai r0,hS,jB (j:=0)<|by rw[zw,e0];rfl,cs,ps,wy,r0,rfl,hg,hp,h8,w0,bI,?_};refine !!!!{_,ai r1,hS,ea,cs,ps,wy,r1,rfl,hg,hp,h8,w1,bI,bI,?_};exact fo<|q2 r0 r1 e0 e1
inductive DC (ds:List D) (S:aw) (R:KD) (Z:KX):Prop where
 |mk (l cs ps wy) (h0:ds=[.ref l,.tup<|cs.map aA,cG ps wy]) (h1:Gd cs) (h2:Og cs ps wy) (h3:S l=some .well) (h4:∀g,Gp cs ps g->R (vV g) S):DC ds S R Z
theorem LY(T:Txt w K mg t):Ok P w base T.HZ 4 DC:=by
 refine T.HZ.F.b_ qW ?_;rintro _ _ _ _ _ _ _ S R Z hr ⟨l,cs,ps,wy,e,hg,ho,hw,q⟩;subst e;have h8:=ho.len;refine{_,(sc (cC (i:=3) qW.nd<|ct Hj T.HU Ct<|ac (dv 1) an)<|sc (cC (i:=4) qW.nd<|ct fH T.bt aW<|ac (sI (N:=["_law_part","_law_well_here","_law_kinds"]) (src:=[none,some 0,some 3]) (j7 (ag Lk) ["_law_well_here","_law_columns_here","_law_order_here","_law_kinds","_law_values"] rfl rfl<|by trivial) (Jt<|ix hr.u (dv 2) di) (pj<|show(["_law_part","_law_well_here","_law_kinds"]:List Str).Nodup by trivial) (aR rfl) aT (λ_ _ _ _ _=>sH) λ_ _ _ _ _=>(aH T.mh (rm T) hr<|ac (dv 1)<|ac (ix hr.u (dv 2)<|ix hr.u (dv 0) di) an)) an)<|s1<|sr<|bw<|ac (bw<|ac (dv 4)<|ac (aH T.xC (BC T) hr<|ac (dv 0) an) an)<|ac (uM<|ix hr.u (cK<|ac ds<|ac ds an)<|aH T.aB (aP T) hr<|ac (dv 0)<|ac di an) an),?_};have ek:cs.map aA=(cs.map λc=>(c.1,D.str c.2)).map CD:=by rw[zD];rfl
 refine !{(cs.map λc=>(c.1,D.str c.2)),by rw[ek],λpd Zy=>?_};have g1:=Sub.new (c:=.cU<|f_<|cs.map λc=>(c.1,D.str c.2)) Zy;have s1:(S.set pd<|.cU<|f_<|cs.map λc=>(c.1,D.str c.2)) pd=some (.cU<|f_<|cs.map λc=>(c.1,D.str c.2)):=aa;generalize S.set pd (.cU<|f_<|cs.map λc=>(c.1,D.str c.2))=S1 at g1 s1⊢;refine !!{_,.inl rfl,?_};refine fq (λd v=>∃z w e,d=.tup [.str z,.str w,.str e]/\Vg (Ab cs z) v) trivial (by show(ps.map p3).length<=_;rw[zb];lia) (λd hd Q hQ=>?_) λout ES p sW=>?_;obtain⟨pt,LW,rfl⟩:=zf.mp hd;obtain⟨c,hc,ec⟩:=ho.pin pt LW;have h1:=t5 (cs.map λc=>(c.1,D.str c.2)) pt.1;rw[show(cs.map λc=>(c.1,D.str c.2)).any (λq=>decide<|q.1=pt.1)=true from ym.mpr {_,zf.mpr ⟨c,hc,rfl⟩,zx ec}]at h1;cases q3:bT (f_<|cs.map λc=>(c.1,D.str c.2)) (.inr pt.1) with|none=>(rw[q3]at h1;cases h1)|some d=>obtain⟨p',Rf,e1,rfl⟩:=mD _ _ q3;obtain⟨c',FO,rfl⟩:=zf.mp Rf;have e1:c'.1=pt.1:=e1;have Zk:Ab cs pt.1=c'.2:=(by unfold Ab;rw[<-e1,(rF hg FO).1];rfl);refine !!!!{_,_,s1,q3,l,_,rfl,⟨c'.2,rfl⟩,g1 _ _ hw,λv hv=>?_};obtain⟨k,ek,hv⟩:=hv;cases ek;exact hQ v {_,_,_,rfl,by rw[Zk];exact hv}
 have hv:Paired (λk x=>Vg k x) (ps.map λp=>Ab cs p.1) out:=by have:∀{ps:List Part}{out:List D},Paired (λd v=>∃z w e,d=D.tup [.str z,.str w,.str e]/\Vg (Ab cs z) v) (ps.map p3) out->Paired (λk x=>Vg k x) (ps.map λp=>Ab cs p.1) out:=(by intro ps;induction ps with|nil=>(intro out h;cases h;exact .nil)|cons x ps ih=>intro out h;cases h with|cons r t=>obtain⟨z,w,e,e1,hv⟩:=r;injection e1 with e1;injection e1 with e1 _;injection e1 with e1;refine .cons ?_<|ih t;show Vg (Ab cs x.1) _;rw[show x.1=z from e1];exact hv);exact this ES
 refine{_,_,rfl,.inl aa,?_};have g2:=g1.trans<|Sub.new (c:=.lst out) sW;generalize S1.set p (.lst out)=S2 at g2⊢;refine !!{l,_,rfl,rfl,g2 _ _ hw,λd ⟨z,hz,e⟩=>?_};subst e;refine{bI,bI,λp hp=>!{l,_,rfl,(by decide),(by decide),wl (g2 _ _ hw) hp,λn h0 h1=>bK h0 h1 hp λd hd=>?_}};obtain⟨sd,rfl,JB⟩:∃sd:Str,d=.str sd/\Dx sd=true:=by have hd:d∈[D.str "ahead",.str "behind"]:=hd;simp only[zh,zI,or_false]at hd;rcases hd with h|h;exact{_,h,by trivial};exact{_,h,by trivial}
 exact{bI,S,g2,q (out,z,sd) {hv,Ij hz,JB}}
noncomputable def rQ:D->PyData|.int i=>.int i|.str z=>.str z|_=>.none
theorem Qv(hx:bu x=true):Dp S x (rQ x)/\(rQ x).canLay0=true/\(rQ x).depth<=0:=by cases x with|ax=>exact{by simp only[Dp,rQ],by simp only[rQ,PyData.canLay0],by simp only[rQ,PyData.depth];lia}|int i=>exact{by simp only[Dp,rQ],by simp only[rQ,PyData.canLay0],by simp only[rQ,PyData.depth];lia}|str z=>refine{by simp only[Dp,rQ],?_,by simp only[rQ,PyData.depth];lia};unfold bu at hx;simp only[zK]at hx;simp only[rQ,PyData.canLay0];exact hx.2|_=>cases hx
theorem vZ:∀{xs:List D},(∀x∈xs,bu x=true)->DpAll S xs (xs.map rQ)/\PyData.canLayAll0 (xs.map rQ)=true/\PyData.depthAll (xs.map rQ)<=0|[],_=>{by simp only[yO,DpAll],rfl,zZ _}|x::xs,h=>by obtain⟨a,b,c⟩:=Qv (S:=S)<|h x zi;obtain⟨a',b',c'⟩:=vZ (S:=S) λy hy=>h y<|ze _ hy;exact{by simp only[zq,DpAll];exact{_,_,rfl,a,a'},by simp only[zq,PyData.canLayAll0,b,b',Bool.and_self],by simp only[zq,PyData.depthAll];lia}
noncomputable def BV(r:Row):PyData:=.tuple [.str r.1,.tuple<|r.2.map rQ]
theorem I_(hw:Wg cs r.2):Dr S (ai r) (BV r):=by refine .tup<|.cons (.str _)<|.cons (.tup ?_) .nil;have h:=Wg.all hw;generalize r.2=ws at h;induction ws with|nil=>exact .nil|cons v ws ih=>refine .cons ?_<|ih λd hd=>h d<|ze _ hd;have hv:=h v zi;cases v<;>first|exact .ax|exact .int _|exact .str _|cases hv
theorem DD:∀{rows:List Row},(∀r∈rows,Wg cs r.2)->FY S (rows.map ai) (rows.map BV)|[],_=>.nil|r::rows,h=>.cons (I_<|h r zi)<|DD λx hx=>h x<|ze _ hx
theorem pV(hw:Wg cs r.2)(hk:r.1∈KS):(BV r).canLay0=true/\(BV r).depth<=2:=by obtain⟨_,b,c⟩:=vZ (S:=λ_=>none)<|Wg.all hw;have z:=(iq _ hk).2.2;unfold BV;refine{by simp only[PyData.canLay0,PyData.canLayAll0,z,b,Bool.and_self],?_};simp only[PyData.depth,PyData.depthAll];lia
theorem yZ:∀{rows:List Row},(∀r∈rows,Wg cs r.2)->I0 rows->PyData.canLayAll0 (rows.map BV)=true/\PyData.depthAll (rows.map BV)<=2|[],_,_=>{rfl,zZ _}|r::rows,h,k=>by obtain⟨a,b⟩:=pV (h r zi)<|k r zi;obtain⟨a',b'⟩:=yZ (λx hx=>h x<|ze _ hx) λx hx=>k x<|ze _ hx;exact{by simp only[zq,PyData.canLayAll0,a,a',Bool.and_self],by simp only[zq,PyData.depthAll];lia}
theorem mQ(h:r∈seg A b e):r∈A:=List.mem_of_mem_drop<|List.mem_of_mem_take h
noncomputable def Wy(A:List Row)(b e:Nat):PyData:=.tuple [.list<|(seg A b e).map BV,.int (b:Nat),.int<|(A.length-e:Nat)]
theorem DF(hw:∀r∈A,Wg cs r.2)(h:S p=some (.lst<|(seg A b e).map ai)):Dr S (JD p b<|A.length-e) (Wy A b e):=.tup<|.cons (.ref h<|DD λr hr=>hw r<|mQ hr)<|.cons (.int _)<|.cons (.int _) .nil
theorem Qw(hw:∀r∈A,Wg cs r.2)(hk:I0 A):(Wy A b e).canLay0=true/\(Wy A b e).depth<=4:=by obtain⟨a,c⟩:=yZ (rows:=seg A b e) (λr hr=>hw r<|mQ hr) λr hr=>hk r<|mQ hr;unfold Wy;refine{by simp only[PyData.canLay0,PyData.canLayAll0,a,Bool.and_self],?_};simp only[PyData.depth,PyData.depthAll];lia
noncomputable def BW:List D->List D->Bool|[],[]=>true|x::xs,y::ys=>k9 x y&&BW xs ys|_,_=>false
theorem v5:∀{xs ys:List D},(∀x∈xs,bu x=true)->(∀x∈ys,bu x=true)->(BW xs ys=true↔xs=ys)|[],[],_,_=>by simp[BW]|[],_::_,_,_=>by simp[BW]|_::_,[],_,_=>by simp[BW]|x::xs,y::ys,h,k=>by unfold BW;rw[zK,cF (h x zi)<|k y zi,v5 (λz hz=>h z<|ze _ hz) λz hz=>k z<|ze _ hz,List.cons.injEq]
theorem Qx(hx:bu x=true)(hy:bu y=true):PyData.eqv (rQ x) (rQ y)=k9 x y:=by cases x<;>cases y<;>first|(cases hx;done)|(cases hy;done)|(simp only[rQ,PyData.eqv,k9];done)|(simp only[rQ,PyData.eqv,k9];rfl)|(simp only[rQ,PyData.eqv,k9];exact beq_eq_decide _ _)
theorem DH:∀{xs ys:List D},(∀x∈xs,bu x=true)->(∀x∈ys,bu x=true)->PyData.eqvAll (xs.map rQ) (ys.map rQ)=BW xs ys|[],[],_,_=>by simp only[yO,PyData.eqvAll,BW]|[],y::ys,_,_=>by simp only[yO,zq,PyData.eqvAll,BW]|x::xs,[],_,_=>by simp only[yO,zq,PyData.eqvAll,BW]|x::xs,y::ys,h,k=>by have a:=Qx (h x zi)<|k y zi;have b:=DH (λz hz=>h z<|ze _ hz) λz hz=>k z<|ze _ hz;simp only[zq,PyData.eqvAll,a,b,BW]
def Ld(S:aw)(n:Nat)(d:D):Prop:=∃p,Dr S d p/\p.canLay0=true/\p.depth<=n
theorem Ld.all:∀{ds:List D},(∀d∈ds,Ld S n d)->∃ps,FY S ds ps/\PyData.canLayAll0 ps=true/\PyData.depthAll ps<=n/\ps.length=ds.length|[],_=>{[],.nil,rfl,zZ _,rfl}|d::ds,h=>by obtain⟨p,a,b,c⟩:=h d zi;obtain⟨ps,a',b',c',e⟩:=Ld.all λx hx=>h x<|ze _ hx;exact{p::ps,.cons a a',by simp only[PyData.canLayAll0,b,b',Bool.and_self],by simp only[PyData.depthAll];lia,by rw[zJ,zJ,e]}
theorem Ld.ref{S:aw}{n:Nat}{a:Addr}{ds:List D}(e:S a=some (.lst ds))(h:∀d∈ds,Ld S n d):Ld S (n+1) (.ref a):=by obtain⟨ps,a,b,c,_⟩:=Ld.all h;exact{.list ps,.ref e a,by simp only[PyData.canLay0];exact b,by simp only[PyData.depth];lia}
theorem DJ{S:aw}{a b:Addr}{ds:List D}{R:KD}{n:Nat}(e1:S a=some (.lst ds))(e2:S b=some (.lst []))(h:∀d∈ds,Ld S n d){neg:Bool}(q:R (.bl<|if neg then !ds.isEmpty else ds.isEmpty) S):Wd neg (.ref a) (.ref b) S R:=by obtain⟨ps,k1,k2,k3,k4⟩:=Ld.all h;refine{.list ps,.list [],.ref e1 k1,.ref e2 .nil,by simp only[PyData.canLay0];exact k2,by simp only[PyData.canLay0,PyData.canLayAll0],.inr<|by simp only[PyData.depth,PyData.depthAll];lia,?_};rw[xW,show ps.isEmpty=ds.isEmpty by cases ps<;>cases ds<;>first|rfl|cases k4];exact q
theorem rw_eqv(hr:∀x∈r.2,bu x=true)(hs:∀x∈s.2,bu x=true):PyData.eqv (BV r) (BV s)=(decide (r.1=s.1)&&BW r.2 s.2):=by have h:=DH hr hs;simp only[BV,PyData.eqv,PyData.eqvAll,h,Bool.and_true];congr 1
noncomputable def rR(r:Row):D->Bool|.tup [.str k,.tup ws]=>decide (k=r.1)&&BW ws r.2|_=>false
noncomputable def jz(A:List Row)(r:Row):Bool:=(A.map ai).any<|rR r
theorem DK(hA:∀x∈A,Wg cs x.2)(hr:Wg cs r.2):jz A r=true↔r∈A:=by unfold jz;rw[List.any_map,ym];constructor;rintro⟨x,hx,e⟩;have e:(decide (x.1=r.1)&&BW x.2 r.2)=true:=e;rw[zK,zX,v5 (hA x hx).all hr.all]at e;rw[<-Prod.ext e.1 e.2];exact hx;intro h;refine{r,h,?_};show(decide (r.1=r.1)&&BW r.2 r.2)=true;rw[zx rfl,(v5 hr.all hr.all).mpr rfl];rfl
theorem Ja(h:∀x∈r.2,bu x=true):Dl S (ai r) (BV r):=by obtain⟨a,_,_⟩:=vZ (S:=S) h;simp only[ai,BV,Dl,Dp,DpAll];exact !{_,_,rfl,rfl,_,_,rfl,!⟨a⟩,rfl}
theorem n_{cs:List<|Str×Str}{S:aw}{r:Row}{A:List Row}(hr:Wg cs r.2)(hk:r.1∈KS)(hA:∀x∈A,Wg cs x.2)(hK:I0 A):Each S (ai r) (A.map ai) (rR r):=by obtain⟨l1,l2⟩:=pV hr hk;refine{BV r,Ja hr.all,l1,λd hd=>?_};obtain⟨x,hx,rfl⟩:=zf.mp hd;obtain⟨m1,m2⟩:=pV (hA x hx)<|hK x hx;exact{BV x,Ja (hA x hx).all,m1,.inl<|by lia,rw_eqv (hA x hx).all hr.all}
theorem LZ{cs:List<|Str×Str}{S:aw}{A:List Row}{a:Addr}(e:S a=some (.lst<|A.map ai))(hA:∀x∈A,Wg cs x.2)(hK:I0 A):Ld S 3 (.ref a):=by refine Ld.ref e λd hd=>?_;obtain⟨x,hx,rfl⟩:=zf.mp hd;exact{_,I_<|hA x hx,pV (hA x hx)<|hK x hx}
abbrev BX:=List<|Addr×List Row
def FE(cs:List<|Str×Str)(S:aw)(Ls:BX):Prop:=∀x∈Ls,S x.1=some (.lst<|x.2.map ai)/\(∀r∈x.2,Wg cs r.2)/\I0 x.2
theorem FE.sub(h:FE cs S Ls)(b:Sub S S'):FE cs S' Ls:=λx hx=>{b _ _ (h x hx).1,(h x hx).2}
noncomputable def y0(o:Str)(Ls:BX)(r:Row):Bool:=if o ="and" then Ls.all λx=>jz x.2 r else Ls.any λx=>jz x.2 r
noncomputable def DL(o:Str)(Ls:BX):D->Bool|.tup [.str k,.tup ws]=>y0 o Ls (k,ws)|_=>false
noncomputable def anyC(f:D->Bool):Option Ce->Bool|some (.lst ds)=>ds.any f|_=>false
noncomputable def oX(S:aw)(r:Row)(neg:Bool):D->Bool|.ref a=>(if neg then !anyC (rR r) (S a) else anyC (rR r) (S a))|_=>false
theorem rS{S:aw}{r:Row}{neg:Bool}{a:Addr}{A:List Row}(h:S a=some (.lst<|A.map ai)):oX S r neg (.ref a)=if neg then !jz A r else jz A r:=by unfold oX jz;dsimp only;rw[h];rfl
theorem v7{cs:List<|Str×Str}{S:aw}{r:Row}{neg:Bool} : ∀{Ls:BX},FE cs S Ls->(((Ls.map λx=>D.ref x.1).filter<|oX S r neg).map id).isEmpty=Ls.all λx=>if neg then jz x.2 r else !jz x.2 r|[],_=>rfl|x::Ls,h=>by have ih:=v7 (r:=r) (neg:=neg) λy hy=>h y<|ze _ hy;rw[zq,yz,rS (h x zi).1,yH,<-ih];cases neg<;>cases jz x.2 r<;>rfl
theorem DM{α:Type}(f:α->Bool):∀l:List α,(!l.all λx=>!f x)=l.any f|[]=>rfl|x::l=>by rw[yH,yt,<-DM f l,Bool.not_and,Bool.not_not]
inductive rT (ds:List D) (S:aw) (R:KD) (Z:KX):Prop where
 |mk (cs:List<|Str×Str) (o:Str) (ll lr:Addr) (Ls:BX) (A:List Row) (h0:ds=[.str o,.ref ll,.ref lr]) (h1:o ="and"\/o ="or") (h2:S ll=some (.lst<|Ls.map λx=>.ref x.1)) (h3:FE cs S Ls) (h4:Ls.length<=8)
  (h5:S lr=some (.lst<|A.map ai)) (h6:A.length<=100) (h7:∀r∈A,Wg cs r.2) (h8:I0 A) (h9:∀p,S p=none->R (.ref p) (S.set p<|.lst<|(A.filter<|y0 o Ls).map ai)):rT ds S R Z
theorem FF(T:Txt w K mg t):Ok P w base T.qQ 1 rT:=by
 refine T.qQ.F.b_ xK ?_;rintro _ _ _ _ _ _ _ S R Z hr ⟨cs,o,ll,lr,Ls,A,e,ho,F_,FG,h8,qx,h60,hw,hk,q⟩;subst e;refine{_,(sc (si (bq bH hr.u (dv 0) ds) (s1<|sr<|UA (N:=["_law_row","_law_lists"]) (src:=[none,some 1]) (csn (ag hG) ["_law_word_here","_law_lists","_law_rows"] rfl rfl<|by trivial) (il<|dv 2) (UB<|show(["_law_row","_law_lists"]:List Str).Nodup by trivial) (aR rfl) aT (λ_ _ _ _ _=>(if1<|tfo<|bq HB hr.u (sI (N:=["_law_one","_law_row"]) (src:=[none,some 0]) (Uz (ag hG) rfl<|by trivial) (il<|dv 1) (pj<|show(["_law_one","_law_row"]:List Str).Nodup by trivial) (aR rfl) aT (λ_ _ _ _ _=>(if1<|bq HG hr.u (dv 1)<|dv 0)) λ_ _ _ _ _=>(dv 0))<|cK an)) λ_ _ _ _ _=>(dv 0)) s0)<|s1<|sr<|UA (N:=["_law_row","_law_lists"]) (src:=[none,some 1]) (csn (ag hG) ["_law_word_here","_law_lists","_law_rows"] rfl rfl<|by trivial) (il<|dv 2) (UB<|show(["_law_row","_law_lists"]:List Str).Nodup by trivial) (aR rfl) aT (λ_ _ _ _ _=>(if1<|tfo<|bq Ut hr.u (sI (N:=["_law_one","_law_row"]) (src:=[none,some 0]) (Uz (ag hG) rfl<|by trivial) (il<|dv 1) (pj<|show(["_law_one","_law_row"]:List Str).Nodup by trivial) (aR rfl) aT (λ_ _ _ _ _=>(if1<|bq UC hr.u (dv 1)<|dv 0)) λ_ _ _ _ _=>(dv 0))<|cK an)) λ_ _ _ _ _=>(dv 0)),?_};have hz:(A.map ai).length<=1000:=by rw[zb];lia
 have Jy:(Ls.map λx=>D.ref x.1).length<=1000:=by rw[zb];lia
 have fin:∀p,S p=none->Fo (S.set p<|.lst<|((A.map ai).filter<|DL o Ls).map id) (R<|.ref p):=λp hp=>by rw[eQ (f:=DL o Ls) (g:=y0 o Ls) λ_=>rfl];exact fo<|q p hp
 have ldx:∀{neg:Bool}{r:Row}{p2:Addr}{S':aw},Sub S S'->∀d∈((Ls.map λx=>D.ref x.1).filter (oX S r neg)).map id,Ld S' 3 d:=λsb d hd=>by rw[List.map_id]at hd;obtain⟨x,hx,rfl⟩:=zf.mp (zY.mp hd).1;exact LZ (sb _ _ (FG x hx).1) (FG x hx).2.1 (FG x hx).2.2
 refine !!⟨?_⟩;rcases ho with rfl|rfl;refine nZ (by trivial) !{_,qx,?_};refine cg (DL "and" Ls) id qx hz (λd hd Q Q' hQ Bz=>?_) fin;obtain⟨r,gQ,rfl⟩:=zf.mp hd;refine !{_,F_,?_};refine cg (oX S r true) id F_ Jy (λd hd Q2 Q2' Zz Qy=>?_) λp1 vO=>{vp,λp2 lL=>?_};obtain⟨x,hx,rfl⟩:=zf.mp hd;have ek:=rS (r:=r) (neg:=true) (FG x hx).1;refine !!{x.1,_,rR r,rfl,(FG x hx).1,n_ (hw r gQ) (hk r gQ) (FG x hx).2.1 (FG x hx).2.2,_,rfl,?_};exact bP (λh=>!⟨Zz<|ek.trans h⟩) λh=>Qy<|ek.trans h;have sb:=(Sub.new (c:=.lst<|((Ls.map λx=>D.ref x.1).filter<|oX S r true).map id) vO).trans<|.new (c:=.lst []) lL;refine DJ (n:=3) ((ae<|eP aa lL).trans aa) aa (ldx (p2:=p2) sb) !{S,sb,?_};have e:=v7 (r:=r) (neg:=true) FG;refine bP (λh=>!⟨hQ ?_⟩) λh=>Bz ?_;exact e.symm.trans h;exact e.symm.trans h;refine bF (by trivial) !{_,qx,?_};refine cg (DL "or" Ls) id qx hz (λd hd Q Q' hQ Bz=>?_) fin;obtain⟨r,gQ,rfl⟩:=zf.mp hd;refine !{_,F_,?_};refine cg (oX S r false) id F_ Jy (λd hd Q2 Q2' Zz Qy=>?_) λp1 vO=>{vp,λp2 lL=>?_};obtain⟨x,hx,rfl⟩:=zf.mp hd;have ek:=rS (r:=r) (neg:=false) (FG x hx).1;refine !!{x.1,_,rR r,rfl,(FG x hx).1,n_ (hw r gQ) (hk r gQ) (FG x hx).2.1 (FG x hx).2.2,_,rfl,?_};exact bP (λh=>!⟨Zz<|ek.trans h⟩) λh=>Qy<|ek.trans h;have sb:=(Sub.new (c:=.lst<|((Ls.map λx=>D.ref x.1).filter<|oX S r false).map id) vO).trans<|.new (c:=.lst []) lL;refine DJ (n:=3) ((ae<|eP aa lL).trans aa) aa (ldx (p2:=p2) sb) !{S,sb,?_};have e:=(congrArg not<|v7 (r:=r) (neg:=false) FG).trans<|DM (λx:Addr×List Row=>jz x.2 r) Ls;refine bP (λh=>!⟨hQ ?_⟩) λh=>Bz ?_;exact e.symm.trans h;exact e.symm.trans h
theorem Qz(h:b<=A.length):wW (A.map ai) (some ((b:Nat):Int)) (some<|((b:Nat):Int)+((n:Nat):Int))=(seg A b<|Ac A b n).map ai:=by unfold wW seg Ac;rw[show((b:Nat):Int)+((n:Nat):Int)=((b+n:Nat):Int) by lia,HT.sIx_nat,HT.sIx_nat,zb,Nat.min_eq_left h,List.map_take,List.map_drop]
noncomputable def Ve(on:Bool)(cs:List<|Str×Str)(ps:List Part)(wy:Str)(A:List Row)(g:Option um)(n:Nat):Nat×Nat:=if on then I9 cs ps wy A g n else Qt cs ps wy A g n
noncomputable def Nm(cs:List<|Str×Str)(ps:List Part)(wy:Str)(g:um):D->Bool|.tup [.str k,.tup ws]=>gP cs ps wy g (k,ws)|_=>false
inductive jA (ds:List D) (S:aw) (R:KD) (Z:KX):Prop where
 |mk (cs:List<|Str×Str) (ps:List Part) (wy:Str) (lr lp:Addr) (A:List Row) (n:Nat) (g:Option um) (on:Bool) (pr:Nat×Nat) (h0:ds=[.tup<|cs.map aA,cG ps wy,.ref lr,JD lp pr.1<|A.length-pr.2,.int (n:Nat),Dw g,.bl on]) (hpr:pr=Ve on cs ps wy A g n) (h1:Gd cs) (h2:Og cs ps wy) (h3:S lr=some (.lst<|A.map ai)) (h4:An cs ps wy A) (h5:A.length<=100) (h6:Bg cs ps g)
  (h7:S lp=some (.lst<|(seg A pr.1 pr.2).map ai)) (h8:R (.bl true) S):jA ds S R Z
theorem kz(T:Txt w K mg t):Ok P w base T.eK 5 jA:=by
 refine T.eK.F.b_ b0 ?_;rintro _ _ _ _ _ _ _ S R Z hr ⟨cs,ps,wy,lr,lp,A,n,g,on,pr,e,rfl,hg,ho,qx,hA,h60,hb,LO,q⟩;subst e;have ml:∀l:List Row,(l.map ai).length=l.length:=λl=>zb _;have hz:(A.map ai).length<=1000:=by rw[ml];lia
 have h8:=ho.len;refine{_,(sc (cC (i:=7) b0.nd<|bo lS hr.u (cb aZ T.aV aI<|ac (dv 2) an)<|ct MF T.HS AD<|ac (OY<|dv 6) an)<|sc (A4<|si (bq kF hr.u (dv 5) dn) (s1<|cC (i:=7) b0.nd<|cb aZ T.aV aI<|ac (sI (N:=["_law_row","_law_order_here","_law_gap_here","_law_columns_here"]) (src:=[none,some 1,some 5,some 0]) (j7 (ag qE) ["_law_columns_here","_law_order_here","_law_rows","_law_found","_law_size","_law_gap_here","_law_is_on","_law_ahead","_law_told"] rfl rfl<|by trivial) (il<|dv 2) (pj<|show(["_law_row","_law_order_here","_law_gap_here","_law_columns_here"]:List Str).Nodup by trivial) (aR rfl) aT (λ_ _ _ _ _=>(if1<|tv<|aH T.mf (oV T) hr<|ac (dv 1)<|ac (aH T.gF (fU T) hr<|ac (dv 3)<|ac (dv 1)<|ac (dv 0) an)<|ac (dv 2) an)) λ_ _ _ _ _=>(dv 0)) an) s0)<|sc (si (tv<|dv 6) (sc (cC (i:=8) b0.nd<|YY (dv 2) (o1<|dv 7)<|o1<|bo cw hr.u (dv 7)<|dv 4)<|s1<|sr<|cm HB hr.u (dv 3)<|bw<|ac (dv 8)<|ac (dv 7)<|ac (bo eV hr.u (bo eV hr.u (cb aZ T.aV aI<|ac (dv 2) an)<|dv 7)<|cb aZ T.aV aI<|ac (dv 8) an) an) s0)<|sc (cC (i:=8) b0.nd<|YY (dv 2) (o1<|cb MG T.M4 HA<|ac di<|ac (bo eV hr.u (dv 7)<|dv 4) an)<|o1<|dv 7)<|s1<|sr<|cm HB hr.u (dv 3)<|bw<|ac (dv 8)<|ac (bo eV hr.u (dv 7)<|cb aZ T.aV aI<|ac (dv 8) an)<|ac (bo eV hr.u (cb aZ T.aV aI<|ac (dv 2) an)<|dv 7) an),?_};have e0:((A.map ai).length:Int)*(if (!on)=true then 1 else 0)=((if on then 0 else A.length:Nat):Int):=by rw[ml];cases on<;>simp
 refine !!⟨.inl {_,qx,_,rfl,_,rfl,.inr !{?_,?_}}⟩;cases on;exact .inr {by decide,by decide};exact .inr {by decide,by decide};rw[e0];generalize ZA:(if on then 0 else A.length:Nat)=a0;have ZC:a0<=A.length:=by rw[<-ZA];cases on<;>simp
 have dr:=Qp (cs:=cs) (ps:=ps) (wy:=wy) ZC g;refine{λaJ S'=>aJ=[some<|.tup<|cs.map aA,some<|cG ps wy,some<|.ref lr,some<|JD lp (Ve on cs ps wy A g n).1<|A.length-(Ve on cs ps wy A g n).2,some<|.int (n:Nat),some<|Dw g,some<|.bl on,some<|.int (pU cs ps wy A a0 g:Nat),none]/\Sub S S',?_,?_};cases g with|none=>exact (!!⟨bF rfl<|fo {rfl,.refl _}⟩)|some g=>have hgp:=hb g rfl;refine !!⟨nZ rfl !{_,qx,?_}⟩;refine cg (Nm cs ps wy g) id qx hz (λd hd Q Q' hQ Bz=>?_) λp hp=>?_;obtain⟨r,gQ,rfl⟩:=zf.mp hd;exact !!!!{cs,ps,wy,r,rfl,hg,ho.pin,h8,hA.rg.1 r gQ,_,rfl,cs,ps,wy,r,g,rfl,hg,ho.pin,hA.rg.1 r gQ,hA.ky r gQ,hgp,_,rfl,bP (λh=>!⟨hQ h⟩) λh=>Bz h};rw[eQ (f:=Nm cs ps wy g) (g:=gP cs ps wy g) λ_=>rfl];refine{_,rfl,.inl {_,aa,?_}};rw[ml,<-List.countP_eq_length_filter];exact fo {rfl,.new hp}
 rintro aJ S' ⟨rfl,sb⟩;have L3:=sb _ _ qx;have ade:=sb _ _ LO;obtain⟨l1,l2⟩:=Qw (A:=A) (b:=(Ve on cs ps wy A g n).1) (e:=(Ve on cs ps wy A g n).2) hA.rg.1 hA.ky;refine !!⟨?_⟩;cases on with|true=>(obtain rfl:a0=0:=ZA.symm;refine nZ rfl !!!!!!{_,L3,λpt LW=>?_};rw[Qz dr];have s2:=sb.trans<|Sub.new (c:=.lst<|(seg A (pU cs ps wy A 0 g)<|Ac A (pU cs ps wy A 0 g) n).map ai) LW;refine !!!!!⟨.inl {_,(Sub.new LW) _ _ L3,_,rfl,_,rfl,_,rfl,.inl {_,aa,mq,?_}}⟩;have e1:(((A.map ai).length:Nat):Int)-((pU cs ps wy A 0 g:Nat):Int)-((((seg A (pU cs ps wy A 0 g)<|Ac A (pU cs ps wy A 0 g) n).map ai).length:Nat):Int)=((A.length-Ac A (pU cs ps wy A 0 g) n:Nat):Int):=(by rw[ml,ml,Dy (by unfold Ac;lia)<|by unfold Ac;lia];unfold Ac;lia);rw[e1];exact xm (DF hA.rg.1<|s2 _ _ LO) (DF hA.rg.1 aa) l1 (by lia) ⟨S,s2,q⟩)|false=>obtain rfl:a0=A.length:=ZA.symm;refine bF rfl !!!⟨{_,_,rfl,_,rfl,_,rfl,_,rfl,_,L3,λpt LW=>?_}⟩;have e1:(if (λa b:Int=>decide<|b<a) (((pU cs ps wy A A.length g:Nat):Int)-((n:Nat):Int)) 0=true then ((pU cs ps wy A A.length g:Nat):Int)-((n:Nat):Int) else 0)=((pU cs ps wy A A.length g-n:Nat):Int):=(by by_cases h:(0:Int)<((pU cs ps wy A A.length g:Nat):Int)-((n:Nat):Int);exact(if_pos<|zx h).trans (by lia);exact(if_neg<|show ¬decide _=true by rw[zy h];exact zd).trans<|by lia);rw[e1,Dz (Nat.sub_le _ _) dr];have s2:=sb.trans<|Sub.new (c:=.lst<|(seg A (pU cs ps wy A A.length g-n)<|pU cs ps wy A A.length g).map ai) LW;refine !!!!!⟨.inl {_,aa,_,rfl,_,rfl,.inl {_,(Sub.new LW) _ _ L3,_,rfl,mq,?_}}⟩;have e2:((pU cs ps wy A A.length g:Nat):Int)-((((seg A (pU cs ps wy A A.length g-n)<|pU cs ps wy A A.length g).map ai).length:Nat):Int)=((pU cs ps wy A A.length g-n:Nat):Int):=(by rw[ml,Dy (Nat.sub_le _ _) dr];lia);have e3:(((A.map ai).length:Nat):Int)-((pU cs ps wy A A.length g:Nat):Int)=((A.length-pU cs ps wy A A.length g:Nat):Int):=(by rw[ml];lia);rw[e2,e3];exact xm (DF hA.rg.1<|s2 _ _ LO) (DF hA.rg.1 aa) l1 (by lia) ⟨S,s2,q⟩
theorem Sg.up:∀{n:Nat}{d:D},Sg cs n d->Sg cs (n+1) d|0,_,h=>h.elim|n+1,d,h=>by rcases h with h|⟨e,h1,h2⟩|⟨o,ds,h1,h2,h3,h4⟩;exact .inl h;exact .inr<|.inl ⟨e,h1,h2.up⟩;exact .inr<|.inr {o,ds,h1,h2,h3,λe he=>(h4 e he).up}
theorem mR{α:Type}{f g:α->Bool}{l:List α}(h:∀x∈l,f x=g x):l.all f=l.all g/\l.any f=l.any g:=by induction l with|nil=>exact⟨rfl,rfl⟩|cons x l ih=>obtain⟨a,b⟩:=ih λy hy=>h y<|ze _ hy;rw[yH,yH,yt,yt,h x zi,a,b];exact⟨rfl,rfl⟩
theorem v8{cs:List<|Str×Str}{r:Row} : ∀{n:Nat}{d:D},Sg cs n d->aF cs r (n+1) d=aF cs r n d|0,_,h=>h.elim|n+1,d,h=>by rcases h with (rfl|⟨ks,rfl,_⟩|⟨o,c,v,_,_,_,rfl⟩)|⟨e,rfl,h2⟩|⟨o,ds,h1,rfl,h3,h4⟩;rfl;rw[rG,rG];rfl;rw[gO,gO,v8 h2];obtain⟨a,b⟩:=mR λe he=>v8 (r:=r)<|h4 e he;rcases h1 with rfl|rfl;rw[ju,ju];exact a;rw[mG,mG];exact b
theorem Nn:∀{n:Nat}{d:D},Sg cs n d->iG (n+1) d=iG n d|0,_,h=>h.elim|n+1,d,h=>by show((mF d).map<|iG<|n+1).sum+1=((mF d).map<|iG n).sum+1;rw[zW λf hf=>Nn<|IA h f hf]
theorem Sg.more(h:Sg cs n d):∀k,Sg cs (n+k) d/\iG (n+k) d=iG n d/\∀r,aF cs r (n+k) d=aF cs r n d|0=>{h,rfl,λ_=>rfl}|k+1=>by obtain⟨a,b,c⟩:=h.more k;exact{a.up,(Nn a).trans b,λr=>(v8 a).trans<|c r}
noncomputable abbrev bX(o:Str)(es:List D):D:=.tup [.str o,.tup es]
noncomputable abbrev lC(d:D):D:=.tup [.str "not",d]
noncomputable abbrev ZD(v o:D):D:=.tup [.str "or",.tup [.tup [.str "and",.tup [v,o]],.tup [.str "not",o],.tup [.str "and",.tup [v,v]]]]
structure DN(cs:List (Str×Str))(o:Str)(es:List D):Prop where
 w:o ="and"\/o ="or"
 l:es.length<=3
 s:∀e∈es,Sg cs 3 e/\iG 3 e<=9
theorem Jb:∀{l:List D},(∀e∈l,f e<=k)->(l.map f).sum<=k*l.length|[],_=>zZ _|e::l,h=>by have h1:=h e zi;have ih:=Jb λx hx=>h x<|ze _ hx;rw[zq,List.sum_cons,zJ,Nat.mul_succ];lia
section
variable{cs:List (Str×Str)}{o:Str}{es:List D}(h:DN cs o es)
include h
theorem DN.one{e:D}(he:e∈es):Sq cs e/\∀r,aF cs r 6 e=aF cs r 7 e:=by obtain⟨a,b,c⟩:=(h.s e he).1.more 4;have:=(h.s e he).2;exact{{a,by rw[b];lia},λr=>(((h.s e he).1.more 3).2.2 r).trans (c r).symm}
theorem DN.sg:Sg cs 4 (bX o es)/\iG 4 (bX o es)<=28:=by refine{.inr<|.inr {o,es,h.w,rfl,by have:=h.l;lia,λe he=>(h.s e he).1},?_};have:=Jb λe he=>(h.s e he).2;have:=h.l;rw[mL h.w];lia
theorem DN.sq:Sq cs (bX o es):=by obtain⟨a,b,_⟩:=h.sg.1.more 3;have:=h.sg.2;exact{a,by rw[b];lia}
theorem DN.nt:Sg cs 5 (lC<|bX o es)/\iG 5 (lC<|bX o es)<=29:={.inr<|.inl !⟨h.sg.1⟩,by have:=h.sg.2;rw[BI];lia}
theorem DN.nq:Sq cs (lC<|bX o es):=by obtain⟨a,b,_⟩:=h.nt.1.more 2;have:=h.nt.2;exact{a,by rw[b];lia}
theorem DN.ns:Sq cs (ZD (bX o es)<|lC<|bX o es):=by obtain⟨a1,a2,_⟩:=h.sg.1.more 1;have b1:=h.nt.1;have z1:=h.sg.2;have z2:=h.nt.2;have k1:Sg cs 6 (.tup [.str "and",.tup [bX o es,lC<|bX o es]]):=.inr<|.inr {_,_,.inl rfl,rfl,by simp,λe he=>by simp only[zh,zI,or_false]at he;rcases he with rfl|rfl;exact a1;exact b1};have k2:Sg cs 6 (.tup [.str "and",.tup [bX o es,bX o es]]):=.inr<|.inr {_,_,.inl rfl,rfl,by simp,λe he=>by simp only[zh,zI,or_false]at he;rcases he with rfl|rfl<;>exact a1};refine{.inr<|.inr {_,_,.inr rfl,rfl,by simp,λe he=>?_},?_};simp only[zh,zI,or_false]at he;rcases he with rfl|rfl|rfl;exact k1;exact .inr<|.inl !⟨b1⟩;exact k2;have e1:iG 6 _=_:=mL (o:="and") (.inl rfl) 5 [bX o es,lC<|bX o es];have e2:iG 6 _=_:=mL (o:="and") (.inl rfl) 5 [bX o es,bX o es];have e3:iG 6 _=_:=BI 5<|lC<|bX o es;have a2:iG 5 (bX o es)=iG 4 (bX o es):=a2;rw[mL<|.inr rfl];simp only[zq,yO,List.sum_cons,List.sum_nil]at e1 e2⊢;lia
theorem DN.pass(r:Row):aF cs r 7 (bX o es)=if o ="and" then es.all (aF cs r 7) else es.any (aF cs r 7):=by obtain⟨a,b⟩:=mR λe he=>(h.one he).2 r;rcases h.w with rfl|rfl;rw[ju,if_pos rfl,a];rw[mG,if_neg<|by trivial,b]
theorem DN.at5(r:Row):aF cs r 5 (bX o es)=aF cs r 7 (bX o es)/\aF cs r 6 (bX o es)=aF cs r 7 (bX o es):=by have c:=(h.sg.1.more 3).2.2 r;exact{((h.sg.1.more 1).2.2 r).trans c.symm,((h.sg.1.more 2).2.2 r).trans c.symm}
theorem DN.not(r:Row):aF cs r 7 (lC<|bX o es)=!aF cs r 7 (bX o es):=by rw[gO,(h.at5 r).2]
theorem DN.nest(r:Row):aF cs r 7 (ZD (bX o es)<|lC<|bX o es)=aF cs r 7 (bX o es):=by have n5:aF cs r 5 (lC<|bX o es)=!aF cs r 7 (bX o es):=((h.nt.1.more 2).2.2 r).symm.trans<|h.not r;rw[mG];simp only[yt,List.any_nil,ju,gO,yH,List.all_nil,(h.at5 r).1];rw[gO]at n5;rw[n5];cases aF cs r 7 (bX o es)<;>rfl
end
theorem FH{cs:List<|Str×Str}{o:Str}{es:List D}(h:DN cs o es){A:List Row}(hA:∀r∈A,Wg cs r.2){Ls:BX}(hl:Ls.map (·.2)=es.map λe=>A.filter λr=>aF cs r 7 e):A.filter (y0 o Ls)=A.filter λr=>aF cs r 7 (bX o es):=by
 refine List.filter_congr λr hr=>?_;have hs:∀e,jz (A.filter λr=>aF cs r 7 e) r=aF cs r 7 e:=λe=>by rw[yk,DK (λx hx=>hA x (zY.mp hx).1)<|hA r hr,zY];exact{λq=>q.2,λq=>⟨hr,q⟩}
 have e1:(Ls.all λx=>jz x.2 r)=es.all (aF cs r 7):=by have:=congrArg (λl=>l.all λa=>jz a r) hl;rw[List.all_map,List.all_map]at this;exact this.trans (mR λe _=>hs e).1
 have e2:(Ls.any λx=>jz x.2 r)=es.any (aF cs r 7):=by have:=congrArg (λl=>l.any λa=>jz a r) hl;rw[List.any_map,List.any_map]at this;exact this.trans (mR λe _=>hs e).2
 rw[h.pass r];unfold y0;rw[e1,e2]
structure Qa(t:iL)(S:aw)(a:Addr)(cs:List (Str×Str))(ps:List Part)(wy:Str)(m:D)(rows A:List Row):Prop where
 g:Gd cs
 o:Og cs ps wy
 v:Vw t.aj S a cs m rows
 k:I0 rows
 t:Tb t S
 pm:A.Perm rows
 pw:A.Pairwise λa b=>cA cs wy ps a b=true
noncomputable abbrev pA(cs:List<|Str×Str)(d:D)(A:List Row):List Row:=A.filter λr=>aF cs r 7 d
section
variable{t:iL}{S:aw}{a:Addr}{cs:List (Str×Str)}{ps:List Part}{wy:Str}{m:D}{rows A:List Row}{d:D}{R:KD}{Z:KX}(h:Qa t S a cs ps wy m rows A)
include h
theorem Qa.sub(b:Sub S S'):Qa t S' a cs ps wy m rows A:={h.g,h.o,h.v.sub b,h.k,h.t.sub b,h.pm,h.pw}
theorem Qa.an:An cs ps wy A/\A.length<=63:={{h.v.rg.perm h.pm,λr hr=>h.k r<|h.pm.mem_iff.mp hr,h.pw},by have:=h.v.len;rw[h.pm.length_eq];lia}
theorem Qa.ZE(d:D):An cs ps wy (pA cs d A):={h.an.1.rg.sub yq,λr hr=>h.an.1.ky r (zY.mp hr).1,h.pw.filter _}
theorem Qa.Wf(d:D):Qq cs ps wy 7 d rows (pA cs d A):={h.ZE d,h.pm.filter _}
theorem Qa.one{A':List Row}(e:Qq cs ps wy 7 d rows A'):A'=pA cs d A:=e.one h.g h.o.pin<|h.Wf d
theorem Qa.pl(hd:Sq cs d)(k:∀p,S p=none->R (.ref p) (S.set p<|.lst<|(pA cs d A).map ai)):W (vU t) [.ref a,cG ps wy,d,m] S R Z:={a,cs,ps,wy,d,m,rows,rfl,h.g,h.o,hd,h.v,h.t,λbC p pm pw hp=>by rw[h.one<|BR h.v.rg h.k pm pw];exact k p hp}
theorem Qa.pg(hd:Sq cs d)(b:Option um)(h1:1<=n)(h2:n<=1000)(hb:Bg cs ps b) (k:∀p,S p=none->R (JD p (f cs ps wy (pA cs d A) b n).1<|(pA cs d A).length-(f cs ps wy (pA cs d A) b n).2) (S.set p<|.lst<|(seg (pA cs d A) (f cs ps wy (pA cs d A) b n).1 (f cs ps wy (pA cs d A) b n).2).map ai)):W (Qr t f) [.ref a,cG ps wy,d,.int (n:Nat),Dw b,m] S R Z:={a,cs,ps,wy,d,m,n,b,rows,rfl,h.g,h.o,hd,h1,h2,hb,h.v,h.k,h.t,λA' p hA hp=>by cases h.one hA;exact k p hp}
theorem Qa.ct(hd:Sq cs d)(k:R (.int ((pA cs d A).length:Nat)) S):W (lg t) [.ref a,d,m] S R Z:={a,cs,d,m,rows,rfl,h.g,hd,h.v,by rw[<-(h.pm.filter _).length_eq];exact k}
end
theorem QA{P:Program}{w:World}{K:Frag}{mg:Str->Option Value}{base:Heap}{k N:Nat}{f:Addr}{fd:FuncData}{ps:List Str}{sp:Nat->jE}(F:∀n,n<=N->bG P w K mg base (eU P w mg) k f fd ps (ph K<|sp n)): bG P w K mg base (eU P w mg) k f fd ps (ph K λds S R Z=>∃n,n<=N/\sp n ds S R Z):={by rintro vs H Q E ⟨ds,S,R,Z,a,b,⟨n,hn,h⟩,c,d⟩;exact(F n hn).len vs H Q E ⟨ds,S,R,Z,a,b,h,c,d⟩,by rintro A outer s H args us vs Q E hr he hb hv ⟨ds,S,R,Z,a,b,⟨n,hn,h⟩,c,d⟩;exact(F n hn).run A outer s H args us vs Q E hr he hb hv ⟨ds,S,R,Z,a,b,h,c,d⟩}
inductive ur (t:iL) (ds:List D) (S:aw) (R:KD) (Z:KX):Prop where
 |mk (a l:Addr) (cs:List<|Str×Str) (ps:List Part) (wy:Str) (g:Option um) (F:List Addr) (dl:List D) (rs:pS) (kn:Kn) (hs:List<|List Row) (h0:ds=[.ref a,.tup<|cs.map aA,cG ps wy,Dw g,.ref l]) (h1:Cg cs) (h2:Og cs ps wy) (h3:Bg cs ps g) (h4:S l=some .well) (h5:bQ t.aj S a F cs dl rs) (h6:RI rs dl.length kn) (h7:HI rs cs dl.length hs) (h8:Tb t S) (h9:dl.length<=100)
  (h10:∀g',Bg cs ps g'->R (.tup [.bl true,Dw g']) S):ur t ds S R Z
theorem FI{I:uJ}{S1:aw}{g:wZ}{te:TD}{σ:SD}{src:List<|Option Nat}{R:KD}(P:Nat->List D->aw->Prop)(h0:P 0 [] S1)(aM:∀i out S,P i out S->I.ok S) (step:∀i d out S,I.xs[i]?=some d->P i out S->out.length<sizeLine/\g d (lU σ src) S λeM S3=>te eM S3 (λv S5=>P (i+1) (out++[v]) S5) Zf) (fin:∀out S2,P I.xs.length out S2->∀p,S2 p=none->R (.ref p) (S2.set p<|.lst out)):w5 σ src g lV te R I S1:=by
 refine{P,h0,aM,λi d out S hd h=>{(step i d out S hd h).1,?_},fin};have e:(λ(eM:SD)(S3:aw)=>lV eM S3 (λb S4=>if b=true then te eM S4 (λv S5=>P (i+1) (out++[v]) S5) Zf else P (i+1) out S4) Zf)=λeM S3=>te eM S3 (λv S5=>P (i+1) (out++[v]) S5) Zf:=by funext eM S3;simp[lV]
 rw[e];exact(step i d out S hd h).2
theorem uu{α:Type}(p q:α->Bool)(h:∀x,q x=!p x):∀l:List α,(l.filter p).length+(l.filter q).length=l.length|[]=>rfl|x::l=>by have ih:=uu p q h l;rw[yz,yz,h x];cases p x<;>simp<;>lia
theorem Jc(T:Txt w K mg t)(B:Bm mg base):Ok P w base T.vd 14 (ur t):=by
 have FJ:Ok P w base T.ie 8 (λds S R Z=>∃n,n<=3/\Qh n ds S R Z):=QA λn hn=>(rJ T n).mono (by lia);refine T.vd.F.b_ bb ?_;rintro _ _ _ _ _ _ _ S R Z hr ⟨a,l,cs,ps,wy,g,F,dl,rs,kn,hs,e,hc,ho,hb,hw,hS,hR,hH,ht,hl,q⟩;subst e;have hg:=hc.1;have h8:=ho.len;refine{_,(sc (cC (i:=5) bb.nd<|uM<|ix hr.u (cK<|ac dn<|ac (aH T.aB (aP T) hr<|ac (dv 4)<|ac (bo cw hr.u (lX (dv 0) T.ak T.dH (q_ T) hr) di) an) an)<|bo qu hr.u (aH T.aB (aP T) hr<|ac (dv 4)<|ac di an) di)<|sc (MM (i:=6) (N:=["_law_k","_law_well_here","_law_columns_here"]) (src:=[none,some 4,some 1]) bb.nd (j7 (ag jG) ["_law_shelf","_law_columns_here","_law_order_here","_law_gap_here","_law_well_here","_law_moment","_law_sieves","_law_rows","_law_lists","_law_word_here","_law_sieve_here","_law_due","_law_other","_law_rest","_law_nested","_law_size","_law_page","_law_gaps"] rfl rfl<|by trivial) (ML T.eG<|ac (aH T.aB (aP T) hr<|ac (dv 4)<|ac di an) an) (pj<|show(["_law_k","_law_well_here","_law_columns_here"]:List Str).Nodup by trivial) (aR rfl) aT (λ_ _ _ _ _=>sH) λ_ _ _ _ _=>(uM<|aH T.ie FJ hr<|ac (dv 1)<|ac (dv 2)<|ac (bo cw hr.u di<|aH T.aB (aP T) hr<|ac (dv 1)<|ac di an)<|ac (cK<|ac di an) an))<|sc (cC (i:=7) bb.nd<|aH T.plain ((jv T B).w) hr<|ac (dv 0)<|ac (dv 2)<|ac (bw<|ac ds an)<|ac (dv 5) an)<|sc (MM (i:=8) (N:=["_law_one","_law_shelf","_law_order_here","_law_moment"]) (src:=[none,some 0,some 2,some 5]) bb.nd (j7 (ag jG) ["_law_shelf","_law_columns_here","_law_order_here","_law_gap_here","_law_well_here","_law_moment","_law_sieves","_law_rows","_law_lists","_law_word_here","_law_sieve_here","_law_due","_law_other","_law_rest","_law_nested","_law_size","_law_page","_law_gaps"] rfl rfl<|by trivial) (il<|dv 6) (pj<|show(["_law_one","_law_shelf","_law_order_here","_law_moment"]:List Str).Nodup by trivial) (aR rfl) aT (λ_ _ _ _ _=>sH) λ_ _ _ _ _=>(aH T.plain ((jv T B).w) hr<|ac (dv 1)<|ac (dv 2)<|ac (dv 0)<|ac (dv 3) an))<|sc (cC (i:=9) bb.nd<|uM<|ix hr.u (cK<|ac ds<|ac ds an)<|aH T.aB (aP T) hr<|ac (dv 4)<|ac di an)<|sc (cC (i:=10) bb.nd<|bw<|ac (dv 9)<|ac (ct fH T.bt aW<|ac (dv 6) an) an)<|sc (cC (i:=11) bb.nd<|aH T.qQ (FF T) hr<|ac (dv 9)<|ac (dv 8)<|ac (dv 7) an)<|sc (cC (i:=12) bb.nd<|bw<|ac ds<|ac (dv 10) an)<|sc (MM (i:=13) (N:=["_law_row","_law_due"]) (src:=[none,some 11]) bb.nd (j7 (ag jG) ["_law_shelf","_law_columns_here","_law_order_here","_law_gap_here","_law_well_here","_law_moment","_law_sieves","_law_rows","_law_lists","_law_word_here","_law_sieve_here","_law_due","_law_other","_law_rest","_law_nested","_law_size","_law_page","_law_gaps"] rfl rfl<|by trivial) (il<|dv 7) (pj<|show(["_law_row","_law_due"]:List Str).Nodup by trivial) (aR rfl) aT (λ_ _ _ _ _=>(if1<|bq HG hr.u (dv 0)<|dv 1)) λ_ _ _ _ _=>(dv 0))<|sc (si (twd<|twor (bq iK hr.u (aH T.plain ((jv T B).w) hr<|ac (dv 0)<|ac (dv 2)<|ac (dv 10)<|ac (dv 5) an)<|dv 11)<|tw1<|bq iK hr.u (aH T.plain ((jv T B).w) hr<|ac (dv 0)<|ac (dv 2)<|ac (dv 12)<|ac (dv 5) an)<|dv 13) (s1<|sr<|bw<|ac db<|ac dn an) s0)<|sc (si (bq iK hr.u (bo cw hr.u (aH T.l8 ((oO T).w) hr<|ac (dv 0)<|ac (dv 10)<|ac (dv 5) an)<|aH T.l8 ((oO T).w) hr<|ac (dv 0)<|ac (dv 12)<|ac (dv 5) an)<|cb aZ T.aV aI<|ac (dv 7) an) (s1<|sr<|bw<|ac db<|ac dn an) s0)<|sc (cC (i:=14) bb.nd<|bw<|ac ds<|ac (bw<|ac (bw<|ac ds<|ac (bw<|ac (dv 10)<|ac (dv 12) an) an)<|ac (bw<|ac ds<|ac (dv 12) an)<|ac (bw<|ac ds<|ac (bw<|ac (dv 10)<|ac (dv 10) an) an) an) an)<|sc (si (bq iK hr.u (aH T.plain ((jv T B).w) hr<|ac (dv 0)<|ac (dv 2)<|ac (dv 14)<|ac (dv 5) an)<|dv 11) (s1<|sr<|bw<|ac db<|ac dn an) s0)<|sc (cC (i:=15) bb.nd<|bo cw hr.u di<|aH T.aB (aP T) hr<|ac (dv 4)<|ac di an)<|sc (cC (i:=16) bb.nd<|aH T.uS ((BS T B).w) hr<|ac (dv 0)<|ac (dv 2)<|ac (dv 10)<|ac (dv 15)<|ac (dv 3)<|ac (dv 5) an)<|sc (si (bY<|tv<|aH T.eK (kz T) hr<|ac (dv 1)<|ac (dv 2)<|ac (dv 11)<|ac (dv 16)<|ac (dv 15)<|ac (dv 3)<|ac db an) (s1<|sr<|bw<|ac db<|ac dn an) s0)<|sc (si (bY<|tv<|aH T.eK (kz T) hr<|ac (dv 1)<|ac (dv 2)<|ac (dv 13)<|ac (aH T.nE ((vY T B).w) hr<|ac (dv 0)<|ac (dv 2)<|ac (dv 12)<|ac (dv 15)<|ac (dv 3)<|ac (dv 5) an)<|ac (dv 15)<|ac (dv 3)<|ac db an) (s1<|sr<|bw<|ac db<|ac dn an) s0)<|sc (cC (i:=17) bb.nd<|aH T.u5 (BU T) hr<|ac (dv 1)<|ac (dv 2)<|ac (dv 16) an)<|sc (si (bq jQ hr.u (dv 17) dn) (s1<|sr<|bw<|ac db<|ac dn an) s0)<|s1<|sr<|bw<|ac db<|ac (ix hr.u (dv 17) di) an),?_};rw[show g8 (We jG) [D.ref a,.tup<|cs.map aA,cG ps wy,Dw g,.ref l]=[some<|.ref a,some<|.tup<|cs.map aA,some<|cG ps wy,some<|Dw g,some<|.ref l,none,none,none,none,none,none,none,none,none,none,none,none,none] from rfl];obtain⟨ld,lr0,ra,hh,_,_⟩:=id hS;refine !!{a,_,rfl,hh.ins,rfl,a,F,cs,dl,rs,rfl,hS,l,_,rfl,by lia,js (by lia)<|by lia,hw,λmo m0 m1=>{bI,λp hp=>!{l,_,rfl,(by decide),(by decide),wl hw hp,λi i0 i1=>{{by decide,by trivial},bK (by lia) (by show i/3<2;lia) hp λmd Wz=>?_}}}};obtain⟨m,hm,hgm,Na⟩:∃m:Nat,rf dl.length md=some (m:Int)/\Gt S md/\m<=dl.length:=by have Wz:md∈[D.ax,.int mo]:=Wz;simp only[zh,zI,or_false]at Wz;rcases Wz with rfl|rfl;exact{dl.length,rfl,vA,zp _};exact{mo.toNat,by show(if 0<=mo/\mo<=(dl.length:Int) then some mo else none)=_;rw[if_pos {m0,by lia}];congr 1;lia,gt_int,by lia}
 obtain⟨rows,Nf⟩:∃rows,hs[m]?=some rows:={hs[m]'(by have:=hH.1;lia),zj _};have sn:=hH.2 m rows Nf;have vw:=sn.vw hS hR hm hgm;refine !{l,_,rfl,(by decide),(by decide),hw,λn n0 n1=>{n,rfl,by lia,by lia,?_}};refine fq (λ_ v=>Sg cs 3 v/\iG 3 v<=9) trivial (by show(eF 0 n.toNat).length<=_;rw[cu];lia) (λd hd Q hQ=>?_) λes rD pv hpv=>?_;refine !!!{l,_,rfl,(by decide),(by decide),hw,λk k0 k1=>{pF,λp hp=>?_}};obtain⟨Vf,ek⟩:=Int.eq_ofNat_of_zero_le k0;have k1:k<3:=k1;refine{Vf+1,by lia,l,cs,p,8,?_,by lia,hc,wl hw hp,aa,by decide,λd j j1 j2 hsz hsg=>{S,?_,hQ d ?_}};show[D.ref l,.tup<|cs.map aA,.int<|1+k,.ref p]=_;rw[show 1+k=((Vf+1:Nat):Int) by lia];rw[eO];exact .new hp;obtain⟨x,y,_⟩:=hsg.more<|3-(Vf+1);rw[show Vf+1+(3-(Vf+1))=3 by lia]at x y;exact{x,by rw[y];lia};have GX:es.length<=3:=by have:=yT rD;rw[show({eF 0 n.toNat,λ_=>True}:uJ).xs=eF 0 n.toNat from rfl,cu]at this;lia
 have rD:∀e∈es,Sg cs 3 e/\iG 3 e<=9:=λe he=>(lh rD e he).elim λ_ h=>h;have s1:Sub S (S.set pv<|.lst es):=.new hpv;have Vh:(S.set pv<|.lst es) pv=some (.lst es):=aa;generalize S.set pv (.lst es)=S1 at s1 Vh⊢;have vw1:=vw.sub s1;refine !!{pF,_,rfl,?_};refine{a,cs,ps,wy,_,md,rows,rfl,hg,ho,{.inl<|.inl rfl,by decide},vw1,ht.sub s1,λA lr pm pw qx=>?_};have pm:A.Perm rows:=by have:(rows.filter λr=>aF cs r 7<|.tup [.str "every"])=rows:=List.filter_eq_self.mpr λ_ _=>rfl;rw[this]at pm;exact pm
 have qa1:Qa t S1 a cs ps wy md rows A:={hg,ho,vw1,sn.key,ht.sub s1,pm,pw};have v9:=qa1.an;have s2:Sub S1 (S1.set lr<|.lst<|A.map ai):=.new qx;have Vi:(S1.set lr<|.lst<|A.map ai) lr=some (.lst<|A.map ai):=aa;have Lj:=qa1.sub s2;have L4:=s2 _ _ Vh;have s2':=s1.trans s2;generalize S1.set lr (.lst<|A.map ai)=S2 at s2' Vi Lj L4⊢;refine !{_,L4,?_};refine FI (λi out S'=>∃Ls:BX,Sub S2 S'/\out=Ls.map (λx=>.ref x.1)/\FE cs S' Ls/\Ls.map (·.2)=(es.take i).map λe=>pA cs e A) {[],.refl _,rfl,λ_ h=>(nomatch h),rfl} ?_ ?_ ?_;rintro i out S' ⟨_,sb,_⟩;exact sb _ _ L4;rintro i d out S' hd ⟨Ls,sb,rfl,Jv,Rn⟩;have hd:es[i]?=some d:=hd;have Pb:Ls.length<=3:=by have:=congrArg List.length Rn;rw[zb,zb,yy]at this;lia
 refine{by rw[zb];exact bg<|by lia,_,rfl,_,rfl,_,rfl,_,rfl,(Lj.sub sb).pl (DN.one (o:="and") {.inl rfl,GX,rD}<|zG hd).1 λp hp=>{Ls++[(p,pA cs d A)],sb.trans<|.new hp,by rw[zL];rfl,λx hx=>?_,?_}};rcases zN.mp hx with hx|hx;exact Jv.sub (.new hp) x hx;rw[zE.mp hx];exact{aa,λr hr=>v9.1.rg.1 r (zY.mp hr).1,λr hr=>v9.1.ky r (zY.mp hr).1};rw[zL,Rn,take_snoc hd,zL];rfl;rintro out S3 ⟨Ls,s3,rfl,Jv,Rn⟩ ll F_;rw[show({es,λS=>S pv=some (.lst es)}:uJ).xs=es from rfl,yJ]at Rn;have hLl:Ls.length<=3:=by have:=congrArg List.length Rn;rw[zb,zb]at this;lia
 have s4:=s3.trans<|Sub.new (c:=.lst<|Ls.map λx=>D.ref x.1) F_;have Vj:=Jv.sub<|Sub.new (c:=.lst<|Ls.map λx=>D.ref x.1) F_;have Vk:(S3.set ll<|.lst<|Ls.map λx=>D.ref x.1) ll=some (.lst<|Ls.map λx=>D.ref x.1):=aa;have ZF:=s2'.trans s4;generalize S3.set ll (.lst<|Ls.map λx=>D.ref x.1)=S4 at s4 Vj Vk ZF⊢;have qa4:=Lj.sub s4;have Vl:=s4 _ _ Vi;have ZG:=s4 _ _ L4;refine{bI,λp hp=>!{l,_,rfl,(by decide),(by decide),wl (ZF _ _ hw) hp,λi i0 i1=>bK i0 i1 hp λd hd=>?_}};obtain⟨o,rfl,hoo⟩:∃o:Str,d=.str o/\(o ="and"\/o ="or"):=by have hd:d∈[D.str "and",.str "or"]:=hd;simp only[zh,zI,or_false]at hd;rcases hd with h|h;exact{_,h,.inl rfl};exact{_,h,.inr rfl}
 have hv:DN cs o es:=⟨hoo,GX,rD⟩;refine !!{_,_,rfl,.inl ZG,bI,?_};refine !!!{cs,o,ll,lr,Ls,A,rfl,hoo,Vk,Vj,by lia,Vl,by have:=v9.2;lia,v9.1.rg.1,v9.1.ky,λpd Zy=>?_};rw[FH hv v9.1.rg.1 Rn];have s5:=Sub.new (c:=.lst<|(pA cs (bX o es) A).map ai) Zy;have QB:(S4.set pd<|.lst<|(pA cs (bX o es) A).map ai) pd=some (.lst<|(pA cs (bX o es) A).map ai):=aa;have sb5:=ZF.trans s5;have qa5:=qa4.sub s5;have L5:=s5 _ _ Vl;generalize S4.set pd (.lst<|(pA cs (bX o es) A).map ai)=S5 at QB sb5 qa5 L5⊢;refine !{bI,?_};refine !{_,L5,?_};have wO:∀d,∀r∈pA cs d A,r∈A:=λd r hr=>(zY.mp hr).1;refine cg (Df cs<|lC<|bX o es) id L5 (by show(A.map ai).length<=_;rw[zb];have:=v9.2;lia) (λd hd Q Q' hQ Bz=>?_) λpr hpr=>?_;obtain⟨r,gQ,rfl⟩:=zf.mp hd;have ek:(!jz (pA cs (bX o es) A) r)=aF cs r 7 (lC<|bX o es):=by rw[hv.not r];congr 1;rw[yk,DK (λx hx=>v9.1.rg.1 x<|wO _ x hx)<|v9.1.rg.1 r gQ,zY];exact{λq=>q.2,λq=>⟨gQ,q⟩}
 exact !!{pd,_,rR r,rfl,QB,n_ (v9.1.rg.1 r gQ) (v9.1.ky r gQ) (λx hx=>v9.1.rg.1 x<|wO _ x hx) λx hx=>v9.1.ky x<|wO _ x hx,_,rfl,bP (λh=>!⟨hQ<|ek.symm.trans h⟩) λh=>Bz<|ek.symm.trans h};rw[show((({A.map ai,λS=>S lr=some (.lst<|A.map ai)}:uJ).xs.filter<|Df cs<|lC<|bX o es).map id)=(pA cs (lC<|bX o es) A).map ai from eQ λ_=>rfl];have s6:=Sub.new (c:=.lst<|(pA cs (lC<|bX o es) A).map ai) hpr;have QC:(S5.set pr<|.lst<|(pA cs (lC<|bX o es) A).map ai) pr=some (.lst<|(pA cs (lC<|bX o es) A).map ai):=aa;have L6:=s6 _ _ QB;have ZH:=sb5.trans s6;have Np:=qa5.sub s6;have Vm:=s6 _ _ L5;generalize S5.set pr (.lst<|(pA cs (lC<|bX o es) A).map ai)=S6 at QC L6 ZH Np Vm⊢;have ly:∀(d:D){S:aw},∀x∈(pA cs d A).map ai,Ly S 60 x:=λd {S}=>LX (v9.1.rg.sub yq) λr hr=>v9.1.ky r<|wO _ r hr;refine !!!!⟨Np.pl hv.sq λp1 vO=>!⟨rB aa ((Sub.new vO) _ _ L6) (ly _) !⟨bh ?_⟩⟩⟩;have s7:=Sub.new (c:=.lst<|(pA cs (bX o es) A).map ai) vO;generalize S6.set p1 (.lst<|(pA cs (bX o es) A).map ai)=S7 at s7⊢;refine !!!!⟨(Np.sub s7).pl hv.nq λp2 lL=>!⟨rB aa ((Sub.new lL) _ _<|s7 _ _ QC) (ly _) !⟨bh ?_⟩⟩⟩;have s8:=s7.trans<|Sub.new (c:=.lst<|(pA cs (lC<|bX o es) A).map ai) lL;generalize S7.set p2 (.lst<|(pA cs (lC<|bX o es) A).map ai)=S8 at s8⊢;have ZI:=Np.sub s8;refine !!!⟨ZI.ct hv.sq !!!⟨ZI.ct hv.nq !!⟨.inl {_,s8 _ _ Vm,_,rfl,bF ?_ ?_}⟩⟩⟩;have e:(((pA cs (bX o es) A).length:Nat):Int)+(((pA cs (lC<|bX o es) A).length:Nat):Int)=(((A.map ai).length:Nat):Int):=by rw[zb,<-uu (λr=>aF cs r 7<|bX o es) (λr=>aF cs r 7<|lC<|bX o es) hv.not A,Int.natCast_add]
 exact congrArg not<|zx e;refine !!{bI,bI,_,rfl,bI,_,rfl,_,rfl,bI,bI,mq,bI,?_};have en:pA cs (ZD (bX o es)<|lC<|bX o es) A=pA cs (bX o es) A:=List.filter_congr λr _=>hv.nest r;refine !!!!⟨ZI.pl hv.ns λp3 PY=>?_⟩;rw[en];refine{_,rfl,rB aa ((Sub.new PY) _ _<|s8 _ _ L6) (ly _) !⟨bh ?_⟩};have s9:=s8.trans<|Sub.new (c:=.lst<|(pA cs (bX o es) A).map ai) PY;generalize S8.set p3 (.lst<|(pA cs (bX o es) A).map ai)=S9 at s9⊢;have sb9:=ZH.trans s9;refine !{l,_,rfl,(by decide),(by decide),sb9 _ _ hw,λz z0 z1=>?_};obtain⟨zn,rfl⟩:=Int.eq_ofNat_of_zero_le z0;have e15:∀K:KD,K (.int ((zn+1:Nat):Int)) S9->Uw (.int 1) (.int ((zn:Nat):Int)) S9 K:=λK h=>by show K (.int<|1+((zn:Nat):Int)) S9;rw[show(1:Int)+((zn:Nat):Int)=((zn+1:Nat):Int) by lia];exact h
 refine e15 _ ?_;have zl:zn+1<=1000:=by lia
 refine !!!!!!⟨(Np.sub s9).pg hv.sq g (Nat.le_add_left 1 zn) zl hb λpp hpp=>?_⟩;have WA:=s9.trans<|Sub.new (c:=.lst<|(seg (pA cs (bX o es) A) (I9 cs ps wy (pA cs (bX o es) A) g<|zn+1).1 (I9 cs ps wy (pA cs (bX o es) A) g<|zn+1).2).map ai) hpp;have Jd:(S9.set pp<|.lst<|(seg (pA cs (bX o es) A) (I9 cs ps wy (pA cs (bX o es) A) g<|zn+1).1 (I9 cs ps wy (pA cs (bX o es) A) g<|zn+1).2).map ai) pp=some (.lst<|(seg (pA cs (bX o es) A) (I9 cs ps wy (pA cs (bX o es) A) g<|zn+1).1 (I9 cs ps wy (pA cs (bX o es) A) g<|zn+1).2).map ai):=aa;generalize S9.set pp (.lst<|(seg (pA cs (bX o es) A) (I9 cs ps wy (pA cs (bX o es) A) g<|zn+1).1 (I9 cs ps wy (pA cs (bX o es) A) g<|zn+1).2).map ai)=S10 at WA Jd⊢;have al:∀d,(pA cs d A).length<=100:=λd=>zH (List.length_filter_le _ _) (by have:=v9.2;lia);refine !!!!!!{cs,ps,wy,pd,pp,pA cs (bX o es) A,zn+1,g,true,_,rfl,rfl,hg,ho,WA _ _ L6,Np.ZE _,al _,hb,Jd,_,rfl,bh ?_};refine !!!!!!!!!⟨(Np.sub WA).pg hv.nq g (Nat.le_add_left 1 zn) zl hb λpb hpb=>?_⟩;have s11:=WA.trans<|Sub.new (c:=.lst<|(seg (pA cs (lC<|bX o es) A) (Qt cs ps wy (pA cs (lC<|bX o es) A) g<|zn+1).1 (Qt cs ps wy (pA cs (lC<|bX o es) A) g<|zn+1).2).map ai) hpb;refine !!{cs,ps,wy,pr,pb,pA cs (lC<|bX o es) A,zn+1,g,false,_,rfl,rfl,hg,ho,s11 _ _ QC,Np.ZE _,al _,hb,aa,_,rfl,bh ?_};have QD:=ZH.trans s11;have Nq:=(Sub.new (c:=.lst<|(seg (pA cs (lC<|bX o es) A) (Qt cs ps wy (pA cs (lC<|bX o es) A) g<|zn+1).1 (Qt cs ps wy (pA cs (lC<|bX o es) A) g<|zn+1).2).map ai) hpb) _ _ Jd;generalize S10.set pb _=S11 at QD Nq⊢;refine !!!{cs,ps,wy,pp,_,_,_,rfl,hg,ho.pin,h8,Nq,λr gQ=>v9.1.rg.1 r<|wO _ r<|mQ gQ,λ_=>?_,λr0 r1 e0 e1=>?_};exact !!⟨nZ rfl {bI,S,QD,q none nofun}⟩;have vE:=wO _ r1<|mQ<|zG e1;exact !!⟨bF rfl !!{bI,S,QD,q (some<|Wx cs ps "behind" r1) λg' e=>by cases e;exact Qu hg ho.pin (v9.1.rg.1 r1 vE) (v9.1.ky r1 vE)<|by trivial}⟩
theorem DP:∀{l:List Str}{p:Str},((p::l).Pairwise λa b=>a.cps.toList<=b.cps.toList)->PyProof.Rows.risingS p l=true|[],p,_=>rfl|x::r,p,h=>by obtain⟨h1,h2⟩:=List.pairwise_cons.mp h;show(!PySem.Spec.ltCps x.cps.toList p.cps.toList&&PyProof.Rows.risingS x r)=true;rw[zK,PyProof.Rows.ltCps_eq,Bool.not_eq_true',decide_eq_false_iff_not];exact{List.not_lt.mpr<|h1 x zi,DP h2}
theorem Je(x:Str):∀{l:List Str},(l.Pairwise λa b=>a.cps.toList<=b.cps.toList)->∃m:List Str,m.Perm (x::l)/\m.Pairwise λa b=>a.cps.toList<=b.cps.toList|[],_=>{[x],.refl _,List.pairwise_singleton _ _}|y::l,h=>by obtain⟨h1,h2⟩:=List.pairwise_cons.mp h;by_cases q:x.cps.toList<=y.cps.toList;refine{x::y::l,.refl _,List.pairwise_cons.mpr {λz hz=>?_,h}};rcases zh.mp hz with rfl|hz;exact q;exact List.le_trans q<|h1 z hz;have q:y.cps.toList<=x.cps.toList:=(List.le_total _ _).resolve_left q;obtain⟨m,pm,pw⟩:=Je x h2;refine{y::m,(pm.cons y).trans<|.swap x y l,List.pairwise_cons.mpr {λz hz=>?_,pw}};rcases zh.mp (pm.mem_iff.mp hz) with rfl|hz;exact q;exact h1 z hz
theorem BY(l:List Str):∃ss:List Str,ss.Perm l/\PyProof.Rows.sortedS ss=true:=by
 have:∃ss:List Str,ss.Perm l/\ss.Pairwise λa b=>a.cps.toList<=b.cps.toList:=by induction l with|nil=>exact{[],.refl _,.nil}|cons x l ih=>obtain⟨m,pm,pw⟩:=ih;obtain⟨k,pk,Wo⟩:=Je x pw;exact{k,pk.trans<|pm.cons x,Wo}
 obtain⟨ss,pm,pw⟩:=this;refine{ss,pm,?_};cases ss with|nil=>rfl|cons x r=>exact DP pw
def Nr(t:iL)(S0:aw)(a:Addr)(fs:Kn->List (Addr×Ce))(cs:List<|Str×Str)(n:Nat)(S:aw):Prop:=∃(F:List Addr)(dl:List D)(rs:pS)(kn:Kn)(hs:List (List Row)),dl.length=n/\St t S0 a (fs kn) F cs dl rs S/\KI cs kn/\RI rs n kn/\HI rs cs n hs
noncomputable abbrev Jf(l lk:Addr)(kn:Kn):List (Addr×Ce):=[(l,.well),(lk,.cU<|rq kn)]
theorem DQ(hn:dl.length=n)(st:St t S0 a (Jf l lk kn) F cs (dl++[d]) bC S)(hI:KI cs kn)(hR:RI bC (n+1) kn)(hH:HI rs cs n hs) (hold:∀z m,m<=n->wt ((lu bC z).getD []) m=wt ((lu rs z).getD []) m):Nr t S0 a (Jf l lk) cs (n+1) S:=by obtain⟨ss,hp,ho⟩:=BY (kn.map (·.1));exact{F,dl++[d],bC,kn,_,by rw[zC,hn];rfl,st,hI,hR,hH.step hold hI hR hp ho}
inductive y1 (t:iL) (ds:List D) (S:aw) (R:KD) (Z:KX):Prop where
 |mk (S0:aw) (a:Addr) (cs:List<|Str×Str) (lk l:Addr) (n:Nat) (h0:ds=[.ref a,.tup<|cs.map aA,.ref lk,.ref l]) (h1:Gd cs) (h2:Nr t S0 a (Jf l lk) cs n S) (h3:n<=90) (h4:∀S',Nr t S0 a (Jf l lk) cs (n+1) S'->R .ax S'):y1 t ds S R Z
theorem DR(T:Txt w K mg t):Ok P w base T.u_ 7 (y1 t):=by
 refine T.u_.F.b_ nR ?_;rintro _ _ _ _ _ _ _ S R Z hr ⟨S0,a,cs,lk,l,n,e,hg,⟨F,dl,rs,kn,hs,Ko,st,hI,hR,hH⟩,hn,q⟩;subst e Ko;refine{_,(sc (cC (i:=4) nR.nd<|aH T.kX (xU T) hr<|ac (dv 3) an)<|sc (cC (i:=5) nR.nd<|ct fH T.bt aW<|ac (sI (N:=["_law_name","_law_kind","_law_well_here"]) (src:=[none,none,some 3]) (j7 (ag HN) ["_law_shelf","_law_columns_here","_law_standing","_law_well_here","_law_key_here","_law_worths"] rfl rfl<|by trivial) (Jt<|dv 1) (VZ<|show(["_law_name","_law_kind","_law_well_here"]:List Str).Nodup by trivial) (pN rfl rfl) pP (λ_ _ _ _ _=>sH) λ_ _ _ _ _=>(aH T.u9 (Iu T) hr<|ac (dv 2)<|ac (dv 1) an)) an)<|sc (A4<|si (bq SR hr.u (dv 4)<|dv 2) (s1<|se<|FZ (dv 0) T.ak T.nM ((PU T).w) hr<|ac (dv 4)<|ac (dv 5) an)<|s1<|si (bq bH hr.u (aH T.aB (aP T) hr<|ac (dv 3)<|ac di an) di) (sc (se<|FZ (dv 0) T.ak T.kY ((Lv T).w) hr<|ac (dv 4) an)<|sc (se<|mp1 (dv 2)<|dv 4)<|s1 srn)<|s1<|se<|FZ (dv 0) T.ak T.ig ((Fh T).w) hr<|ac (dv 4)<|ac (dv 5) an)<|s1<|sd hr.u (dv 2) (dv 4)<|dv 5),?_};refine !{l,[],rfl,rfl,st.at 0 rfl,λd hd=>?_};obtain⟨z,hz,rfl⟩:=hd;refine !{_,.inl rfl,?_};refine fq (λd v=>∃c:Str×Str,d=aA c/\Vg c.2 v) trivial (by show(cs.map aA).length<=1000;rw[zb];have:=hg.1;lia) (λd hd Q hQ=>?_) λout hp p sW=>?_;obtain⟨c,hc,rfl⟩:=zf.mp hd;refine !{rfl,_,_,rfl,_,_,rfl,rfl,_,rfl,_,rfl,l,_,rfl,⟨c.2,rfl⟩,st.at 0 rfl,λv hv=>?_};obtain⟨k,ek,hv⟩:=hv;cases ek;exact hQ v ⟨c,rfl,hv⟩;have BK:Wg cs out:=rn hp;refine{_,out,rfl,.inl aa,?_};have DU:=st.sub<|.new (c:=.lst out) sW;generalize S.set p (.lst out)=S1 at DU⊢;have hk1:=DU.at 1 rfl;obtain⟨ld,lr,ra,hh,_,_⟩:=id DU.sh;have isS:(bT (rq kn)<|.inr z).isSome=(ir kn z).isSome:=by rw[xV];cases ir kn z<;>rfl
 have hkl:=hI.len;refine{λaJ S'=>∃F' d bC,aJ=[some<|.ref a,some<|.tup<|cs.map aA,some<|.ref lk,some<|.ref l,some<|.str z,some<|.tup out]/\St t S0 a (Jf l lk kn) F' cs (dl++[d]) bC S'/\RI bC (dl.length+1) (nY kn z out)/\∀z m,m<=dl.length->wt ((lu bC z).getD []) m=wt ((lu rs z).getD []) m,?_,?_};refine !!⟨.inr {rq kn,.inr z,hk1,rfl,_,rfl,?_}⟩;refine bP (λh=>?_) λh=>?_;have h:(!(bT (rq kn)<|.inr z).isSome)=true:=h;rw[isS]at h;have XO:ir kn z=none:=by cases e:ir kn z with|none=>rfl|some _=>rw[e]at h;cases h
 exact !{a,_,rfl,hh.ins,rfl,_,rfl,_,rfl,IW DU.sh hg hR (by lia) hz BK XO λS' F' bC d hS hK QE hold=>fo {F',d,bC,rfl,DU.Qm hS hK,QE,hold}};have h:(!(bT (rq kn)<|.inr z).isSome)=false:=h;rw[isS]at h;have ZJ:(ir kn z).isSome=true:=by cases e:ir kn z with|none=>rw[e]at h;cases h|some _=>rfl
 refine !{l,_,rfl,(by decide),(by decide),DU.at 0 rfl,λi i0 i1=>!⟨bP (λh2=>?_) λh2=>?_⟩};refine !{a,_,rfl,hh.ins,rfl,_,rfl,FD DU.sh hR (by lia) hz ZJ λS' F' bC d hS hK QE hold=>?_};have p5:=DU.Qm hS hK;obtain⟨ws,ZK⟩:=Option.isSome_iff_exists.mp ZJ;refine !{lk,rq kn,rfl,p5.at 1 rfl,_,rfl,rq kn,.inr z,.tup ws,p5.at 1 rfl,rfl,by rw[xV,ZK];rfl,?_};rw[P4];exact fo<|q _<|DQ rfl (p5.put 1 rfl<|.cU<|rq<|vI kn z) (hI.del z) QE hH hold;exact !{a,_,rfl,hh.ins,rfl,_,rfl,_,rfl,yW DU.sh hg hR (by lia) hz BK ZJ λS' F' bC d hS hK QE hold=>fo {F',d,bC,rfl,DU.Qm hS hK,QE,hold}};rintro aJ S' ⟨F',d,bC,rfl,p5,QE,hold⟩;refine !!!{lk,rq kn,.inr z,rfl,p5.at 1 rfl,rfl,bg<|by unfold rq;rw[zb];lia,?_};rw[P2];exact fo<|q _<|DQ rfl (p5.put 1 rfl<|.cU<|rq<|nY kn z out) (hI.put hz BK) QE hH hold
inductive Jg (t:iL) (ds:List D) (S:aw) (R:KD) (Z:KX):Prop where
 |mk (ns:List Int) (h0:ds=[.iX<|ns.map D.int]) (h1:ns.length<=63) (h2:Tb t S) (h3:R (.bl true) S):Jg t ds S R Z
theorem L7(T:Txt w K mg t)(B:Bm mg base):Ok P w base T.Y3 20 (Jg t):=by
 refine T.Y3.F.b_ df ?_;rintro _ _ _ _ _ _ _ S R Z hr ⟨ns,e,Pl,ZX,q⟩;subst e;refine{_,(sc (cC (i:=1) df.nd<|aH T.u6 (C5 T) hr<|ac (dv 0)<|ac di an)<|sc (cC (i:=2) df.nd<|aH T.nL (BD T) hr<|ac (dv 1) an)<|sc (cC (i:=3) df.nd<|aH T.u7 (IQ T) hr<|ac (dv 1)<|ac (dv 2) an)<|sc (cC (i:=4) df.nd<|mk T.HY (Lw T) (hr.mono<|by decide) T.HX T.fi.b d0<|ac (dv 2) an)<|sc (cC (i:=5) df.nd SN)<|sc (A4<|Ju (ML T.eG<|ac (aH T.aB (aP T) hr<|ac (dv 1)<|ac di an) an) (gn (i:=6) df.nd)<|s1<|se<|aH T.u_ (DR T) hr<|ac (dv 4)<|ac (dv 2)<|ac (dv 5)<|ac (dv 1) an)<|sc (cC (i:=7) df.nd dn)<|sc (A4<|Ju (ir2 T.eG<|ac di<|ac di an) (gn (i:=6) df.nd)<|sc (cC (i:=1) df.nd<|aH T.u6 (C5 T) hr<|ac (dv 0)<|ac (dv 6) an)<|sc (sa (aH T.vd (Jc T B) hr<|ac (dv 4)<|ac (dv 2)<|ac (dv 3)<|ac (dv 7)<|ac (dv 1) an)<|gt (n:=2)<|gc (gn (i:=8) df.nd)<|gc (gn (i:=7) df.nd) g0)<|sc (si (bY<|tv<|dv 8) (s1<|sr db) s0)<|sc (A4<|si (bq bH hr.u (aH T.aB (aP T) hr<|ac (dv 1)<|ac di an) di) (s1<|cC (i:=7) df.nd<|aH T.HZ (LY T) hr<|ac (dv 1)<|ac (dv 2)<|ac (dv 3) an) s0)<|s1<|Ju (ML T.eG<|ac (aH T.aB (aP T) hr<|ac (dv 1)<|ac di an) an) (gn (i:=9) df.nd)<|s1<|se<|aH T.u_ (DR T) hr<|ac (dv 4)<|ac (dv 2)<|ac (dv 5)<|ac (dv 1) an)<|s1<|sr db),?_};refine{_,rfl,{ns,0,rfl,by decide},λl0 UD=>?_};refine !{l0,rfl,aa,λcs hc=>?_};have hg:=hc.1;refine !!{l0,cs,rfl,hc,aa,λps wy ho=>?_};refine{_,rfl,λa ha=>{a,cs,rfl,hg,aa,λS1 F1 xQ Ri=>{rfl,?_}}};have ZL:Wv S F1 S1:=λb c hb=>by have h1:(S.set l0 .well) b=some c:=(Sub.new UD) _ _ hb;have h2:b≠a:=eP h1 ha;exact Ri b c (λm=>h2<|zE.mp m)<|(ae h2).trans h1
 have hla:l0≠a:=eP aa ha;have P7:=Ri l0 .well (λm=>hla<|zE.mp m)<|(ae hla).trans aa;have st0:St t S a [(l0,.well)] F1 cs [] [] S1:={xQ,λx hx=>by rw[zE.mp hx];exact⟨P7.2,P7.1,UD⟩,by simp,ZL};refine λlk YA=>?_;have DU:St t S a (Jf l0 lk []) F1 cs [] [] (S1.set lk<|.cU []):=st0.new YA<|.cU [];generalize S1.set lk (.cU [])=SA at DU⊢;have in0:Nr t S a (Jf l0 lk) cs 0 SA:=by refine{F1,[],[],[],[[]],rfl,DU,KI.nil cs,RI.nil,{rfl,λm rows e=>?_}};cases m with|zero=>(cases e;exact{[],[],rfl,KI.nil cs,.refl _,rfl,λz=>rfl})|succ m=>simp at e
 refine{λaJ S'=>∃(o6:Option D)(n:Nat),aJ=[some<|.iX<|ns.map D.int,some<|.ref l0,some<|.tup<|cs.map aA,some<|cG ps wy,some<|.ref a,some<|.ref lk,o6,none,none,none]/\n<=40/\Nr t S a (Jf l0 lk) cs n S',?_,?_};refine !{l0,_,rfl,(by decide),(by decide),DU.at 0 rfl,λn h0 h1=>{n,rfl,by lia,by lia,?_}};refine{λi aJ S'=>∃(o6:Option D),aJ=[some<|.iX<|ns.map D.int,some<|.ref l0,some<|.tup<|cs.map aA,some<|cG ps wy,some<|.ref a,some<|.ref lk,o6,none,none,none]/\Nr t S a (Jf l0 lk) cs i S',⟨none,rfl,in0⟩,λ_ _ _ _=>trivial,?_,?_};rintro i d aJ S' hd ⟨o6,rfl,Ew⟩;have hd:(eF 0 n.toNat)[i]?=some d:=hd;obtain⟨hi,rfl⟩:=eW hd;have h1:n<40:=h1;exact !!!!{S,a,cs,lk,l0,i,rfl,hg,Ew,by lia,λS2 h=>!⟨h⟩};rintro aJ S' ⟨o6,rfl,Ew⟩;rw[show({eF 0 n.toNat,λ_=>True}:uJ).xs.length=n.toNat from cu]at Ew;have h1:n<40:=h1;exact fo {o6,_,rfl,by lia,Ew};rintro aJ S2 ⟨o6,n1,rfl,Ph,F,dl,rs,kn,hs,Ko,st,r⟩;refine{λaJ S'=>Sub S S',?_,λaJ S' sb=>⟨S,sb,q⟩};refine{1,11,rfl,{by decide,by decide,by decide,by decide},?_};refine{λi aJ S'=>∃(o1 o6 o8 o9:Option D)(g:Option um)(n:Nat),aJ=[some<|.iX<|ns.map D.int,o1,some<|.tup<|cs.map aA,some<|cG ps wy,some<|.ref a,some<|.ref lk,o6,some<|Dw g,o8,o9]/\Bg cs ps g/\n<=40+3*i/\Nr t S a (λkn=>[(lk,.cU<|rq kn)]) cs n S',{_,_,_,_,none,n1,rfl,nofun,Ph,F,dl,rs,kn,hs,Ko,st.less (by simp) λx hx=>ze _ hx,r},λ_ _ _ _=>trivial,?_,?_};rintro i d aJ S' hd ⟨o1,o6,o8,o9,g,n,rfl,hb,hn,F,dl,rs,kn,hs,Ko,st,hI,hR,hH⟩;have hd:(eF 1 10)[i]?=some d:=hd;obtain⟨hi,rfl⟩:=eW hd;refine !!⟨{ns,1+i,by rw[Int.natCast_add];rfl,by lia},λl hl=>?_⟩;have p5:St t S a (Jf l lk kn) F cs dl rs (S'.set l .well):=(st.new hl .well).perm<|.swap _ _ _;generalize S'.set l .well=S3 at p5⊢;subst Ko;refine !!!!!{a,l,cs,ps,wy,g,F,dl,rs,kn,hs,rfl,hc,ho,hb,p5.at 0 rfl,p5.sh,hR,hH,ZX.sub p5.IX.sub,by lia,λg1 hb1=>?_};refine !{rfl,_,_,rfl,_,_,rfl,rfl,?_};refine !!⟨bh ?_⟩;refine{λaJ S4=>∃g2,aJ=[some<|.iX<|ns.map D.int,some<|.ref l,some<|.tup<|cs.map aA,some<|cG ps wy,some<|.ref a,some<|.ref lk,some<|.int<|1+(i:Nat),some<|Dw g2,some<|.bl true,o9]/\Bg cs ps g2/\S4=S3,?_,?_};refine !{l,_,rfl,(by decide),(by decide),p5.at 0 rfl,λk k0 k1=>!⟨bP (λh=>?_) λh=>?_⟩};exact !!!{l,cs,ps,wy,rfl,hg,ho,p5.at 0 rfl,λg2 hg2=>fo {some g2,rfl,λg' e=>by cases e;exact hg2,rfl}};exact fo ⟨g1,rfl,hb1,rfl⟩;rintro aJ S4 ⟨g2,rfl,FW,rfl⟩;refine !{l,_,rfl,(by decide),(by decide),p5.at 0 rfl,λm m0 m1=>{m,rfl,by lia,by lia,?_}};have m1:m<4:=m1;refine{λj aJ S'=>∃(o9:Option D),aJ=[some<|.iX<|ns.map D.int,some<|.ref l,some<|.tup<|cs.map aA,some<|cG ps wy,some<|.ref a,some<|.ref lk,some<|.int<|1+(i:Nat),some<|Dw g2,some<|.bl true,o9]/\Nr t S a (Jf l lk) cs (dl.length+j) S',!⟨F,dl,rs,kn,hs,rfl,p5,hI,hR,hH⟩,λ_ _ _ _=>trivial,?_,?_};rintro j d aJ S' hd ⟨o9,rfl,Ew⟩;have hd:(eF 0 m.toNat)[j]?=some d:=hd;obtain⟨hj,rfl⟩:=eW hd;exact !!!!{S,a,cs,lk,l,dl.length+j,rfl,hg,Ew,by lia,λS5 h=>!⟨h⟩};rintro aJ S' ⟨o9,rfl,F,dl2,rs,kn,hs,Vn,st,r⟩;rw[show({eF 0 m.toNat,λ_=>True}:uJ).xs.length=m.toNat from cu]at Vn r;exact{_,_,_,_,g2,_,rfl,FW,by lia,F,dl2,rs,kn,hs,Vn,st.less (by simp) λx hx=>ze _ hx,r};rintro aJ S' ⟨_,_,_,_,_,_,rfl,_,_,F,dl,rs,kn,hs,_,st,_⟩;exact fo st.IX.sub
def Jh(t:iL)(K:Frag):Sp:=λvs H Q _=>ph K (Jg t) vs H Q E0
theorem QF(T:Txt w K mg t)(B:Bm mg base):bG P w K mg base VL 20 t.MZ t.HP ["_law_script"] (Jh t K):=bG.calm<|L7 T B
theorem Ji{w:World}{K:Frag}{mg:Str->Option Value}{t:iL}(T:Txt w K mg t){H:Hp}{a:Addr}{ns:List Int}(hl:ns.length<=63)(hO:xi t.ts H)(hS:iQ K H a<|ns.map V.int):Jh t K [.ref a] H (λv _=>v=.bl true) λ_ _ _=>False:=by
 have hR:MA K H a (ns.map V.int):=by rcases hS with (h|h)|h;rcases hO.all a with q|⟨o,xs,q⟩|⟨_,q⟩;rw[q]at h;cases h;rw[q]at h;cases h;rw[q]at h;cases h;exact .inl h;exact .inr h
 have CZ:t.aL≠t.aU:=λe=>by have:=T.np;rw[e]at this;simp at this
 have tok:∀q,Cw H q #[]:=λq=>{trivial,λ_ _ e=>by cases e};refine{[.iX<|ns.map D.int],λb=>if b=t.aU then some (.tab qK) else if b=t.aL then some (.tab qV) else none,λd _=>d=.bl true,λ_ _=>False,aS (G1 hR<|Cv ns) bz,λb c e=>?_,{ns,rfl,hl,{if_pos rfl,(if_neg CZ).trans<|if_pos rfl},rfl},λd S v H' e r _ _=>by subst e;exact r.bl,λ_ _ _ z=>z.elim};by_cases h1:b=t.aU;have e:=(if_pos h1).symm.trans e;cases e;rw[h1];exact{#[],hO.tab _ T.ma,tok _};by_cases h2:b=t.aL;have e:=(if_neg h1).symm.trans e;have e:=(if_pos h2).symm.trans e;cases e;rw[h2];exact{#[],hO.tab _ T.jT,tok _};have e:=(if_neg h1).symm.trans e;have e:=(if_neg h2).symm.trans e;cases e
theorem QG{P:Program}{w:World}{K:Frag}{mg:Str->Option Value}{fa:Addr}{ts:List Addr}(OA:mg "law"= some (.ref fa))(T:∃t:iL,t.ts=ts/\Txt w K mg t):∃(fd:FuncData) (sp:Sp),(∀b∈ts,∃c,codeHdIn K c b=true)/\(∀(s:Shared) (u:Value),BindsTo s fd {[u],[]} [("_law_script",u)])/\(∀base:Heap,Bm mg base->K.In base->base.Ns mainGlobals mg->bG P w K mg base VL 20 fa fd ["_law_script"] sp)/\∀(H:Hp) (a:Addr) (ns:List Int),ns.length<=63->xi ts H->iQ K H a (ns.map V.int)->sp [.ref a] H (λv _=>v=.bl true) λ_ _ _=>False:=by obtain⟨t,et,T⟩:=T;have e0:=OA.symm.trans T.Y3.m;cases e0;subst et;exact{_,_,λb hb=>(T.ta b<|hb).elim (λe=>{_,e ▸ T.c0}) λe=>{_,e ▸ T.cL},T.bl,λbase B kb nb=>QF T B,λH a ns hl hO hS=>Ji T hl hO hS}
end My
end Tactic
open Tactic
local macro_rules|`(command|universe $xs*)=>do return Lean.mkNullNode (← (xs[0]!.getId.toString.foldl (fun (h,n,k,l) c=>let n:=n*62+(if c.isDigit then c.toNat-48 else if c.isUpper then c.toNat-55 else c.toNat-61);if k=9 then (h+n-10*62^9,0,0,l.push (h+n-10*62^9)) else (h,n,k+1,l)) (0,0,0,(#[]:Array Nat))).2.2.2.mapM fun v=>`(command|theorem $(Lean.mkIdent (.mkSimple s!"tw{v}")):ident : True:=trivial))
namespace PySem.W.Fast
universe EGjtNDqBt1AKC3olryNNAUbD5wnmDHD53wCA2i51B79uVy0C37AlaJlUk6t0A5bH4XhmFdDeD3dTb8fLEUegHf372jANlMdOAKykA2JMIPJpqkCgLfbq8eeuAW76ByOxujAn4ojryKJSERvmdLgNQEAUGGaAr2hbApSjnvBiE0Am0O2QO5kkBeyPqDLVW4ALrZyWp9mUBMv4hPSD8eACzzAmTKNwA86EoavIwkCcO8H0QIHQClc0kbYus2AY4UQCkBqsCftkLsReH9H0fG3YQqhEBnz3YAd0sJETD06gEUUhAChpXGIMwUDPRqMAUqewB1w4w4On0lBaRO7fqSjuBBFZCrgewFBGhIOIOzboC0Q6cifXnbA6BUOxsce5AKajn5rgbJEFXmKv1QoVDVH2ebU57jAybGxvkkQqFV7s1RG6MUDH9r4urTufBYrEUrsHkhBCFWakERY9BU2RF5qSuQE08eyDRWHNBDSJrX3O43A1PpqSn48ZAv8uaaGLCRAfStAPq0ObAMiT2KcUbvDuP1Xw5sq0AGjLMm0FSGB8BudeT0GxAQmaUixdk2DJiX4EjyHOAGg51lvUtzBBoBetfm9IBpS7fGFwrUCUilLoOVxuGjIhGXdaMCBsW1MOggDZABa4oCeqKNAA1LTWTrGQB5XH27Hop1AZ0xzncw6wBtaX9nUrQeBkzWa3LSaUBQfnFSwiF6C7h1mi0MTYCPcPPebzqEBlAJ1VJdZkCwuybWn9GHEy78OAtmAlA6Zn50JQbnAR0pFqlHFSBKT8fvb7eYA34hFuQXRrADJW1ZmzNMG6mulOb1PXAF5QdJ0ZnfBVwQndD4waBESMux3oNuC8ItJnyNGODDj71AX1a6A957QZMBl3C3FutMJ4GCADrs5e3oyaDPIj8tTTwAB1slhqDY3XBvTJMkA1WbA4RKMn6EBsBCZgizHSXTBtStojUfwiDOHUJkuwDaAIFpchOBKaAH28QctUwqAbzenPjIgKABe9qeOhi3AWuP5K37UvAUjX4NY9pvCKlU7XtLJtA1Y7XKhyyWAOYiCJof6mDORZVi8YGrAlMNqv6tHLAjV8lEmvzSBc5fzfcQgYFSQIGGLYf9AZqqpJfRm6AGXKCVM9ADAyr1gQDVxnAkax9zoqHMDkJnt7m4NeALYfdJ6bS9B2I9aKvEOGC2ytCC1y9FAM7Irn277EA2ezGav4eBAM73N8YUXbD4XY64UefQBDKi18PgvYBOMnZhxyWeAqpKoYEVojAIEtfm5NJWAz05anBafLF9kmtNC83jEb5po4DGzfBUmdNq3HwbBUucPzCVAZBCJfkAogANAuiPJ3kqKLBPtF4Bt72HBUCu1fO5cLAc9Ep4PH95ByJZo1L8OjDdaiwcYOm0AE6oyne49pA9pXzaIXqgAbrnoZMh0AAl7zc6AK0ZB9e9tNWOY9AYqRO7aWIaCIaTUSalsTIcfHCKw9iKCyEFXl4CaQDAYCggp0pmCFyZWSyQeQD8yDE36dvVAAiuj1SA6yBhadyiBtj0AEDyGUnJYNBGxBkMw7VDCLY6Xlj0DDA18cXmtfhQB8fG8yK66sB4YJe3sW1eCmA820YQb1At5U33qFUbBTGjOksAquBUrKoFkiYgAmaYoSsyZkAio4Eq6AnhAyG9jBllsDAJNLbuBqyFAM231N67cVCDkVMwxvv8BemA3W6nG5DJf3d35AO8AIChhVjKVaAEFtjTuH2fBWXPRrNwVHA75gHVqmqeFf3ztojbB3BPd6mY49SFCQDvtTEND5CbS4OUlW9WDhoKFvU7dPAFb4xh0nv3DDim5YG5woBU912O1mRAA19GwsVMpxB1mMfX4z0DAEpDAUgVJjAc74VJcFzEAGx7uzspEzBs7JJiYSB5A8zViYyh20C01iEARxj3FmBcATWnoMB4dnpFs832A1ZN5rcebgA4IjUDW1DOFgBn8RlR8JBnxDLbPZhAJ1sk5m1s52CPkN2C0DrxBrvVLGpP6tAXTE8hI2EaA9Wyvk17pQIyR4CidIe5A3F3BuAinUDPaVzuJOA2EMxrxlJEjXCFUliUU1yvClMxoEp2vqB3LOvAL7FdCMHZPxsy8vA1yUWB1ahrAV3h1A8brFB3kYeGSkoMB0rP4XwoEiAqt8ChsAgJC3d9ZCO6AtCB93dwWaxSBUxVa59RwSEOmjcq1wd6BKsKrkDyKcB92etm1g4rAGOZGCCNHfCR6892uic6B9PO4je8TyALu32UF7vnBHICT4wrFLA01uTDNVi2ASItBMt2ClAy2XV2k5x2CkPVeZRwMSGspY3nDJyuALKQMDbjilEdRKbtPC8vAOKDgGCIIbBw1xBpCZ1LB73JEeXtV0B2qtppFTIJAUS5bEHzynDPLheWY831HN3m1DU6eTAR9idZNcgIA1CAFAQrDgBfPayZZ8hmAHn7YoEOg1B2XDM0Bx78ANTTGZBzCSD0jxb3Y7eMA3hkofaL8kAQoGN6cLzSEBNbPkUeCgAzXcxs82M3H2NdwJxquxHzAL3hjiXzA65itDuH0iF32SQqFtPeDqdZbUAmwgB8FBubvrXjC6msFN5q8iCBrP65AjVJBi5tPBIY1DAJw1Fpv4DZBHtx3GPGqvA2WO04x80ECiq03BNjbhA3Dvx62QpSAdAyn0vw4FApff8Mdg95BnY1r54G5RB7BOoxephhAQ9x0SkQrrEDP8MoW73DAbttMpUZNNCjmKRImJB1Aqsd3qP2HQA9TNgUIS7dAdKXkox7nhAV2tYtTs8tACPNzVdnH9CTPBmTYTu5Aoi2h80Nl1BzIlPepScLATsJZV9y9wBr9UOoBbkQCvaepeyYZFAnnjNA3JHbEZdSp3Dt1TAIyN6NWxS1AhSS1yE92wA8Cf8udsYaA7WFMtzOc7FExBSJID0PBF3GDeoc31D0Pfy9h0o1DtBVhrKBwiEzrOfGXHvYBjN7waIyt4CvCLTbWj5OCivBa6QQm7AU0AW9jp6rBMCXExoX3cAtKWS4fGEvA29zZZcDU1EjPvZlasgeAJlfPrfjzXBrd2xppgaaAMXkwDyQq7AMeEeuu4BQFdQ7MUNlaxCmYFDdJmFqA5xXwrliRQAn1i6IN2F9F0Q0TnEr36BVGHlGFgnEAp4UGp3UlDIKo9EMGY09Eg6LuIO0OnA40gjJovg2BhuI8MKXeABaRbcbjyeoBWxZeufRENBrpzBXGfz3AFNZWE3bOuCIYZ9ux7JvAag0en1A9GDxV5Jw9ypFBcmjqm6xRuBVDI8kqHRKADVFGC3hw4BLc1yQCM8GB0S4s7xej9AbBIMjdNK5AzAg8bZUVkASpNisyn3ZBsro6Q7cxSKq0auZ6mWxBwDRvYbnNCASkL3YzffSBLEVaIcL6fAUfA4qemXNEM5Q7lSHyEATwm37lKJaCUV8EpMps3CqN2iMWLGvEl1NG6xY73EUsImFzhXhASrUahTTh5AMVpyBLbKtCT3gFy9g9bAWcdb5ZcK5Ad5xoHSCHAAOUhmxinLxDVQGMdT1Q2Ex1DCdLtsQAFRIZe9vIKDYl2yzSmprHIQl8bYuvtA13fXyuScJCMXHyeT6JvDxzoe7g3N4AevnP2IemMADke8JeQQMBNtksTOSECANFkEzbjSyAYIqG85djrB73Dk7DXi2FkXJPGVggjDRgMtURrYKBEryonQtPiGv9xO96j1pAUemN9XBWnAynwjtlJ0ZAlIdj9kVHqAnBbH0VFXcA1Hlms9Ic7CAFYQGl99LB3rnPxnYCOAsKzt9xkcJB227oZLIYSAHSW9x1AhDF96W5Slph8BAdTpu8NGaGsd6dWfezAAQ31tcfcuSA8mSeD7qFeEaVv4HOEhsD6vKhfPM7BAeVvdQF5u1CM0YZ3ijm4EhdHMthx69EwGDG5NBEXAQPkoSDLaaG2UsdH60W1CVLdz9VwKrEBcLNZIOmKAWZBo9WjeUDCW0SvvfRsAmqw2EnGqmAzPuMbJmnMAxe7EjVttAEpYc0l4mTmA2O4WXwN7nDfTcUoiJJlAbFNgK7ttKAU1mBgP1HUC7O8k39HCpAnhdj32iWcFKw43g9guiCL84y1TLLOAeLtRpc7wDA4EDkmKkRrDRU9rbEncHB44nGE0i4dAHa4lhsbsfC0lkpJGPMtCCmNoZSgoQA34TyAVxAMCRcaQq8qLvBxl6zK4YgWANrJVENp2lBq2voTpPk8FnJBAZivWSBNu8Ur7Q3zCR8LKmHPuiCWB0lJpC1UALvxzjghikCcwXl8bZUOBZzhGGFh5VAAP8KET1U4B3Taxe69ElBhRSGuayC9CMuEFSShifAfYmNKfmr6AzYNzs0q4pATmVEGrPZNAlBErJiOFIA1OP2YChZiEv7K3445UpAggwpexbd0ARcYgmcEO4C8k61zOr2hA3lmAB6NvuAKAzgUAAy7AnOecI7RKYAlRGszBwylA7SrGgDr9VAd1LSV1rrkBtkz8U9bqfDGNmXWiUkDAt82Jb2tawB8YShBFm0yBgnzxIegi7ANCl9YNbuWA3mqWnjnvzBceWyjiXCgB2EDBGeL0PA2ojrhs3XFAri6X482OvDq2gp360olA20UQqSeyYAX8OKALJw5AF3xuTCnifAsl6yASI7tB16kKs63lxAZ6RIhiTyqB4BLySvV16B3djXVgYtKAs1diIgl9bDgI0Kl7KfYC25EVOeqG2AUiiZZ5kTEAkeWiQcqO9A9K2n6TDuCBdf9fxLPJjC1oLePFKJdDMfshGP2UoA8qdSWDVCEBGimBKdn9IBEfBnybNHCC2LyvTDFDVAIpnXHhPr2AOB076HlUhA9YW5hqKFlAbUfSUwIwkCHT6yA6P0uBiVjoN9L7oHmvG2XBvvqBJV0twvoyqFCR09KvAHyBAtUDCuoDqABQsUCZ1HLACSJ2Z26qGAnYZkFItRjBAzPN6s0DHAOkcJkcAcpBYdtlgH3vABW6IAL1zz2F0Yp4gGIiBAoov9g76lnAiopVgGCSBAdTwxzyhZTB0UYEo3Bs0DMxdnoJ0wcBP2oOGSnytA92XJvlFnfDXPaXgisrqAHAt3zmeo2CZjLDxhtYjAnF5cj7eVtBZZ1WxIK8tA0kdOkCpz4BSqNMwP3Y4BrYlt4oNEZBWCRRdXdFLDqM580dO6lBmLyiCbLx2AInZ8puyWpFAIE4JiVmuBCQ0bwPZhvCqxkIyiKvwLEnHZ1PbnTAdOiMtKAuXBcPirVAFGLAbbG7O1vs0ADVzWy46HFBJcRe0ELa2ASSY6iP25cAEShJmxBiuAD1mFbxkq4AoHpaqOLCWDsuZ6BQAhaADmFYcEXX7BVUIQapaDnA1bkCHJJp2B61hkHM8sWAAs4cgIJOJBdbe1f3wQyA721bNjhSbADKPUfW7YVBW3qyV6SvWCARFXNK9x1DKOWbVtQGtATqJHbJDEfAEMAiKl3t3HCkGBVCHkXA2RJFWK85sAbXeavS8VfASxGBo8eTqAKWDbQIuEwBhbtZU7t2yA3G3cpBaS1A1VNXecunpDhNDLuElvkBSiWvX5T24ANTxbeZhv5BSMsmsYfxtBpylIXkdu7ASNHPYXixzAX2FpVZGzzEfio3mxvjNB9bxSttuTcAVKW2CYeakBcG624J5E0A93a22qmKbD4NN8jEhB3ABDtyRKyHoB9x9hBtJzdDMF1xE7Q9iFFaTLTD00aDbszSK2W67CDQyEfjR9ZGvzNHjmrhZAEkAzfG5uCB2j7hRMyQDFjk3xpwpvbFt9QNRvo1HBEI3EFQLM0HGK0Tukp2CATjXWZcvnABlf6cuGKyyAZbaS6QPUTARSdeNjrgACoJpamhIUDCjjNGy4hi2DOSeHl6vkYBHSzPvUhUCANiSrdXSc6AWbM9zHgehBSrJo94inUDmnTVuAQajA09zC1dJFsAlr3cAJ8SEC2OHpRpxDQB0L7bxQnBzEsXtmd1b8wAXGMaccU9DA5EwY6UsY8ATSaWx3OWyC6exsTPAZ5AgdILiMCvcBRphJkvLmtBpp1PzgbIEAG0UOYlv8mBph5er8GSuB5lHeYnEkfCohmmBZ7FBAk226CDVu9E2gVaH1BrsBkgorhLec9Awk7kX7m7NB7W9oZbP4TA0EypR5fa1AZdqxVKRztAo5cL18k9yHmG1VMkKeWFeqnmFgkbMA5iW1qffBXAZ9O3arJttBD6rxEhYMZD9P8avHOinA0O1r4B3bmB27NUTJ0hFAbW9VJQIlzC3jdEMY3yIBDgiXBPvxFA74kDomw36BdfK249euzAba4hxNWh3Atg195tmPjBnENNfUPVXAXO4s7qQvIBGc4Z0pXt7A55V0emVLSDGiZUqn7i7ARRBffB18eBSjBKerPrqCxE2OqQ1KlCp9W3dkWUjEqad5E4Ks8EmEN0g8ZpqAtSrxcZSeoEi8uJH8Ia6DR1JmP79D1DUxSncWuubBNgj2oF4mHAHjgamCjXjB19pMUcWMbCjBuSWiImBBiMjLe3bZxA6kTH0ekQ1Ay851FjxHyBi4aBm2PKkCgPGurC0JoC3D77HzTJvAGapTziGcrB5WUeXfA1ZAobRGhINEWAagTyaPC7DA36K8W4lPsE6PEhOv5i3AGb7jyC23eCDMPSZPjhJBjU5xnWXVYAGxjJMIfF4CHuGKbkeFIAyrzMLdb8zAtzj3pownKAkmmS0daTYASWFMa3T8cAFtcMizXGCAlADlys3vMAk65ICkSVvCdjQhkQdErB0CZn6vcP3BpFInajDC9BTvTIozxGeA4y2xx5JlbA5VyLfPn9kBAiIQJshLHJkn99c82P7E1US1oF1cdBL8oV1rDgtA8J3aXTBnlAjwgyy2qgQBzh8RhpRIdEJeskFQyT8F18xI2T8W4B0TFcNCVKsA4aiRpaJsFA3kcMXQjJcAMaJVH5VFLBcGG7btIRVGmfb4ZNE0aAgaBGfW6fbGEQBIskb5HAHdfXkNmRPCDqdOo0sQpAdVo4nPTXZCDWuB96UeXBox2VIXUupCmZ25A5KzsAHnHGFeCXKAdXCGo1vmWA7xoMEpdB2CWnXJwTNikBLv6DjZCkoAgs86y6ANNBN8AocpZo7CP1153utnvA2MmqNuiOvAmGC8veMm5DKcry2AG8JASubIgYG4GAKow3xITR0AUuSdDnlgfA4qGOIn6Z2AP7DqnnEChA2NW51jke8A4sfinnnmvAEigC9ZMV2AStNPGl4Z0BqsuGnmlqkB9glSglQyWAAe96kh6r5CAQ4EwHu4XAjYmEXGL6KArh4MrW4hhKFXpmzPNCTBJYNnqW485CQ5yazaXRWAtXy29umcKDsiYUN3IEODaw6hTZQgjB0gfZavIWXAgbGm97epnAhcYP7nx9jCGGE2RIfq1B3kvFKSiXwB28xBkkM65A0ULEdES0AAKZmgAanVNCybaYoUTUcArlT6WUBFUE8uP6i8DvVA8chtKIMzyEYSmh6sVglAozihh360RA2jOnWIvvHAENMGJ91jNB0tRKksR7SD2LhQl4r20AjS3AJwbP9BO3ffZzz2YAAEqs7CtqbFBRCZY3ACgAAeZzLgaNEEMMK2JR3qPAbziV3rTowEoofcX0wOMGewOB1PhzkCB552IWWPtClXqEBmuNHA82ncI6DVlAZ2Vp4JnsoDVfuDfN9beGqFeCKusdWAS3h8MooZyCqInv3U5VjAfqOJiIFpUE3dvSX4nUFAo1EBHpgBRDA5iVQIKMDA4XxFoGo2O
end PySem.W.Fast
open PySem PySem.W PyProof.Rows
set_option maxRecDepth 100000 in
set_option maxHeartbeats 0 in
theorem PySem.Challenge.cw_pageturns_k87_whole_sieves_put_together_holds : PySem.Challenge.rw_pageturns_k87_whole_sieves_put_together.Holds := by
 w_on;o_law;k_head;(case hw=>w_witness2)
 k_fill
 refine L2.Hy (l:=PySem.Challenge.rw_pageturns_k87_whole_sieves_put_together) (n:=63) (k:=20) (x := "_law_script") (CX:=L2.VL) rfl (by decide) rfl ⟨rfl,by decide,by decide⟩ (fun w h Y=>PySem.W.km_in_of Y) (fun w h Y=>PySem.W.km_tabs_of Y) (fun w h Y=>L2.K4 Y (by trivial)) ?tF fun _ _ _ _ z=>z
 intro w mg fa h KX G OA
 refine My.QG OA ?_
 refine' L2.gvc KX G "Shelf" ?a1 ?b1 ?c1 ?d1 ?e1 ?f1 ?g1 fun L8 aj L9 k_Shelf=>?z1
 (case a1|b1|c1|d1|e1|f1|g1=>k_is)
 refine' L2.afx KX G (l:=[17,18,19,20,21,22,23,24,25,26,29,30,31,32,33,34,35,41,42,43,44,45,46,47,48,49,50,51,57,58,59,60,61,62,63,67,68,69,71,77,78,79,80,81,82,83,84,85,86,89,91,92,93,94,95,96,97,98,99,100,101,102,103,104,105,106,107]) (top:=My.top) ?xF fun f0 g0 A0=>?zF
 case xF =>
  repeat' (refine' L2.af KX G _ (by decide) ?a ?b ?c ?d ?e ?_;(case a|b|c|d=>k_is);(case e=>first|exact L2.Ur fun _=>rfl|exact L2.ln2 fun _ _=>rfl|exact L2.Pw fun _ _ _=>rfl|exact L2.Wc fun _ _ _ _=>rfl|exact L2.YU fun _ _ _ _ _=>rfl|exact L2.Q8 fun _ _ _ _ _ _=>rfl|exact L2.xl fun _=>L2.Q8 fun _ _ _ _ _ _=>rfl|exact L2.YT rfl))
  exact L2.af0
 refine' L2.amx aj (l:=[0,1,2,3,4,5,6,7,8,13]) (q := "Shelf.") (cl:=My.br) ?xMShelf fun Bd ZM BZ=>?zMShelf
 case xMShelf =>
  repeat' (refine' L2.am aj _ (by decide) ?a ?b ?c ?d ?f ?e ?_;(case a|b|c|d|f=>k_is);(case e=>first|exact L2.Ur fun _=>rfl|exact L2.ln2 fun _ _=>rfl|exact L2.Pw fun _ _ _=>rfl|exact L2.Wc fun _ _ _ _=>rfl|exact L2.YU fun _ _ _ _ _=>rfl|exact L2.Q8 fun _ _ _ _ _ _=>rfl|exact L2.xl fun _=>L2.Q8 fun _ _ _ _ _ _=>rfl|exact L2.YT rfl))
  exact L2.am0
 refine' L2.fnd KX G "plain" (My.top 65) ["shelf","order","sieve","moment"] ?a2 ?b2 ?c2 ?d2 ?e2 ?f2 ?g2 fun d0 F0 D0=>?z2
 (case a2|b2|c2|d2|e2=>k_is)
 (case f2=>intro s us t;revert us;exact L2.Wc fun _ _ _ _=>.of_defaults rfl t rfl rfl rfl)
 (case g2=>intro s us t;revert us;exact L2.YW fun _ _ _=>.of_defaults rfl t rfl rfl rfl)
 refine' L2.fnd KX G "count_of" (My.top 66) ["shelf","sieve","moment"] ?a3 ?b3 ?c3 ?d3 ?e3 ?f3 ?g3 fun d1 F1 D1=>?z3
 (case a3|b3|c3|d3|e3=>k_is)
 (case f3=>intro s us t;revert us;exact L2.Pw fun _ _ _=>.of_defaults rfl t rfl rfl rfl)
 (case g3=>intro s us t;revert us;exact L2.Us fun _ _=>.of_defaults rfl t rfl rfl rfl)
 refine' L2.YR KX G "sorted_by_keys" (My.top 70) ["rows","way"] ?a4 ?b4 ?c4 ?d4 ?e4 fun d2 e2 B2 F2=>?z4
 (case a4|b4|c4|d4=>k_is)
 (case e4=>exact L2.ln2 fun _ _=>rfl)
 refine' L2.YR KX G "sorted_by_values" (My.top 72) ["columns","part","rows"] ?a5 ?b5 ?c5 ?d5 ?e5 fun d3 e3 B3 F3=>?z5
 (case a5|b5|c5|d5=>k_is)
 (case e5=>exact L2.Pw fun _ _ _=>rfl)
 refine' L2.fne KX G "page_on" (My.top 75) ["shelf","order","sieve","size","gap","moment"] #[.none,.none] ?a6 ?b6 ?c6 ?d6 ?e6 ?f6 fun d4 F4=>?z6
 (case a6|b6|c6|d6|e6=>k_is)
 (case f6=>intro s us t;revert us;exact L2.Q8 fun _ _ _ _ _ _=>.of_defaults rfl t rfl rfl rfl)
 refine' L2.fne KX G "page_back" (My.top 76) ["shelf","order","sieve","size","gap","moment"] #[.none,.none] ?a7 ?b7 ?c7 ?d7 ?e7 ?f7 fun d5 F5=>?z7
 (case a7|b7|c7|d7|e7=>k_is)
 (case f7=>intro s us t;revert us;exact L2.Q8 fun _ _ _ _ _ _=>.of_defaults rfl t rfl rfl rfl)
 refine' L2.YR KX G "law" (My.top 108) ["_law_script"] ?a8 ?b8 ?c8 ?d8 ?e8 fun d6 e6 B6 F6=>?z8
 (case a8|b8|c8|d8=>k_is)
 (case e8=>exact L2.Ur fun _=>rfl)
 refine' L2.fmd aj "worths_at" "Shelf.worths_at" ((L2.inClass My.br 9)) ["self","key","moment"] ?a9 ?b9 ?c9 ?d9 ?e9 ?f9 ?g9 ?h9 fun d7 F7 D7=>?z9
 (case a9|b9|c9|d9|e9|f9=>k_is)
 (case g9=>intro s us t;revert us;exact L2.Pw fun _ _ _=>.of_defaults rfl t rfl rfl rfl)
 (case h9=>intro s us t;revert us;exact L2.Us fun _ _=>.of_defaults rfl t rfl rfl rfl)
 refine' L2.fmd aj "all_at" "Shelf.all_at" ((L2.inClass My.br 10)) ["self","moment"] ?a10 ?b10 ?c10 ?d10 ?e10 ?f10 ?g10 ?h10 fun d8 F8 D8=>?z10
 (case a10|b10|c10|d10|e10|f10=>k_is)
 (case g10=>intro s us t;revert us;exact L2.ln2 fun _ _=>.of_defaults rfl t rfl rfl rfl)
 (case h10=>intro s us t;revert us;exact L2.YV fun _=>.of_defaults rfl t rfl rfl rfl)
 refine' L2.Lb KX G "MOST_NAME_SIGNS" 8 ?a11 fun mS=>?z11
 (case a11=>k_is)
 refine' L2.Lb KX G "MOST_KEY_SIGNS" 12 ?a12 fun oa=>?z12
 (case a12=>k_is)
 refine' L2.Lb KX G "MOST_WORD_SIGNS" 40 ?a13 fun mT=>?z13
 (case a13=>k_is)
 refine' L2.Lb KX G "MOST_COLUMNS" 8 ?a14 fun rV=>?z14
 (case a14=>k_is)
 refine' L2.Lb KX G "MOST_PARTS_orders" 8 ?a15 fun jZ=>?z15
 (case a15=>k_is)
 refine' L2.Lb KX G "MOST_DEEP" 8 ?a16 fun y3=>?z16
 (case a16=>k_is)
 refine' L2.Lb KX G "MOST_PARTS_sieves" 200 ?a17 fun j5=>?z17
 (case a17=>k_is)
 refine' L2.Lb KX G "MOST_IN_A_TUPLE" 8 ?a18 fun mU=>?z18
 (case a18=>k_is)
 refine' L2.Lb KX G "MOST_ROWS" 1000 ?a19 fun y4=>?z19
 (case a19=>k_is)
 refine' L2.Uq KX G "KINDS" ?a20 ?b20 fun L_ w_KINDS=>?z20
 (case a20|b20=>k_is)
 refine' L2.Uq KX G "OTHER_WAY" ?a21 ?b21 fun y6 w_OTHER_WAY=>?z21
 (case a21|b21=>k_is)
 refine' L2.Uq KX G "OTHER_END" ?a22 ?b22 fun y7 w_OTHER_END=>?z22
 (case a22|b22=>k_is)
 refine' L2.Uq KX G "OTHER_SIDE" ?a23 ?b23 fun v_ w_OTHER_SIDE=>?z23
 (case a23|b23=>k_is)
 refine' L2.Uq KX G "LENGTHS" ?a24 ?b24 fun FK w_LENGTHS=>?z24
 (case a24|b24=>k_is)
 refine' L2.xk KX G "len" ?a25 fun Vo=>?z25
 (case a25=>k_is)
 refine' L2.xk KX G "all" ?a26 fun Vp=>?z26
 (case a26=>k_is)
 refine' L2.xk KX G "any" ?a27 fun Vq=>?z27
 (case a27=>k_is)
 refine' L2.xk KX G "isinstance" ?a28 fun wa=>?z28
 (case a28=>k_is)
 refine' L2.xk KX G "range" ?a29 fun Ma=>?z29
 (case a29=>k_is)
 refine' L2.xk KX G "int" ?a30 fun Vr=>?z30
 (case a30=>k_is)
 refine' L2.xk KX G "str" ?a31 fun Vs=>?z31
 (case a31=>k_is)
 refine' L2.xk KX G "bool" ?a32 fun QH=>?z32
 (case a32=>k_is)
 refine' L2.xk KX G "tuple" ?a33 fun Mb=>?z33
 (case a33=>k_is)
 refine' L2.xk KX G "list" ?a34 fun QI=>?z34
 (case a34=>k_is)
 refine' L2.xk KX G "dict" ?a35 fun QJ=>?z35
 (case a35=>k_is)
 refine' L2.xk KX G "set" ?a36 fun Vt=>?z36
 (case a36=>k_is)
 refine' L2.xk KX G "zip" ?a37 fun Vu=>?z37
 (case a37=>k_is)
 refine' L2.xk KX G "sorted" ?a38 fun Jj=>?z38
 (case a38=>k_is)
 refine' L2.xk KX G "min" ?a39 fun Vv=>?z39
 (case a39=>k_is)
 refine' L2.xk KX G "max" ?a40 fun Vx=>?z40
 (case a40=>k_is)
 refine' L2.xk KX G "reversed" ?a41 fun B0=>?z41
 (case a41=>k_is)
 refine' L2.Le KX G "BadColumns" ?a42 ?b42 fun wb cZ=>?z42
 (case a42=>k_is)
 (case b42=>k_exc)
 refine' L2.Le KX G "BadRow" ?a43 ?b43 fun Jl gD=>?z43
 (case a43=>k_is)
 (case b43=>k_exc)
 refine' L2.Le KX G "BadOrder" ?a44 ?b44 fun B1 cQ=>?z44
 (case a44=>k_is)
 (case b44=>k_exc)
 refine' L2.Le KX G "BadSieve" ?a45 ?b45 fun B4 h_=>?z45
 (case a45=>k_is)
 (case b45=>k_exc)
 refine' L2.Le KX G "BadPlace" ?a46 ?b46 fun B5 cR=>?z46
 (case a46=>k_is)
 (case b46=>k_exc)
 refine' L2.Le KX G "BadSize" ?a47 ?b47 fun FL nF=>?z47
 (case a47=>k_is)
 (case b47=>k_exc)
 refine' L2.Le KX G "HasKey" ?a48 ?b48 fun Jm qN=>?z48
 (case a48=>k_is)
 (case b48=>k_exc)
 refine' L2.Le KX G "NoKey" ?a49 ?b49 fun Mc uY=>?z49
 (case a49=>k_is)
 (case b49=>k_exc)
 refine' L2.Le KX G "NoMoment" ?a50 ?b50 fun B7 kP=>?z50
 (case a50=>k_is)
 (case b50=>k_exc)
 refine' L2.YS aj "columns" ?a51 fun pI=>?z51
 (case a51=>k_is)
 refine' L2.YS aj "deeds" ?a52 fun tj=>?z52
 (case a52=>k_is)
 refine' L2.YS aj "runs" ?a53 fun wc=>?z53
 (case a53=>k_is)
 refine' L2.gvm KX e2 ?a54 ?b54 ?c54 fun oh=>?z54
 (case a54=>k_is)
 (case b54=>rfl)
 (case c54=>first|rfl|decide|simp [codeHdIn])
 refine' L2.gvm KX e3 ?a55 ?b55 ?c55 fun lx=>?z55
 (case a55=>k_is)
 (case b55=>rfl)
 (case c55=>first|rfl|decide|simp [codeHdIn])
 exact⟨⟨_,_,_,_,_,_,_,_,_,_,_,_,_,_,_,_,_,_,_,_,_,_,_,_,_,_,_,_,_,_,_,_,_,_,_,_,_,_,_,_,_,_,_,_,_,_,_,_,_,_,_⟩,rfl,⟨A0,BZ,F0,D0,F1,D1,F2,F3,F4,F5,F6,F7,D7,F8,D8,mS,oa,mT,rV,jZ,y3,j5,mU,y4,L_,fun H=>L2.MB (xs:=[.str "number",.str "word"]) ⟨_,_,_,w_KINDS,rfl,rfl,(by rw[ye];show 2≤16777216;decide),.cons ⟨_,rfl⟩ (.cons ⟨_,rfl⟩ (.nil))⟩ (L2.uG ["number","word"]),y6,⟨by first|rfl|decide,_,_,_,w_OTHER_WAY,⟨rfl,rfl,rfl⟩,rfl,.cons ⟨rfl,⟨_,rfl⟩,⟨_,rfl⟩⟩ (.cons ⟨rfl,⟨_,rfl⟩,⟨_,rfl⟩⟩ (.nil)),by trivial⟩,y7,⟨by first|rfl|decide,_,_,_,w_OTHER_END,⟨rfl,rfl,rfl⟩,rfl,.cons ⟨rfl,⟨_,rfl⟩,⟨_,rfl⟩⟩ (.cons ⟨rfl,⟨_,rfl⟩,⟨_,rfl⟩⟩ (.nil)),by trivial⟩,v_,⟨by first|rfl|decide,_,_,_,w_OTHER_SIDE,⟨rfl,rfl,rfl⟩,rfl,.cons ⟨rfl,⟨_,rfl⟩,⟨_,rfl⟩⟩ (.cons ⟨rfl,⟨_,rfl⟩,⟨_,rfl⟩⟩ (.nil)),by trivial⟩,FK,⟨by first|rfl|decide,_,_,_,w_LENGTHS,⟨rfl,rfl,rfl⟩,rfl,.cons ⟨rfl,⟨_,rfl⟩,⟨_,rfl⟩⟩ (.cons ⟨rfl,⟨_,rfl⟩,⟨_,rfl⟩⟩ (.cons ⟨rfl,⟨_,rfl⟩,⟨_,rfl⟩⟩ (.cons ⟨rfl,⟨_,rfl⟩,⟨_,rfl⟩⟩ (.cons ⟨rfl,⟨_,rfl⟩,⟨_,rfl⟩⟩ (.cons ⟨rfl,⟨_,rfl⟩,⟨_,rfl⟩⟩ (.cons ⟨rfl,⟨_,rfl⟩,⟨_,rfl⟩⟩ (.cons ⟨rfl,⟨_,rfl⟩,⟨_,rfl⟩⟩ (.cons ⟨rfl,⟨_,rfl⟩,⟨_,rfl⟩⟩ (.nil))))))))),by trivial⟩,Vo,Vp,Vq,wa,Ma,Vr,Vs,QH,Mb,QI,QJ,Vt,Vu,Jj,Vv,Vx,B0,wb,cZ,Jl,gD,B1,cQ,B4,h_,B5,cR,FL,nF,Jm,qN,Mc,uY,B7,kP,L8,aj,⟨L9,(BZ 0 (by decide)).e.at_,(BZ 0 (by decide)).e.fn,k_Shelf⟩,pI,tj,wc,e2,oh,by simp,e3,lx,by simp,by simp,by simp,fun s v=>B6 s [v] rfl⟩⟩
