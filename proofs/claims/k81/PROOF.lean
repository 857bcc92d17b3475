import PyProof.Rows.All
import Wide.All
import OpenK.AllK
import Wide.FinOn
import Lean
import PyProof.EqAt
import PyProof.EqKinds
import PyProof.TupleCall
import PyProof.NsDelKeeps
import KE.KIsBytes
import PyProof.Rows.SetFrom
import KE.KDictOf
import PyProof.AttrMissSeq
import PyProof.WalksMore
import PyProof.ZipIter
import PyProof.StrBlock2
import PyProof.StrBlockI
import PyProof.Rows.StrJoin2
import PyProof.Rows.CountFlat
import PyProof.Rows.Range3
import PyProof.SumWalkG
import PyProof.Rows.ListMulArg
import PyProof.FactsAll.tuple
import PyProof.EnumFor
import PyProof.EnumMake
import KE.KDictLaws
import KE.KDictSum
import KE.KRevIter
import PyProof.Rows.SortStr
import PyProof.Rows.SortWalk
import PyProof.AutoListH
import PyProof.StrLawsReplace
import PyProof.Rows.SortShellK
import KE.KLam
import KE.KSortKey
import KE.KNestM
import PyProof.EnumStmt
import PyProof.ListMulRoad
import PySem.Challenge.RW_pageturns_k81_whole_pages_end_to_end
set_option compiler.extract_closed false
set_option hygiene false in
local macro_rules|`(tactic|obtain $p:rcasesPatMed)=>`(tactic|(rintro _ _ _ _ _ _ _ S R Z hr ($p:rcasesPatMed);subst e))
set_option hygiene false in
local macro_rules|`(tactic|obtain $p:rcasesPatMed:$t)=>`(tactic|(refine $t ?_;rintro _ _ _ _ _ _ _ S R Z hr ($p:rcasesPatMed);subst e;have hu:=hr.u))
local macro_rules|`(tactic| trivial)=>`(tactic| decide +kernel)
set_option Elab.async false
set_option linter.all false
set_option maxRecDepth 100000
set_option genInjectivity false
set_option genSizeOfSpec false
namespace Tactic
section
open PySem
abbrev fv:=List Value
abbrev im:=Array Value
abbrev io:=List Addr
abbrev jp:=List (Addr×Obj)
abbrev j4:=List Env
abbrev lc:=List Str
abbrev li:=Value->Shared->Prop
abbrev mt:=List Expr
abbrev pc:=List Stmt
abbrev pi:=List (Str×Value)
abbrev re:=Option Addr
abbrev rp:=Option Int
abbrev sK:=Option Expr
abbrev tt:=List Keyword
abbrev ul:=List Int
abbrev ut:=Array (Option Value)
abbrev u8:=List (Str×Addr)
abbrev v0:=List (Option Nat)
abbrev wf:=List Bool
abbrev wl:=List PyData
abbrev wS:=List Nat
abbrev wT:=List (Str×Str)
end
theorem qQQ(h:True:=by rfl):True:=h
def qQJ:Lean.Syntax:=qQQ._auto_1
theorem qQX(h:True:=by decide):True:=h
def qQZ:Lean.Syntax:=qQX._auto_1
theorem qQK(h:True:=by intro _;rfl):True:=h
def qQ0:Lean.Syntax:=qQK._auto_1
theorem qQ1(h:True:=by with_unfolding_all rfl):True:=h
def qQ2:Lean.Syntax:=qQ1._auto_1
theorem qQ3(h:True:=by exact⟨rfl,rfl,rfl,rfl⟩):True:=h
def qQ4:Lean.Syntax:=qQ3._auto_1
theorem qQ5(h:True:=by first|exact .inl rfl|exact .inr rfl|assumption):True:=h
def qQ6:Lean.Syntax:=qQ5._auto_1
theorem qQ7(h:True:=by trivial):True:=h
def qQ8:Lean.Syntax:=qQ7._auto_1
theorem qQ9(h:True:=by first|exact .inl rfl|exact .inr rfl):True:=h
def qJQ:Lean.Syntax:=qQ9._auto_1
theorem qJJ(h:True:=by intro _ _ _ _ _;exact{Or.inl rfl,rfl}):True:=h
def qJX:Lean.Syntax:=qJJ._auto_1
theorem qJZ(h:True:=by first|decide|omega):True:=h
def qJK:Lean.Syntax:=qJZ._auto_1
theorem qJ0(h:True:=by first|exact Or.inl rfl|exact Or.inr rfl):True:=h
def qJ1:Lean.Syntax:=qJ0._auto_1
theorem qJ2(h:True:=by intro _ _ _ _ _;rfl):True:=h
def qJ3:Lean.Syntax:=qJ2._auto_1
theorem qJ4(h:True:=by exact{by trivial,rfl,rfl,λ_ _ _ _ _=>{Or.inl rfl,rfl}}):True:=h
def qJ5:Lean.Syntax:=qJ4._auto_1
local macro_rules|`({$a:term})=>`(⟨$a⟩)|`({$a:term,$b:term,*})=>`(⟨$a,$b,*⟩)
local macro_rules|`(!$t)=>do{let mut t:=t;let mut n:=1;for _ in [0:20] do{if let `(!$u):=t then{t:=u;n:=n+1}};let xs←(match t with|`(⟨$x,*⟩)=>pure x.getElems|`({$x:term,$y:term,*})=>pure (#[x]++y.getElems)|_=>Lean.Macro.throwUnsupported);let mut a:=xs;for _ in [0:n] do{a:=#[←`(_),←`(rfl)]++a};`(⟨$a,*⟩)}
open PySem.W (instObj methodObj hideAll hideAll_get of_hideAll Frag lookIn plainGet hasDictIn findIn handedIn plainGet_of isFn plainOver takerIn makesIn emptyDict specialIn keepIn mroIn kitOne kia_one kitx_list fnOf codeIn excIn callWith_K methodCall_KW envX kla_fn codeHdIn tabObj codeHd_of_K nsIn mg_of)
theorem za:type_of%@PySem.Heap.get?_push_of_some:=@PySem.Heap.get?_push_of_some
theorem zb:type_of%@List.length_map:=@List.length_map
theorem zc:type_of%@PySem.wpAny_bind:=@PySem.wpAny_bind
theorem zd:type_of%@Bool.false_ne_true:=@Bool.false_ne_true
theorem ze:type_of%@List.getElem?_eq_getElem:=@List.getElem?_eq_getElem
theorem zf:type_of%@List.mem_cons_of_mem:=@List.mem_cons_of_mem
theorem zg:type_of%@List.getElem?_eq_some_iff:=@List.getElem?_eq_some_iff
theorem zh:type_of%@List.mem_map:=@List.mem_map
theorem zi:type_of%@List.getElem?_map:=@List.getElem?_map
theorem zj:type_of%@List.mem_cons_self:=@List.mem_cons_self
theorem zk:type_of%@List.mem_cons:=@List.mem_cons
theorem zm:type_of%@PySem.Heap.get?_push_size:=@PySem.Heap.get?_push_size
theorem zo:type_of%@PySem.wpAny_pure:=@PySem.wpAny_pure
theorem zp:type_of%@List.size_toArray:=@List.size_toArray
theorem zq:type_of%@Nat.le_refl:=@Nat.le_refl
theorem zr:type_of%@Nat.lt_of_lt_of_le:=@Nat.lt_of_lt_of_le
theorem zt:type_of%@List.map_map:=@List.map_map
theorem zu:type_of%@decide_eq_true:=@decide_eq_true
theorem zw:type_of%@PySem.Heap.lt_size:=@PySem.Heap.lt_size
theorem zx:type_of%@List.map_cons:=@List.map_cons
theorem zy:type_of%@List.mem_of_getElem?:=@List.mem_of_getElem?
theorem zA:type_of%@decide_eq_false:=@decide_eq_false
theorem zB:type_of%@List.getD_eq_getElem?_getD:=@List.getD_eq_getElem?_getD
theorem zC:type_of%@List.map_append:=@List.map_append
theorem zD:type_of%@Nat.ne_of_lt:=@Nat.ne_of_lt
theorem zE:type_of%@List.length_append:=@List.length_append
theorem zG:type_of%@of_decide_eq_true:=@of_decide_eq_true
theorem zH:type_of%@List.mem_append_right:=@List.mem_append_right
theorem zI:type_of%@Bool.and_eq_true:=@Bool.and_eq_true
theorem zJ:type_of%@Nat.le_trans:=@Nat.le_trans
theorem zK:type_of%@List.mem_singleton:=@List.mem_singleton
theorem zL:type_of%@Int.emod_lt_of_pos:=@Int.emod_lt_of_pos
theorem zM:type_of%@PySem.F.plainAttrs_list:=@PySem.F.plainAttrs_list
theorem zN:type_of%@Int.emod_nonneg:=@Int.emod_nonneg
theorem zO:type_of%@List.not_mem_nil:=@List.not_mem_nil
theorem zP:type_of%@List.mem_append:=@List.mem_append
theorem zQ:type_of%@List.length_cons:=@List.length_cons
theorem zR:type_of%@decide_eq_true_eq:=@decide_eq_true_eq
theorem zS:type_of%@Option.some.inj:=@Option.some.inj
theorem zT:type_of%@List.mem_range:=@List.mem_range
theorem zU:type_of%@Nat.zero_le:=@Nat.zero_le
theorem zV:type_of%@of_decide_eq_false:=@of_decide_eq_false
theorem zW:type_of%@PySem.F.slot_list_append:=@PySem.F.slot_list_append
theorem zX:type_of%@PySem.F.type_list_append:=@PySem.F.type_list_append
theorem zY:type_of%@List.map_congr_left:=@List.map_congr_left
theorem zZ:type_of%@Bool.false_and:=@Bool.false_and
theorem z0:type_of%@List.all_eq_true:=@List.all_eq_true
theorem ya:type_of%@Array.length_toList:=@Array.length_toList
theorem yb:type_of%@PySem.wpAny_field:=@PySem.wpAny_field
theorem yc:type_of%@List.find?_cons:=@List.find?_cons
theorem yd:type_of%@PySem.Heap.size_push:=@PySem.Heap.size_push
theorem ye:type_of%@List.drop_eq_getElem_cons:=@List.drop_eq_getElem_cons
theorem yf:type_of%@Bool.true_and:=@Bool.true_and
theorem yg:type_of%@PySem.sizeLine_eq:=@PySem.sizeLine_eq
theorem yh:type_of%@List.lookup_cons:=@List.lookup_cons
theorem yi:type_of%@List.length_take:=@List.length_take
theorem yj:type_of%@PySem.wpAny_newObj_type:=@PySem.wpAny_newObj_type
theorem yk:type_of%@Bool.eq_iff_iff:=@Bool.eq_iff_iff
theorem ym:type_of%@List.nodup_cons:=@List.nodup_cons
theorem yn:type_of%@PySem.mem_of_lookup:=@PySem.mem_of_lookup
theorem yo:type_of%@List.mem_append_left:=@List.mem_append_left
theorem yp:type_of%@List.length_reverse:=@List.length_reverse
theorem yq:type_of%@decide_eq_false_iff_not:=@decide_eq_false_iff_not
theorem yr:type_of%@Nat.ne_of_gt:=@Nat.ne_of_gt
theorem yt:type_of%@Bool.false_eq_true:=@Bool.false_eq_true
theorem yu:type_of%@List.getElem?_of_mem:=@List.getElem?_of_mem
theorem yw:type_of%@PySem.Heap.get?_update_other:=@PySem.Heap.get?_update_other
theorem yx:type_of%@List.any_eq_true:=@List.any_eq_true
theorem yy:type_of%@List.filter_sublist:=@List.filter_sublist
theorem yz:type_of%@PySem.wpAny_truthy_bool:=@PySem.wpAny_truthy_bool
theorem yA:type_of%@PySem.Heap.get?_update_self:=@PySem.Heap.get?_update_self
theorem yB:type_of%@PySem.F.slot_dict_get:=@PySem.F.slot_dict_get
theorem yC:type_of%@PySem.Obj.data_mapFields:=@PySem.Obj.data_mapFields
theorem yD:type_of%@Nat.lt_irrefl:=@Nat.lt_irrefl
theorem yE:type_of%@PySem.Heap.SameBut.update:=@PySem.Heap.SameBut.update
theorem yF:type_of%@List.mem_filter:=@List.mem_filter
theorem yG:type_of%@PySem.Calls.spliced_cons:=@PySem.Calls.spliced_cons
theorem yH:type_of%@PySem.wpAny_call_entry:=@PySem.wpAny_call_entry
theorem yI:type_of%@List.take_length:=@List.take_length
theorem yJ:type_of%@PySem.wpAny_holding:=@PySem.wpAny_holding
theorem yK:type_of%@PySem.wpAny_mono:=@PySem.wpAny_mono
theorem yL:type_of%@Nat.le_of_lt:=@Nat.le_of_lt
theorem yM:type_of%@Nat.le_succ:=@Nat.le_succ
theorem yN:type_of%@List.filter_cons:=@List.filter_cons
theorem yO:type_of%@decide_eq_decide:=@decide_eq_decide
theorem yP:type_of%@Sum.inr.inj:=@Sum.inr.inj
theorem yQ:type_of%@List.foldl_cons:=@List.foldl_cons
theorem yR:type_of%@PySem.codeAny_builtin:=@PySem.codeAny_builtin
theorem yS:type_of%@PySem.Paired.length:=@PySem.Paired.length
theorem yT:type_of%@List.any_cons:=@List.any_cons
theorem yU:type_of%@PySem.wpAny_setField:=@PySem.wpAny_setField
theorem yV:type_of%@List.map_nil:=@List.map_nil
theorem yW:type_of%@PySem.codeAny_mono:=@PySem.codeAny_mono
theorem yX:type_of%@PySem.wpAny_rule:=@PySem.wpAny_rule
theorem yY:type_of%@PySem.wpAny_of_eq:=@PySem.wpAny_of_eq
namespace L2
open PySem PySem.Spec PyProof.Rows
abbrev Key:=Sum Int Str
abbrev wn:=List (Key×Value)
def keyIs:Key->Value->Bool|.inl k,v=>Value.isInt k v|.inr x,v=>Value.isStrOf x v
def YJ(w:World):Key->Int|.inl k=>hashInt k|.inr x=>hashStr w x
theorem bD:∀{k:Key}{v:Value},keyIs k v=true->(∃i t,k=Sum.inl i/\v=Value.int i t)\/(∃x t,k=Sum.inr x/\v=Value.str x t)|.inl i,v,h=>(by obtain⟨t,e⟩:=Value.isInt_shape (k:=i) (v:=v) h;exact .inl ⟨i,t,rfl,e⟩)|.inr x,v,h=>by obtain⟨t,e⟩:=Value.isStrOf_shape (x:=x) (v:=v) h;exact .inr ⟨x,t,rfl,e⟩
theorem FR(i:Int)(t:Tok):keyIs (.inl i) (.int i t)=true:=by simp[keyIs,Value.isInt]
theorem FT(x:Str)(t:Tok):keyIs (.inr x) (.str x t)=true:=by simp[keyIs,Value.isStrOf]
theorem Pz(a b:Int):decide ((Sum.inl a:Key)=Sum.inl b)=(a==b):=by by_cases e:a=b;subst e;simp;have h:¬(Sum.inl a:Key)=Sum.inl b:=λq=>e<|Sum.inl.inj q;rw[zA h];exact(beq_eq_false_iff_ne.mpr e).symm
theorem PB(a b:Str):decide ((Sum.inr a:Key)=Sum.inr b)=decide (a=b):=by by_cases e:a=b;subst e;simp;have h:¬(Sum.inr a:Key)=Sum.inr b:=λq=>e<|yP q;rw[zA h,zA e]
theorem PC(a:Int)(b:Str):decide ((Sum.inl a:Key)=Sum.inr b)=false:=zA λq=>nomatch q
theorem PD(a:Str)(b:Int):decide ((Sum.inr a:Key)=Sum.inl b)=false:=zA λq=>nomatch q
def aH(prog:Program)(w:World):PySem.KeyKind prog w Key where
 is:=keyIs
 hash:=YJ w
 inj:=λv a b ha hb=>by
  rcases bD ha with⟨i,t,rfl,rfl⟩|⟨x,t,rfl,rfl⟩
  ·rcases bD hb with⟨j,u,rfl,e⟩|⟨y,u,rfl,e⟩
   ·injection e with e1 _;rw[e1]
   ·exact nomatch e
  ·rcases bD hb with⟨j,u,rfl,e⟩|⟨y,u,rfl,e⟩
   ·exact nomatch e
   ·injection e with e1 _;rw[e1]
 byValue:=λk v h=>by
  rcases bD h with⟨i,t,rfl,rfl⟩|⟨x,t,rfl,rfl⟩<;>rfl
 pyHash:=λhv h=>by
  rcases bD hv with⟨i,t,rfl,rfl⟩|⟨x,t,rfl,rfl⟩
  ·exact wpAny_pyHash_int h
  ·exact wpAny_pyHash_str h
 eqBool:=λhu hv h=>by
  rcases bD hu with⟨i,t,rfl,rfl⟩|⟨x,t,rfl,rfl⟩
  ·rcases bD hv with⟨j,u,rfl,rfl⟩|⟨y,u,rfl,rfl⟩
   ·rw[Pz]at h;exact wpAny_eqBool_int h
   ·rw[PC]at h;exact SeqAt.EqAt.int_str i t y u _ _ _ _ h
  ·rcases bD hv with⟨j,u,rfl,rfl⟩|⟨y,u,rfl,rfl⟩
   ·rw[PD]at h;exact SeqAt.EqAt.str_int x t j u _ _ _ _ h
   ·rw[PB]at h;exact wpAny_eqBool_str h
 «strs»:=λk x t v h=>by
  rcases bD h with⟨i,u,rfl,e⟩|⟨y,u,rfl,e⟩
  ·exact nomatch e
  ·injection e with e1 _
   subst e1
   cases v<;>rfl
theorem yZ(prog:Program)(w:World)(i:Int)(t:Tok):(aH prog w).is (.inl i) (.int i t)=true:=FR i t
theorem jr(prog:Program)(w:World)(x:Str)(t:Tok):(aH prog w).is (.inr x) (.str x t)=true:=FT x t
set_option genInjectivity true in
set_option genSizeOfSpec true in
inductive V where
 |av|bl (b:Bool)|int (i:Int)|str (x:Str)|Em (b:Array UInt8)|PF (b:UInt64)|ref (a:Addr)|ty (n:String)
 deriving DecidableEq
abbrev dL:=List V
abbrev ge:=List (Key×V)
abbrev ii:=List (Str×V)
def RelV:V->Value->Prop|.av,u=>u=Value.none|.bl b,u=>u=Value.bool b|.int i,u=>∃t,u=Value.int i t|.str x,u=>∃t,u=Value.str x t|.Em b,u=>∃t,u=Value.bytes b t|.PF b,u=>∃t,u=Value.float b t|.ref a,u=>u=Value.ref a|.ty n,u=>u=Value.type n
abbrev Vals:List V->List Value->Prop:=Paired RelV
theorem Vals.length{xs:dL}{us:fv}(r:Vals xs us):xs.length=us.length:=yS r
theorem Vals.get:∀{xs:dL}{us:fv}{i:Nat}{x:V},Vals xs us->xs[i]?=some x->∃u,us[i]?=some u/\RelV x u|_,_,_,_,.nil,e=>by simp at e|_,_,0,_,.cons r _,e=>by simp at e;subst e;exact{_,rfl,r}|_,_,i+1,x,.cons _ t,e=>by obtain⟨u,h1,h2⟩:=Vals.get (i:=i) (x:=x) t (by simpa using e);exact{u,by simpa using h1,h2}
theorem Vals.set(r:RelV x u):∀{xs:dL}{us:fv}(i:Nat),Vals xs us->Vals (xs.set i x) (us.set i u)|_,_,_,.nil=>.nil|_,_,0,.cons _ t=>.cons r t|_,_,i+1,.cons q t=>.cons q<|Vals.set r i t
theorem Vals.append:∀{xs ys:dL}{us ws:fv},Vals xs us->Vals ys ws->Vals (xs++ys) (us++ws)|_,_,_,_,.nil,s=>s|_,_,_,_,.cons r t,s=>.cons r<|Vals.append t s
theorem Vals.take:∀{xs:dL}{us:fv}(n:Nat),Vals xs us->Vals (xs.take n) (us.take n)|_,_,0,_=>.nil|_,_,_+1,.nil=>.nil|_,_,n+1,.cons r t=>.cons r<|Vals.take n t
theorem Vals.drop:∀{xs:dL}{us:fv}(n:Nat),Vals xs us->Vals (xs.drop n) (us.drop n)|_,_,0,r=>r|_,_,_+1,.nil=>.nil|_,_,n+1,.cons _ t=>Vals.drop n t
def gq:Option V->Option Value->Prop|some v,some u=>RelV v u|none,none=>True|_,_=>False
def KV{κ:Type} : List (κ×V)->List (κ×Value)->Prop:=Paired λ(p:κ×V)(q:κ×Value)=>p.1=q.1/\RelV p.2 q.2
def kV:Key->V|.inl i=>.int i|.inr x=>.str x
set_option genInjectivity true in
set_option genSizeOfSpec true in
inductive HO where
  |lst (xs:dL)
  |tup (xs:dL)
  |dK (kvs:ge)|dT (kvs:List<|List Key×V)
  |set (S:Int->Bool) (n:Nat)
  |ins (C dx:Addr) (fs:ii)
  |own (x:Addr)
  |xd (fs:ii)
  |met (f x:Addr)
  |XM (lo hi:Int)
  |lM (o:Obj) (u:HO)
  |qH (ps:im)
  |ext (φ:Heap->Prop)
abbrev Hp:=Addr->Option HO
noncomputable def upd(H:Hp)(a:Addr)(o:HO):Hp:=λb=>if b=a then some o else H b
theorem aG{H:Hp}{a:Addr}{o:HO} : upd H a o a=some o:=by unfold upd;rw[if_pos rfl]
theorem ax{H:Hp}{a b:Addr}{o:HO}(h:b≠a):upd H a o b=H b:=by unfold upd;rw[if_neg h]
theorem aE{H:Hp}{a b:Addr}{o:HO}(h:H a=some o)(h':H b=none):a≠b:=by intro e;subst e;rw[h]at h';cases h'
def iy(h:Heap)(a:Addr)(items:im):Prop:=∃o,h.get? a=some o/\o.cls=.type "tuple"/\o.dict=none/\∃n,o.data=.seq items n
theorem iy.tup(x:iy h a items):IsTup h a items:=by obtain⟨o,e,c,_,n,d⟩:=x;exact⟨o,e,c,n,d⟩
theorem iy.lt(x:iy h a items):a<h.objs.size:=x.tup.lt
theorem iy.new(h:Heap)(items:im):iy (h.push {cls:=.type "tuple",data:=.seq items}) h.objs.size items:={_,zm _ rfl,rfl,rfl,_,rfl}
section
variable(P:Program)(w:World)
def bt(H:Hp)(h:Heap)(a:Addr):HO->Prop|.lst xs=>xs.length<=sizeLine/\∃(aw:fv) (n:Nat),Vals xs aw/\h.get? a=some {cls:=.type "list",data:=.seq aw.toArray n}|.tup xs=>xs.length<=sizeLine/\∃aw:fv,Vals xs aw/\iy h a aw.toArray|.dK kvs=>kvs.length<=sizeLine/\(a==sysModules)=false/\∃vs,KV kvs vs/\h.DictOf (aH P w) a vs|.dT _=>False|.set S n=>h.SetOf (intKind P w) a S n|.ins C dx fs=>H dx=some (.own a)/\fs.length<=1000/\dx≠a/\h.get? a=some (instObj C dx)/\∃mA,h.Ns1 dx mA/\(∀f,gq (fs.lookup f)<|mA f)/\PySem.Within mA (fs.map (·.1))|.own _=>∃o,h.get? a=some o|.xd fs=>∃mA,h.Ns1 a mA/\∀f,gq (fs.lookup f) (mA f)|.XM lo hi=>∃t u v,h.get? a=some {cls:=.type "range",data:=.fields #[.int lo t,.int hi u,.int 1 v]}|.lM o u=>h.get? a=some o/\bt H h a u|.qH ps=>h.get? a=some {cls:=.none,data:=.fields ps}|.met f x=>h.get? a=some (methodObj (.ref f)<|.ref x)|.ext φ=>φ h/\(∃o,h.get? a=some o)/\∀h1 h2:Heap,φ h1->(∀o,h1.get? a=some o->h2.get? a=some o)->φ h2
def lN(H:Hp)(h:Heap):Prop:=∀a o,H a=some o->bt P w H h a o
end
section
variable{P:Program}{w:World}{H H':Hp}{h h':Heap}{a:Addr}{o:HO}
theorem bt.lt(x:bt P w H h a o):a<h.objs.size:=by cases o with|lst xs=>(obtain⟨_,_,_,_,e⟩:=x;exact zw e)|tup xs=>(obtain⟨_,_,_,p⟩:=x;exact p.lt)|dK kvs=>(obtain⟨_,_,_,_,o,_,_,e,_⟩:=x;exact zw e)|dT kvs=>exact False.elim x|set S n=>(obtain⟨o,_,_,_,e,_⟩:=x;exact zw e)|ins C dx fs=>(obtain⟨_,_,_,e,_⟩:=x;exact zw e)|own y=>(obtain⟨_,e⟩:=x;exact zw e)|xd fs=>(obtain⟨_,⟨_,_,_,e,_⟩,_⟩:=x;exact zw e)|XM lo hi=>(obtain⟨_,_,_,e⟩:=x;exact zw e)|lM ob u=>(obtain⟨e,_⟩:=x;exact zw e)|qH ps=>exact zw (show h.get? a=some _ from x)|met f y=>exact zw (show h.get? a=some _ from x)|ext φ=>obtain⟨_,⟨_,e⟩,_⟩:=x;exact zw e
theorem bt.qh(x:bt P w H h a o)(k:∀b u,(b=a\/H b=some (.own a))->h.get? b=some u->h'.get? b=some u)(ho:∀b,H b=some (.own a)->H' b=some (.own a))(ht:∀b xs,H b=some (.tup xs)->H' b=some (.tup xs)):bt P w H' h' a o:=by induction o with|lst xs=>(obtain⟨z,aw,n,r,e⟩:=x;exact{z,aw,n,r,k _ _ (.inl rfl) e})|tup xs=>(obtain⟨z,aw,r,ob,e,c⟩:=x;exact{z,aw,r,ob,k _ _ (.inl rfl) e,c})|dK kvs=>(obtain⟨z,y,vs,r,ob,es,ep,e,c⟩:=x;exact{z,y,vs,r,ob,es,ep,k _ _ (.inl rfl) e,c})|dT kvs=>exact False.elim x|set S n=>(obtain⟨ob,es,ep,t,e,c⟩:=x;exact{ob,es,ep,t,k _ _ (.inl rfl) e,c})|ins C dx fs=>(obtain⟨d,z,ne,e,mA,⟨od,es,ep,e2,c⟩,r⟩:=x;exact{ho _ d,z,ne,k _ _ (.inl rfl) e,mA,{od,es,ep,k _ _ (.inr d) e2,c},r})|own y=>(obtain⟨ob,e⟩:=x;exact{ob,k _ _ (.inl rfl) e})|xd fs=>(obtain⟨mA,⟨od,es,ep,e,c⟩,r⟩:=x;exact{mA,{od,es,ep,k _ _ (.inl rfl) e,c},r})|XM lo hi=>(obtain⟨t,u,v,e⟩:=x;exact{t,u,v,k _ _ (.inl rfl) e})|lM ob u ih=>(obtain⟨e,q⟩:=x;exact{k _ _ (.inl rfl) e,ih q})|qH ps=>have e:h.get? a=some {cls:=.none,data:=.fields ps}:=x;show h'.get? a=some {cls:=.none,data:=.fields ps};exact k a _ (.inl rfl) e|met f y=>have e:h.get? a=some (methodObj (.ref f)<|.ref y):=x;show h'.get? a=some (methodObj (.ref f)<|.ref y);exact k a _ (.inl rfl) e|ext φ=>obtain⟨p,⟨o,e⟩,st⟩:=x;exact{st _ _ p λo q=>k _ _ (.inl rfl) q,{o,k _ _ (.inl rfl) e},st}
theorem lN.lt(x:lN P w H h)(e:H a=some o):a<h.objs.size:=(x a o e).lt
theorem lN.fresh(x:lN P w H h)(e:h.objs.size<=a):H a=none:=by cases q:H a with|none=>rfl|some u=>exact absurd (zr (x.lt q) e)<|yD _
theorem lN.kept(x:lN P w H h)(k:∀b u,h.get? b=some u->h'.get? b=some u):lN P w H h':=λa o e=>(x a o e).qh (λb u _ q=>k b u q) (λ_ q=>q) λ_ _ q=>q
theorem lN.laid(x:lN P w H h)(k:∀b u,h.get? b=some u->h'.get? b=some u)(hp:h.objs.size<=a)(new:bt P w (upd H a o) h' a o):lN P w (upd H a o) h':=λb u e=>by have hn:=x.fresh hp;by_cases hb:b=a;subst hb;rw[aG]at e;cases e;exact new;rw[ax hb]at e;exact(x b u e).qh (λc v _ q=>k c v q) (λc q=>by rw[ax<|aE q hn];exact q) λc xs q=>by rw[ax<|aE q hn];exact q
end
def Rd(H:Hp)(a:Addr)(u:HO):Prop:=H a=some u\/∃o,H a=some (.lM o u)
theorem Rd.of(h:H a=some u):Rd H a u:=.inl h
theorem Rd.ok{P:Program}{w:World}{H:Hp}{h:Heap}{a:Addr}{u:HO}(r:Rd H a u)(x:lN P w H h):bt P w H h a u:=by rcases r with r|⟨o,r⟩;exact x a u r;obtain⟨_,q⟩:=x a _ r;exact q
def Ul:Option HO->Prop|some (.lst _)=>True|some (.dK _)=>True|some (.dT _)=>True|some (.set _ _)=>True|some (.ins _ _ _)=>True|some (.ext _)=>True|_=>False
section
variable{P:Program}{w:World}{H:Hp}{h h':Heap}{x e:Addr}{o':HO}
theorem lN.write(ok:lN P w H h)(mu:Ul<|H x)(he:e=x\/H e=some (.own x))(k:∀b u,b≠e->h.get? b=some u->h'.get? b=some u)(Tc:∃u,h'.get? e=some u)(new:bt P w (upd H x o') h' x o'):lN P w (upd H x o') h':=λb u q=>by
 have Um:∀c y,H c=some (.own y)->c≠x:=λc y r z=>by subst z;rw[r]at mu;exact mu
 have YK:∀c xs,H c=some (.tup xs)->c≠x:=λc xs r z=>by subst z;rw[r]at mu;exact mu
 by_cases hb:b=x;subst hb;rw[aG]at q;cases q;exact new;rw[ax hb]at q;by_cases nS:b=e;have q':H b=some (.own x):=by rcases he with z|z;exact absurd (nS.trans z) hb;rw[nS];exact z
 rw[q]at q';cases q';obtain⟨v,hv⟩:=Tc;exact{v,by rw[nS];exact hv};refine(ok b u q).qh (λc v hc r=>k c v ?_ r) (λc r=>by rw[ax<|Um c b r];exact r) λc xs r=>by rw[ax<|YK c xs r];exact r
 rcases hc with rfl|hc;exact nS;rintro rfl;rcases he with z|z;exact Um c b hc z;rw[hc]at z;cases z;exact hb rfl
end
structure Un(fs ex:io)(H H':Hp)(h h':Heap):Prop where
 keep:∀b o,h.get? b=some o->H b=none->b∉fs->b∉ex->h'.get? b=some o
 slot:∀b o,h.get? b=some o->H b=none->b∈fs->b∉ex->∃sl,h'.get? b=some {o with slots:=sl}
 free:∀b o,h.get? b=some o->H b=none->b∉ex->H' b=none
 there:∀b o,h.get? b=some o->b∉ex->∃o',h'.get? b=some o'
 mz:∀b xs,H b=some (.tup xs)->H' b=some (.tup xs)
 lO:∀b o u,H b=some (.lM o u)->H' b=some (.lM o u)
 lP:∀b ps,H b=some (.qH ps)->∃more,H' b=some (.qH<|ps++more)
section
variable{fs ex:io}{H H1:Hp}{h h1 h':Heap}{a x e:Addr}{o:HO}
theorem Un.any(u:Un fs ex H H1 h h1){b:Addr}{ob:Obj}(q:h.get? b=some ob)(n:H b=none)(hx:b∉ex):∃sl,h1.get? b=some {ob with slots:=sl}:=by by_cases hb:b∈fs;exact u.slot b ob q n hb hx;exact{ob.slots,u.keep b ob q n hb hx}
theorem Un.kept(k:∀b u,h.get? b=some u->h'.get? b=some u):Un fs ex H H h h':={λb ob q _ _ _=>k b ob q,λb ob q _ _ _=>{ob.slots,k b ob q},λ_ _ _ n _=>n,λb ob q _=>{ob,k b ob q},λ_ _ q=>q,λ_ _ _ q=>q,λ_ ps q=>{#[],by rw[q];simp}}
theorem Un.refl:Un fs ex H H h h:=Un.kept λ_ _ q=>q
theorem Un.laid(k:∀b u,h.get? b=some u->h'.get? b=some u)(hp:h.objs.size<=a)(hn:H a=none):Un fs ex H (upd H a o) h h' where
 keep:=λb u q _ _ _=>k b u q
 slot:=λb u q _ _ _=>{u.slots,k b u q}
 free:=λb u q n _=>by rw[ax<|zD<|zr (zw q) hp];exact n
 there:=λb u q _=>{u,k b u q}
 mz:=λb xs q=>by rw[ax<|aE q hn];exact q
 lO:=λb u xs q=>by rw[ax<|aE q hn];exact q
 lP:=λb ps q=>{#[],by rw[ax<|aE q hn,q];simp}
theorem Un.write(mu:Ul<|H x)(he:e=x\/H e=some (.own x))(k:∀b u,b≠e->h.get? b=some u->h'.get? b=some u)(Tc:∃u,h'.get? e=some u):Un fs ex H (upd H x o) h h':=by
 have hx:∀b,H b=none->b≠x:=λb n z=>by subst z;rw[n]at mu;exact mu
 have hb:∀b,H b=none->b≠e:=λb n z=>by subst z;rcases he with r|r;exact hx b n r;rw[n]at r;cases r
 have hm:∀b u,H b=some u->¬Ul (some u)->b≠x:=λb u q nm z=>by subst z;rw[q]at mu;exact nm mu
 refine⟨λb u q n _ _=>k b u (hb b n) q,λb u q n _ _=>{u.slots,k b u (hb b n) q},λb u q n _=>by rw[ax<|hx b n];exact n,λb u q _=>?_,
  λb xs q=>by rw[ax<|hm b _ q λz=>z];exact q,λb u xs q=>by rw[ax<|hm b _ q λz=>z];exact q,λb ps q=>{#[],by rw[ax<|hm b _ q λz=>z,q];simp}⟩
 by_cases nS:b=e;subst nS;exact Tc;exact{u,k b u nS q}
end
noncomputable def XN(h:Heap)(H:Hp):io:=(List.range h.objs.size).filter λa=>(H a).isSome
noncomputable def ue(h:Heap)(H:Hp):Heap:=hideAll h<|XN h H
theorem FU(h:Heap)(H:Hp):(ue h H).objs.size=h.objs.size:=PySem.W.hideAll_size _ _
theorem Ii(e:h.get? b=some o)(n:H b=none):(ue h H).get? b=some o:=hideAll_get _ e λhm=>by have q:(H b).isSome=true:=(yF.mp hm).2;rw[n]at q;simp at q
theorem LO(e:(ue h H).get? b=some o):h.get? b=some o/\H b=none:=by have e':h.get? b=some o:=of_hideAll (XN h H) e;refine{e',?_};cases q:H b with|none=>rfl|some x=>have hm:b∈XN h H:=yF.mpr {zT.mpr<|zw e',by simp[q]};have z:(ue h H).get? b=none:=PySem.W.hideAll_none (XN h H) hm;rw[z]at e;cases e
noncomputable def LP(g h:Heap)(L:Addr):jp:=(List.range h.objs.size).filterMap λa=>if a=L\/(g.get? a).isSome=true then none else (h.get? a).map λo=>(a,o)
noncomputable def rest(g h:Heap)(L d:Addr):jp:=(LP g h L).filter λp=>decide<|p.1≠d
structure Mod(K:Frag)(mg:Str->Option Value)(base:Heap):Prop where
 Te:K.In base
 glob:base.Ns mainGlobals mg
 blt:∃mb,base.Ns builtinsNs mb/\∀x:Str,x≠"__name__"->mb x=bootBuiltins x
 nolimit:base.NoLimit
structure Cx where
 prog:Program
 w:World
 K:Frag
 mg:Str->Option Value
 base:Heap
 A:Around
 N:List Str
 dw:Shared
 vX:Hp
 env:Env
 outer:List Env
 stack:List Env
 ex:List Addr
 fn:Str->Bool
 calm:Bool
 pn:List (Addr×Obj)
 xe:Value->Shared->Prop
def nY(l:j4):io:=l.filterMap (·.frame)
noncomputable abbrev Cx.fs(X:Cx):io:=nY X.outer
def PH(sc:Scope)(x:Str):Prop:=sc.names.lookup x=some .local\/sc.names.lookup x=some .cell\/sc.names.lookup x=some .free
def Loc(sc:Scope)(x:Str):Prop:=sc.names.lookup x=some .local\/sc.names.lookup x=some .cell
def Look(env:Env)(h:Heap)(m:Str->Option Value)(x:Str)(u:Value):Prop:=(env.kindOf x=some .local/\m x=some u)\/((env.kindOf x=some .cell\/env.kindOf x=some .free)/\∃c,env.cells.lookup x=some c/\h.IsCell c (some u))
structure Cx.Ok(X:Cx):Prop where
 mod:Mod X.K X.mg X.base
 kind:X.env.scope.kind=.function
 glob:X.env.globals=mainGlobals
 blt:X.env.builtins=builtinsNs
 above:X.dw.heap.objs.size<=X.env.locals
 inj:∀x y c,X.env.cells.lookup x=some c->X.env.cells.lookup y=some c->x=y
 has:∀x,(X.env.kindOf x=some .cell\/X.env.kindOf x=some .free)->∃c,X.env.cells.lookup x=some c
 YL:∀x c,X.fn x=true->X.env.cells.lookup x=some c->X.dw.heap.objs.size<=c
 hd:X.calm=true->X.A.handled=none
 frames:X.A.frames=some X.stack
 stk:X.stack=X.outer\/(X.stack=X.env::X.outer/\X.env.frame=some X.env.locals)
 exf:∀b∈X.ex,b≠X.env.locals/\∀x c,X.env.cells.lookup x=some c->c≠b
 bs:∀b o,X.base.get? b=some o->X.dw.heap.get? b=some o/\X.vX b=none
 LQ:X.base.objs.size<=X.dw.heap.objs.size
 PJ:∀b o,X.base.get? b=some o->b∉X.ex
 Uo:∀b∈X.ex,b∉X.fs
 qj:X.dw.heap.FunFrames X.base X.outer
 PK:∀b∈X.fs,X.vX b=none
structure Inv(X:Cx)(pins:jp)(σ:List (Option V))(H:Hp)(s:Shared):Prop where
 ok:X.Ok
 os:s.os=X.dw.os
 bare:AllBare s.gens
 base:Un X.fs X.ex X.vX H X.dw.heap s.heap
 loc:∃m,s.heap.Ns X.env.locals m/\∀(i:Nat)(x:Str)(v:V),X.N[i]?=some x->σ[i]?=some (some v)->PH X.env.scope x->∃u,RelV v u/\Look X.env s.heap m x u
 cell:∀x c,X.env.cells.lookup x=some c->∃v,s.heap.IsCell c v
 free:H X.env.locals=none
 gw:∀x c,X.env.cells.lookup x=some c->H c=none
 pin:∀p∈X.pn++pins,s.heap.get? p.1=some p.2/\H p.1=none/\p.1≠X.env.locals/\p.1∉X.fs/\∀v,p.2.data≠.cell v
 aN:lN X.prog X.w H s.heap
 len:σ.length=X.N.length
section
variable{X:Cx}{pins:jp}{σ:List (Option V)}{H H':Hp}{s:Shared}{h':Heap}
theorem Cx.Ok.FV(ok:X.Ok)(e:X.base.get? b=some o):b∉X.fs:=λhb=>by have:=(ok.qj.mem hb).1;rw[e]at this;cases this
theorem Inv.bs(I:Inv X pins σ H s):∀b o,X.base.get? b=some o->s.heap.get? b=some o/\H b=none:=λb o e=>{I.base.keep b o (I.ok.bs b o e).1 (I.ok.bs b o e).2 (I.ok.FV e)<|I.ok.PJ b o e,I.base.free b o (I.ok.bs b o e).1 (I.ok.bs b o e).2<|I.ok.PJ b o e}
theorem Inv.bk(I:Inv X pins σ H s):∀b o,X.base.get? b=some o->s.heap.get? b=some o:=λb o e=>(I.bs b o e).1
theorem Inv.mod(I:Inv X pins σ H s):Mod X.K X.mg X.base:=I.ok.mod
theorem Inv.pj(I:Inv X pins σ H s):X.K.In s.heap:=I.ok.mod.Te.keeps I.bk
theorem Inv.nolimit(I:Inv X pins σ H s):s.heap.NoLimit:=I.ok.mod.nolimit.keeps I.bk
theorem Inv.fr(I:Inv X pins σ H s):∃m,Fr X.base X.env.locals s.heap m :=
 let ⟨m,hn,_⟩:=I.loc
 ⟨m,hn,I.bk,zJ I.ok.LQ I.ok.above⟩
theorem Inv.lt(I:Inv X pins σ H s):X.env.locals<s.heap.objs.size:=by obtain⟨_,hn,_⟩:=I.loc;exact hn.lt
theorem Inv.sz(I:Inv X pins σ H s):X.dw.heap.objs.size<=s.heap.objs.size:=zJ I.ok.above<|yL I.lt
theorem Inv.Up(I:Inv X pins σ H s)(h:s.heap.objs.size<=a):a∉X.fs:=λhb=>by obtain⟨_,o,ho,_⟩:=I.ok.qj.mem hb;exact absurd (zr (zw ho)<|zJ I.sz h)<|yD _
theorem Inv.PL(I:Inv X pins σ H s):∀x c,X.env.cells.lookup x=some c->c≠X.env.locals:=λx c e z=>by obtain⟨v,o,ho,hd⟩:=I.cell x c e;obtain⟨m,⟨o',es,ep,BV,BW,_⟩,_⟩:=I.loc;rw[z,BV]at ho;cases ho;rw[BW]at hd;cases hd
theorem Inv.qj(I:Inv X pins σ H s):s.heap.FunFrames X.base X.outer:=by
 have all:∀(l:j4),(∀b∈nY l,b∈X.fs)->X.dw.heap.FunFrames X.base l->s.heap.FunFrames X.base l:=by intro l;induction l with|nil=>intro _ _;trivial|cons env r ih=>intro hs hl;obtain⟨hk,⟨L,o,hf,hn,ho,hd⟩,hr⟩:=hl;have hL:L∈X.fs:=hs L (by unfold nY;rw[List.filterMap_cons,hf];exact zj);obtain⟨sl,e⟩:=I.base.slot L o ho (I.ok.PK L hL) hL λz=>I.ok.Uo L z hL;exact{hk,{L,_,hf,hn,e,hd},ih (λb hb=>hs b<|by unfold nY;rw[List.filterMap_cons,hf];exact zf _ hb) hr}
 exact all X.outer (λ_ hb=>hb) I.ok.qj
theorem Inv.stack(I:Inv X pins σ H s):s.heap.FunFrames X.base X.stack:=by rcases I.ok.stk with e|⟨e,hf⟩;rw[e];exact I.qj;rw[e];obtain⟨m,hn,_⟩:=I.loc;refine .cons (by rw[I.ok.kind];decide) hf hn ?_ I.qj;exact Heap.get?_none_of_le<|zJ I.ok.LQ I.ok.above
theorem Inv.nZ(I:Inv X pins σ H s):∀b∈nY X.stack,b∈X.env.locals::X.fs:=λb hb=>by rcases I.ok.stk with e|⟨e,hf⟩;rw[e]at hb;exact zf _ hb;rw[e]at hb;unfold nY at hb;rw[List.filterMap_cons,hf]at hb;exact hb
theorem Inv.qI(I:Inv X pins σ H s):∀b∈nY X.stack,H b=none:=λb hb=>by rcases zk.mp (I.nZ b hb) with e|hb;rw[e];exact I.free;obtain⟨_,o,ho,_⟩:=I.ok.qj.mem hb;exact I.base.free b o ho (I.ok.PK b hb) λz=>I.ok.Uo b z hb
theorem Inv.step{g':Array GenState}{t':Nat}{d':Drawn}{ch:io}(I:Inv X pins σ H s)(rA:∀b∈ch,(b∈X.ex\/X.dw.heap.objs.size<=b)/\b≠X.env.locals/\(∀x c,X.env.cells.lookup x=some c->c≠b)/\∀p∈X.pn++pins,p.1≠b)(keep:∀b o,b≠X.env.locals->b∉X.fs->b∉ch->s.heap.get? b=some o->H b=none->h'.get? b=some o)(slot:∀b o,b≠X.env.locals->b∈X.fs->b∉ch->s.heap.get? b=some o->H b=none->∃sl,h'.get? b=some {o with slots:=sl})(free:∀b o,b∉ch->s.heap.get? b=some o->H b=none->H' b=none)(there:∀b o,b∉ch->s.heap.get? b=some o->∃o',h'.get? b=some o')(mz:∀b xs,H b=some (.tup xs)->H' b=some (.tup xs))(lO:∀b o u,H b=some (.lM o u)->H' b=some (.lM o u))(lP:∀b ps,H b=some (.qH ps)->∃more,H' b=some (.qH<|ps++more))(ns:∀m,s.heap.Ns X.env.locals m->h'.Ns X.env.locals m)(aN:lN X.prog X.w H' h')(hg:AllBare g'): Inv X pins σ H' {s with heap:=h',gens:=g',drawn:=d',toks:=t'}:=by
 have neL:∀b o,X.dw.heap.get? b=some o->b≠X.env.locals:=λb o e=>zD<|zr (zw e) I.ok.above;have XO:∀b o,X.dw.heap.get? b=some o->b∉X.ex->b∉ch:=λb o e hx hb=>by rcases (rA b hb).1 with z|z;exact hx z;exact absurd (zr (zw e) z)<|yD _
 have cellK:∀x c,X.env.cells.lookup x=some c->∀v,s.heap.IsCell c v->h'.IsCell c v:=by rintro x c e v ⟨o,ho,hd⟩;have Uq:c∉ch:=λz=>(rA c z).2.2.1 x c e rfl;by_cases hc:c∈X.fs;obtain⟨sl,q⟩:=slot c o (I.PL x c e) hc Uq ho<|I.gw x c e;exact{_,q,hd};exact{o,keep c o (I.PL x c e) hc Uq ho<|I.gw x c e,hd}
 refine{I.ok,I.os,hg,{λb o e n hb hx=>?_,λb o e n hb hx=>?_,λb o e n hx=>?_,λb o e hx=>?_,λb xs e=>mz b xs<|I.base.mz b xs e,λb o xs e=>lO b o xs<|I.base.lO b o xs e,λb ps e=>?_},?_,λx c e=>?_,?_,λx c e=>?_,λp hp=>?_,aN,I.len};exact keep b o (neL b o e) hb (XO b o e hx) (I.base.keep b o e n hb hx)<|I.base.free b o e n hx;obtain⟨sl,e1⟩:=I.base.slot b o e n hb hx;obtain⟨sl',e2⟩:=slot b _ (neL b o e) hb (XO b o e hx) e1<|I.base.free b o e n hx;exact⟨sl',e2⟩;obtain⟨o',e1⟩:=I.base.there b o e hx;exact free b o' (XO b o e hx) e1<|I.base.free b o e n hx;obtain⟨o',e1⟩:=I.base.there b o e hx;exact there b o' (XO b o e hx) e1;obtain⟨m1,e1⟩:=I.base.lP b ps e;obtain⟨m2,e2⟩:=lP b _ e1;exact{m1++m2,by rw[e2,Array.append_assoc]};obtain⟨m,hn,hl⟩:=I.loc;refine{m,ns m hn,λi x v e1 e2 e3=>?_};obtain⟨u,r,l⟩:=hl i x v e1 e2 e3;refine{u,r,?_};rcases l with l|⟨k,c,e,z⟩;exact .inl l;exact .inr {k,c,e,cellK x c e _ z};obtain⟨v,z⟩:=I.cell x c e;exact{v,cellK x c e v z};obtain⟨m,⟨o,_,_,ho,_⟩,_⟩:=I.loc;exact free _ o (λz=>(rA _ z).2.1 rfl) ho I.free;obtain⟨v,o,ho,hd⟩:=I.cell x c e;exact free c o (λz=>(rA c z).2.2.1 x c e rfl) ho<|I.gw x c e;obtain⟨e,n,ne,nf,d⟩:=I.pin p hp;have Uq:p.1∉ch:=λz=>(rA p.1 z).2.2.2 p hp rfl;exact{keep p.1 p.2 ne nf Uq e n,free p.1 p.2 Uq e n,ne,nf,d}
theorem Inv.un{t':Nat}(I:Inv X pins σ H s)(u:Un X.fs [] H H' s.heap h')(aN:lN X.prog X.w H' h'):Inv X pins σ H' {s with heap:=h',toks:=t'}:=by obtain⟨m,⟨o,es,ep,ho,r⟩,_⟩:=id I.loc;obtain⟨sl,hL⟩:=u.any ho I.free (by simp);exact I.step (g':=s.gens) (d':=s.drawn) (ch:=[]) (λ_ z=>nomatch z) (λb o _ hb _ e n=>u.keep b o e n hb<|by simp) (λb o _ hb _ e n=>u.slot b o e n hb<|by simp) (λb o _ e n=>u.free b o e n<|by simp) (λb o _ e=>u.there b o e<|by simp) u.mz u.lO u.lP (λm' hm=>by obtain⟨o',XQ,YM,BV,r'⟩:=hm;rw[ho]at BV;cases BV;exact{_,XQ,YM,hL,r'}) aN I.bare
theorem Inv.call{g':Array GenState}{t':Nat}{d':Drawn}{ch:io}(I:Inv X pins σ H s)(u:Un (nY X.stack) ch H H' s.heap h')(aN:lN X.prog X.w H' h')(hg:AllBare g')(rA:∀b∈ch,(b∈X.ex\/X.dw.heap.objs.size<=b)/\b≠X.env.locals/\(∀x c,X.env.cells.lookup x=some c->c≠b)/\∀p∈X.pn++pins,p.1≠b): Inv X pins σ H' {s with heap:=h',gens:=g',drawn:=d',toks:=t'}:=by obtain⟨m,⟨o,es,ep,ho,r⟩,_⟩:=id I.loc;obtain⟨sl,hL⟩:=u.any ho I.free λz=>(rA _ z).2.1 rfl;exact I.step (ch:=ch) rA (λb o hL hb hc e n=>u.keep b o e n (λz=>(zk.mp<|I.nZ b z).elim hL hb) hc) (λb o _ _ hc e n=>u.any e n hc) (λb o hc e n=>u.free b o e n hc) (λb o hc e=>u.there b o e hc) u.mz u.lO u.lP (λm' hm=>by obtain⟨o',XQ,YM,BV,r'⟩:=hm;rw[ho]at BV;cases BV;exact{_,XQ,YM,hL,r'}) aN hg
theorem Inv.turned{t':Nat}{it:Addr}(I:Inv X pins σ H s)(k:∀b o,b≠it->s.heap.get? b=some o->h'.get? b=some o)(hn:H it=none)(hL:it≠X.env.locals)(h1:it∈X.ex\/X.dw.heap.objs.size<=it)(h2:∀x c,X.env.cells.lookup x=some c->c≠it)(h3:∀p∈X.pn++pins,p.1≠it):Inv X pins σ H {s with heap:=h',toks:=t'}:=by
 have PM:∀b u,H b=some u->b≠it:=λb u e z=>by rw[z,hn]at e;cases e
 refine I.step (g':=s.gens) (d':=s.drawn) (ch:=[it]) (λb hb=>?_) (λb o _ _ hc e _=>k b o (λz=>hc<|by simp[z]) e) (λb o _ _ hc e _=>{o.slots,k b o (λz=>hc<|by simp[z]) e}) (λ_ _ _ _ n=>n) (λb o hc e=>{o,k b o (λz=>hc<|by simp[z]) e}) (λ_ _ e=>e) (λ_ _ _ e=>e) (λb ps e=>{#[],by rw[e];simp}) (λm hm=>?_) (λb u e=>?_) I.bare;have e:b=it:=by simpa using hb
 subst e;exact⟨h1,hL,h2,h3⟩;obtain⟨o,es,ep,ho,r⟩:=hm;exact{o,es,ep,k _ o (Ne.symm hL) ho,r};refine(I.aN b u e).qh (λc v hc q=>k c v ?_ q) (λ_ q=>q) λ_ _ q=>q;rcases hc with z|z;rw[z];exact PM b u e;exact PM c _ z
theorem Inv.tok(I:Inv X pins σ H s)(t:Nat):Inv X pins σ H {s with toks:=t}:=I.un (h':=s.heap) (t':=t) Un.refl I.aN
theorem Inv.kept(I:Inv X pins σ H s)(k:∀b u,s.heap.get? b=some u->h'.get? b=some u):Inv X pins σ H {s with heap:=h',toks:=t'}:=I.un (Un.kept k)<|I.aN.kept k
theorem Inv.laid{a:Addr}{o:HO}{t':Nat}(I:Inv X pins σ H s)(k:∀b u,s.heap.get? b=some u->h'.get? b=some u)(hp:s.heap.objs.size<=a)(new:bt X.prog X.w (upd H a o) h' a o): Inv X pins σ (upd H a o) {s with heap:=h',toks:=t'}:=I.un (Un.laid k hp<|I.aN.fresh hp)<|I.aN.laid k hp new
theorem Inv.write(I:Inv X pins σ H s)(mu:Ul<|H x)(he:e=x\/H e=some (.own x))(k:∀b u,b≠e->s.heap.get? b=some u->h'.get? b=some u)(Tc:∃u,h'.get? e=some u)(new:bt X.prog X.w (upd H x o) h' x o):Inv X pins σ (upd H x o) {s with heap:=h',toks:=t'}:=I.un (Un.write mu he k Tc)<|I.aN.write mu he k Tc new
theorem Inv.weak(I:Inv X pins σ H s)(hl:aA.length=σ.length)(w:∀(i:Nat) v,aA[i]?=some (some v)->σ[i]?=some (some v)):Inv X pins aA H s:={I.ok,I.os,I.bare,I.base,by obtain⟨m,hn,hl'⟩:=I.loc;exact{m,hn,λi x v e1 e2 e3=>hl' i x v e1 (w i v e2) e3},I.cell,I.free,I.gw,I.pin,I.aN,hl.trans I.len}
theorem Inv.mB(I:Inv X pins σ H s)(h:∀p∈pins',s.heap.get? p.1=some p.2/\H p.1=none/\p.1≠X.env.locals/\p.1∉X.fs/\∀v,p.2.data≠.cell v):Inv X pins' σ H s:={I.ok,I.os,I.bare,I.base,I.loc,I.cell,I.free,I.gw,λp hp=>(zP.mp hp).elim (λz=>I.pin p<|yo _ z)<|h p,I.aN,I.len}
theorem y1{N:lc}(hN:N.Nodup){i j:Nat}{x:Str}(a:N[i]?=some x)(b:N[j]?=some x):i=j:=by obtain⟨h1,e1⟩:=zg.mp a;obtain⟨h2,e2⟩:=zg.mp b;exact(List.getElem_inj hN).mp<|e1.trans e2.symm
theorem uS{M:Model}{A:Around}{E:li}{i:Nat}{x:Str}{v:V}{u:Value}{Q:Unit->Shared->Prop}(I:Inv X pins σ H s)(hN:X.N.Nodup)(hi:X.N[i]?=some x)(hx:Loc X.env.scope x)(r:RelV v u)(h:∀s',Inv X pins (σ.set i<|some v) H s'->(∃a,Heap.SameBut a s.heap s'.heap/\(a=X.env.locals\/X.env.cells.lookup x=some a))->Q () s')(hf:autoParam (X.fn x=true\/X.env.scope.names.lookup x=some .local) qQ6):wpAny M A (storeName X.env x u) Q E s:=by
 obtain⟨m,hn,hl⟩:=id I.loc;have YN:(X.env.scope.kind==.class||(X.env.scope.kind==.module&&X.env.locals != X.env.globals))=false:=by rw[I.ok.kind];rfl
 have Ur:i<σ.length:=by rw[I.len];exact(zg.mp hi).1
 have PL:=I.PL;have tracked:∀{a:Addr}{h':Heap},(∃o,s.heap.get? a=some o/\H a=none)->Heap.SameBut a s.heap h'->lN X.prog X.w H h':=λ{a h'} ha hs b ob e=>by obtain⟨_,_,Ob⟩:=ha;refine(I.aN b ob e).qh (λc w' hc q=>(hs.2 c ?_).trans q) (λ_ q=>q) λ_ _ q=>q;rintro rfl;rcases hc with rfl|hc;rw[Ob]at e;cases e;rw[Ob]at hc;cases hc
 rcases hx with hk|hk;refine wpAny_storeName_local hk hn (λh' Oc hs=>?_) YN;obtain⟨oL,_,_,HR,_⟩:=id hn;refine h _ {I.ok,I.os,I.bare,{λb o e n hb hx=>?_,λb o e n hb hx=>?_,I.base.free,λb o e hx=>?_,I.base.mz,I.base.lO,I.base.lP},{_,Oc,λj y v' e1 e2 e3=>?_},λy c e=>?_,I.free,I.gw,λp hp=>?_,tracked ⟨oL,HR,I.free⟩ hs,by simpa using I.len} {_,hs,.inl rfl};exact(hs.2 b<|zD<|zr (zw e) I.ok.above).trans<|I.base.keep b o e n hb hx;obtain⟨sl,e1⟩:=I.base.slot b o e n hb hx;exact{sl,(hs.2 b<|zD<|zr (zw e) I.ok.above).trans e1};obtain⟨o',e1⟩:=I.base.there b o e hx;exact{o',(hs.2 b<|zD<|zr (zw e) I.ok.above).trans e1};by_cases hj:j=i;subst hj;rw[hi]at e1;cases e1;rw[List.getElem?_set_self Ur]at e2;cases e2;exact{u,r,.inl {hk,by simp}};rw[List.getElem?_set_ne<|Ne.symm hj]at e2;obtain⟨u',r',q⟩:=hl j y v' e1 e2 e3;refine{u',r',?_};rcases q with⟨k,e⟩|⟨k,c,e,z⟩;refine .inl {k,?_};have:y≠x:=λe=>hj<|y1 hN e1<|e ▸ hi;simp[this,e];exact .inr {k,c,e,z.sameBut hs<|PL y c e};obtain⟨w',z⟩:=I.cell y c e;exact{w',z.sameBut hs<|PL y c e};obtain⟨e,n,ne,nf,d⟩:=I.pin p hp;exact{(hs.2 p.1 ne).trans e,n,ne,nf,d};have YO:X.fn x=true:=by rcases hf with z|z;exact z;rw[z]at hk;cases hk
 obtain⟨c,hc⟩:=I.ok.has x<|.inl hk;obtain⟨w',z⟩:=I.cell x c hc;refine wpAny_storeName_cell I.ok.kind hk hc z λh' PN hs=>?_;obtain⟨oc,XR,YQ⟩:=id z;refine h {s with heap:=h'} {I.ok,I.os,I.bare,{λb o e n hb hx=>?_,λb o e n hb hx=>?_,I.base.free,λb o e hx=>?_,I.base.mz,I.base.lO,I.base.lP},{m,hn.sameBut hs<|Ne.symm<|PL x c hc,λj y v' e1 e2 e3=>?_},λy c' e=>?_,I.free,I.gw,λp hp=>?_,tracked {oc,XR,I.gw x c hc} hs,by simpa using I.len} {c,hs,.inr hc};exact(hs.2 b<|zD<|zr (zw e)<|I.ok.YL x c YO hc).trans<|I.base.keep b o e n hb hx;obtain⟨sl,e1⟩:=I.base.slot b o e n hb hx;exact{sl,(hs.2 b<|zD<|zr (zw e)<|I.ok.YL x c YO hc).trans e1};obtain⟨o',e1⟩:=I.base.there b o e hx;exact{o',(hs.2 b<|zD<|zr (zw e)<|I.ok.YL x c YO hc).trans e1};by_cases hj:j=i;subst hj;rw[hi]at e1;cases e1;rw[List.getElem?_set_self Ur]at e2;cases e2;exact{u,r,.inr {.inl hk,c,hc,PN}};rw[List.getElem?_set_ne<|Ne.symm hj]at e2;obtain⟨u',r',q⟩:=hl j y v' e1 e2 e3;refine{u',r',?_};rcases q with q|⟨k,c',e,z'⟩;exact .inl q;refine .inr {k,c',e,z'.sameBut hs ?_};rintro rfl;exact hj<|y1 hN e1<|I.ok.inj _ _ _ e hc ▸ hi;by_cases Us:c'=c;subst Us;exact{_,PN};obtain⟨w2,z2⟩:=I.cell y c' e;exact{w2,z2.sameBut hs Us};obtain⟨e,n,ne,nf,d⟩:=I.pin p hp;refine{(hs.2 p.1 ?_).trans e,n,ne,nf,d};intro q;rw[q,XR]at e;have q':oc=p.2:=zS e;exact d w'<|by rw[<-q'];exact YQ
theorem js(I:Inv X pins σ H s)(hN:X.N.Nodup)(hi:X.N[i]?=some x)(hx:Loc X.env.scope x)(r:RelV v u)(h:∀s',Inv X pins (σ.set i<|some v) H s'->Q () s')(hf:autoParam (X.fn x=true\/X.env.scope.names.lookup x=some .local) qQ6):wpAny M A (storeName X.env x u) Q E s:=uS I hN hi hx r (λs' I' _=>h s' I') hf
theorem Inv.Ut(I:Inv X pins σ H s)(ho:s'.os=s.os)(u:Un (nY X.stack) ch H H' s.heap s'.heap)(aN:lN X.prog X.w H' s'.heap)(hg:AllBare s'.gens)(rA:∀b∈ch,(b∈X.ex\/X.dw.heap.objs.size<=b)/\b≠X.env.locals/\(∀x c,X.env.cells.lookup x=some c->c≠b)/\∀p∈X.pn++pins,p.1≠b):Inv X pins σ H' s':=by obtain⟨h',g',d',t',o'⟩:=s';have e:o'=s.os:=ho;subst e;exact I.call (g':=g') (t':=t') (d':=d') u aN hg rA
end
abbrev XK:=Value->Option Addr->Hp->Prop
abbrev St:=List<|Option V
abbrev VK:=V->Hp->Prop
abbrev TE:=St->Hp->VK->Prop
abbrev TT:=St->Hp->(Bool->Hp->Prop)->Prop
abbrev TA:=St->Hp->(List V->Hp->Prop)->Prop
structure Ends where
 nx:St->Hp->Prop
 rt:VK
 bk:St->Hp->Prop:=λ_ _=>False
 ct:St->Hp->Prop:=λ_ _=>False
abbrev TS:=Ends->St->Hp->Prop
def EP(X:Cx)(pins:jp)(σ:St)(Q:VK)(u:Value)(s':Shared):Prop:=∃v H',Inv X pins σ H' s'/\RelV v u/\Q v H'
def TP(X:Cx)(pins:jp)(σ:St)(Q:Bool->Hp->Prop)(b:Bool)(s':Shared):Prop:=∃H',Inv X pins σ H' s'/\Q b H'
def AP(X:Cx)(pins:jp)(σ:St)(Q:List V->Hp->Prop)(us:fv)(s':Shared):Prop:=∃vs H',Inv X pins σ H' s'/\Vals vs us/\Q vs H'
def SP(X:Cx)(pins:jp)(D:Ends)(f:Flow)(s':Shared):Prop:=match f with|.next=>∃aA H',Inv X pins aA H' s'/\D.nx aA H'|.brk=>∃aA H',Inv X pins aA H' s'/\D.bk aA H'|.cont=>∃aA H',Inv X pins aA H' s'/\D.ct aA H'|.ret u=>∃v aA H',Inv X pins aA H' s'/\RelV v u/\D.rt v H'
def PE(X:Cx)(e:Expr)(t:TE):Prop:=∀(pins:jp)(s:Shared)(σ:St)(H:Hp)(Q:VK),Inv X pins σ H s->t σ H Q->wpAny (model X.prog X.w) X.A (eval e X.env) (EP X pins σ Q) X.xe s
def PT(X:Cx)(e:Expr)(t:TT):Prop:=∀(pins:jp)(s:Shared)(σ:St)(H:Hp)(Q:Bool->Hp->Prop),Inv X pins σ H s->t σ H Q->wpAny (model X.prog X.w) X.A (isTrue e X.env<|eval e X.env) (TP X pins σ Q) X.xe s
def PW(X:Cx)(e:Expr)(t:TT):Prop:=∀(whole:Sem Value)(pins:jp)(s:Shared)(σ:St)(H:Hp)(Q:Bool->Hp->Prop),Inv X pins σ H s->t σ H Q->wpAny (model X.prog X.w) X.A (isTrue e X.env whole) (TP X pins σ Q) X.xe s
theorem PW.pt{t:TT}(h:PW X e t):PT X e t:=h _
def PA(X:Cx)(es:mt)(t:TA):Prop:=∀(pos:Pos)(pins:jp)(s:Shared)(σ:St)(H:Hp)(Q:List V->Hp->Prop),Inv X pins σ H s->t σ H Q->wpAny (model X.prog X.w) X.A (spliced<|backTo pos<|starEach es X.env) (AP X pins σ Q) X.xe s
def PS(X:Cx)(st:Stmt)(t:TS):Prop:=∀(pins:jp)(s:Shared)(σ:St)(H:Hp)(D:Ends),Inv X pins σ H s->t D σ H->wpAny (model X.prog X.w) X.A (exec st X.env) (SP X pins D) X.xe s
def En(X:Cx)(st:pc)(t:TS):Prop:=∀(pins:jp)(s:Shared)(σ:St)(H:Hp)(D:Ends),Inv X pins σ H s->t D σ H->wpAny (model X.prog X.w) X.A (execs st X.env) (SP X pins D) X.xe s
theorem br{t:Sem α}(h:wpAny M A t Q E s)(hQ:∀a s,Q a s->Q' a s):wpAny M A t Q' E s:=yK h hQ λ_ _ x=>x
section
variable{X:Cx}
def YR(i:Nat):TE:=λσ H Q=>∃v,σ[i]?=some (some v)/\Q v H
def tC(v:V):TE:=λ_ H Q=>Q v H
theorem PQ(hN:X.N[i]?=some x)(hv:PH X.env.scope x)(hd:autoParam ((x==("__debug__": Str))=false) qQZ)(tZ:autoParam ((x==("__classdict__": Str))=false) qQZ):PE X (.Name x pos) (YR i):=by intro pins s σ H Q I h;obtain⟨v,e,h⟩:=h;obtain⟨m,hn,hl⟩:=I.loc;obtain⟨u,r,l⟩:=hl i x v hN e hv;have fin:EP X pins σ Q u s:=⟨v,H,I,r,h⟩;rcases l with⟨hk,hm⟩|⟨hk,c,hc,Eo⟩;exact wpAny_Name (wpAny_loadName_local I.ok.kind hk hn hm fin) hd;rcases hk with hk|hk;exact wpAny_Name (wpAny_loadName_cell I.ok.kind hk hc Eo fin) hd;exact wpAny_Name (wpAny_loadName_free I.ok.kind hk hc Eo fin tZ) hd
theorem Ij:PE X (.Constant (.int i) j pos) (tC<|.int i):=λ_ _ _ H _ I h=>wpAny_Constant_int {.int i,H,I.tok _,{_,rfl},h}
theorem Od:PE X (.Constant (.bool b) j pos) (tC<|.bl b):=λ_ _ _ H _ I h=>Constant_bool {.bl b,H,I,rfl,h}
theorem PR:PE X (.Constant .none j pos) (tC .av):=λ_ _ _ H _ I h=>Constant_none {.av,H,I,rfl,h}
theorem PU:PE X (.Constant (.str x) j pos) (tC<|.str x):=λ_ _ _ H _ I h=>Calls.Constant_str {.str x,H,I.tok _,{_,rfl},h}
def Gl(X:Cx)(x:Str):Prop:=X.env.kindOf x=some .globalImplicit
theorem qJ(I:Inv X pins σ H s)(hg:Gl X x)(hm:X.mg x=some u)(h:Q u s)(hd:autoParam ((x==("__debug__": Str))=false) qQZ):wpAny (model X.prog X.w) X.A (eval (.Name x pos) X.env) Q E s:=Calls.Name_function_global I.ok.kind hg (Calls.loadGlobal_global (by rw[I.ok.glob];exact I.mod.glob.keeps I.bk) hm h) hd
theorem fG(I:Inv X pins σ H s)(hg:Gl X x)(hm:X.mg x=none)(hv:bootBuiltins x=some u)(h:Q u s)(hn:autoParam (x≠"__name__") qQZ)(hd:autoParam ((x==("__debug__": Str))=false) qQZ):wpAny (model X.prog X.w) X.A (eval (.Name x pos) X.env) Q E s:=by obtain⟨mb,h1,h2⟩:=I.mod.blt;exact Calls.Name_function_global I.ok.kind hg (Calls.loadGlobal_builtin (by rw[I.ok.glob];exact I.mod.glob.keeps I.bk) hm (by rw[I.ok.blt];exact h1.keeps I.bk) ((h2 x hn).trans hv) h) hd
theorem Ep(hg:Gl X x)(hm:X.mg x=some u)(r:RelV v u)(hd:autoParam ((x==("__debug__": Str))=false) qQZ):PE X (.Name x pos) (tC v):=λ_ _ _ H _ I h=>qJ I hg hm ⟨v,H,I,r,h⟩ hd
theorem LR(hg:Gl X x)(hm:X.mg x=none)(hv:bootBuiltins x=some u)(r:RelV v u)(hn:autoParam (x≠"__name__") qQZ)(hd:autoParam ((x==("__debug__": Str))=false) qQZ):PE X (.Name x pos) (tC v):=λ_ _ _ H _ I h=>fG I hg hm hv ⟨v,H,I,r,h⟩ hn hd
variable{a b:Expr}{ta tb:TE}{pos:Pos}
def tB(t:TE):TT:=λσ H Q=>t σ H λx H1=>∃c,x=.bl c/\Q c H1
theorem PX{t:TE}(h:PE X e t)(he:autoParam (∀whole,isTrue e X.env whole=(do let v <-whole;standAt e.pos;holding [v] (truthy v))) qQ0):PT X e (tB t):=by intro pins s σ H Q I hw;refine isTrue_plain (br (h pins s σ H _ I hw) λv s1 ⟨x,H1,I1,r1,q1⟩=>?_)<|he _;obtain⟨d,rfl,q⟩:=q1;cases r1;exact yz ⟨H1,I1,q⟩
variable{tA XS:TT}{rest:mt}
def YS(t u:TT):TT:=λσ H Q=>t σ H λc H1=>if c=true then u σ H1 Q else Q false H1
def tOr(t u:TT):TT:=λσ H Q=>t σ H λc H1=>if c=true then Q true H1 else u σ H1 Q
def YT(t:TT):TT:=λσ H Q=>t σ H λc H1=>Q (!c) H1
theorem pw_and1(ha:PT X a tA):PW X (.BoolOp .And [a] pos) tA:=by intro wh pins s σ H Q I h;refine isTrue_and<|br (ha pins s σ H Q I h) λc s1 e=>?_;cases c with|true=>exact isTrue_and_nil e|false=>exact e
theorem pw_or1(ha:PT X a tA):PW X (.BoolOp .Or [a] pos) tA:=by intro wh pins s σ H Q I h;refine isTrue_or<|br (ha pins s σ H Q I h) λc s1 e=>?_;cases c with|false=>exact isTrue_or_nil e|true=>exact e
theorem pw_and(ha:PT X a tA)(hb:PW X (.BoolOp .And (b::rest) pos) XS):PW X (.BoolOp .And (a::b::rest) pos) (YS tA XS):=by intro wh pins s σ H Q I h;refine isTrue_and<|br (ha pins s σ H _ I h) ?_;rintro c s1 ⟨H1,I1,q1⟩;cases c with|true=>exact hb wh pins s1 σ H1 Q I1 q1|false=>exact⟨H1,I1,q1⟩
theorem pw_or(ha:PT X a tA)(hb:PW X (.BoolOp .Or (b::rest) pos) XS):PW X (.BoolOp .Or (a::b::rest) pos) (tOr tA XS):=by intro wh pins s σ H Q I h;refine isTrue_or<|br (ha pins s σ H _ I h) ?_;rintro c s1 ⟨H1,I1,q1⟩;cases c with|true=>exact⟨H1,I1,q1⟩|false=>exact hb wh pins s1 σ H1 Q I1 q1
theorem PY(ha:PT X a tA):PT X (.UnaryOp .Not a pos) (YT tA):=by intro pins s σ H Q I h;exact isTrue_not<|ha pins s σ H (λc H1=>Q (!c) H1) I h
def Uu(ta tb:TE):TE:=λσ H Q=>ta σ H λx H1=>∃c,x=.bl c/\if c=true then tb σ H1 Q else Q (.bl false) H1
def YU(ta tb:TE):TE:=λσ H Q=>ta σ H λx H1=>∃c,x=.bl c/\if c=true then Q (.bl true) H1 else tb σ H1 Q
def Uv(ta:TE):TE:=λσ H Q=>ta σ H λx H1=>∃c,x=.bl c/\Q (.bl<|!c) H1
theorem PZ{t:TE}(h:PE X a t):PE X (.BoolOp op [a] pos) t:=λpins s σ H Q I hw=>BoolOp_one<|h pins s σ H Q I hw
theorem P0(ha:PE X a ta)(hb:PE X (.BoolOp .And (b::rest) pos) tb):PE X (.BoolOp .And (a::b::rest) pos) (Uu ta tb):=by intro pins s σ H Q I h;refine BoolOp_and<|br (ha pins s σ H _ I h) ?_;rintro v s1 ⟨x,H1,I1,r1,q1⟩;obtain⟨c,rfl,q1⟩:=q1;cases r1;refine yz ?_;cases c with|true=>exact hb pins s1 σ H1 Q I1 q1|false=>exact{.bl false,H1,I1,rfl,q1}
theorem Uw(ha:PE X a ta)(hb:PE X (.BoolOp .Or (b::rest) pos) tb):PE X (.BoolOp .Or (a::b::rest) pos) (YU ta tb):=by intro pins s σ H Q I h;refine BoolOp_or<|br (ha pins s σ H _ I h) ?_;rintro v s1 ⟨x,H1,I1,r1,q1⟩;obtain⟨c,rfl,q1⟩:=q1;cases r1;refine yz ?_;cases c with|false=>exact hb pins s1 σ H1 Q I1 q1|true=>exact{.bl true,H1,I1,rfl,q1}
theorem P1(ha:PE X a ta):PE X (.UnaryOp .Not a pos) (Uv ta):=by intro pins s σ H Q I h;refine UnaryOp_<|br (ha pins s σ H _ I h) ?_;rintro v s1 ⟨x,H1,I1,r1,q1⟩;obtain⟨c,rfl,q1⟩:=q1;cases r1;exact not_of<|yz {.bl<|!c,H1,I1,rfl,q1}
def tIf(t:TT)(ta tb:TE):TE:=λσ H Q=>t σ H λc H1=>if c=true then ta σ H1 Q else tb σ H1 Q
theorem Ik(hc:PT X c tA)(ha:PE X a ta)(hb:PE X b tb):PE X (.IfExp c a b pos) (tIf tA ta tb):=by intro pins s σ H Q I h;refine wpAny_IfExp<|br (hc pins s σ H _ I h) ?_;rintro d s1 ⟨H1,I1,q1⟩;cases d with|true=>exact ha pins s1 σ H1 Q I1 q1|false=>exact hb pins s1 σ H1 Q I1 q1
end
def jq(K:Frag)(H:Hp)(a:Addr)(xs:dL):Prop:=Rd H a (.lst xs)\/∃(o:Obj)(aw:im)(n:Nat),K.lookup a=some o/\o.cls=.type "list"/\o.dict=none/\o.data=.seq aw n/\aw.size<=sizeLine/\Vals xs aw.toList
def i4(K:Frag)(H:Hp)(a:Addr)(xs:dL):Prop:=Rd H a (.tup xs)\/∃(o:Obj)(aw:im)(n:Nat),K.lookup a=some o/\o.cls=.type "tuple"/\o.data=.seq aw n/\aw.size<=sizeLine/\Vals xs aw.toList
noncomputable def YV:Value->Option V|.none=>some .av|.bool b=>some (.bl b)|.int i _=>some (.int i)|.str x _=>some (.str x)|.bytes b _=>some (.Em b)|.float b _=>some (.PF b)|.ref a=>some (.ref a)|.type n=>some (.ty n)|_=>none
theorem RelV.abs(r:RelV x u):YV u=some x:=by cases x with|av=>(cases r;rfl)|bl _=>(cases r;rfl)|int _=>(obtain⟨t,rfl⟩:=r;rfl)|str _=>(obtain⟨t,rfl⟩:=r;rfl)|Em _=>(obtain⟨t,rfl⟩:=r;rfl)|PF _=>(obtain⟨t,rfl⟩:=r;rfl)|ref _=>(cases r;rfl)|ty _=>cases r;rfl
theorem RelV.inj(r:RelV x u)(q:RelV y u):x=y:=zS<|r.abs.symm.trans q.abs
theorem Vals.inj:∀{xs ys:dL}{us:fv},Vals xs us->Vals ys us->xs=ys|_,_,_,.nil,.nil=>rfl|_,_,_,.cons r t,.cons r' t'=>by rw[r.inj r',Vals.inj t t']
section
variable{X:Cx}{pins:jp}{σ:St}{H:Hp}{s:Shared}{a:Addr}{xs ys:dL}
theorem jq.of{K:Frag}(h:H a=some (.lst xs)):jq K H a xs:=.inl<|.inl h
theorem i4.of{K:Frag}(h:H a=some (.tup xs)):i4 K H a xs:=.inl<|.inl h
theorem Inv.list(I:Inv X pins σ H s)(h:jq X.K H a xs):∃aw:fv,Vals xs aw/\PlainL s.heap a aw.toArray/\xs.length<=sizeLine:=by rcases h with h|⟨o,aw,n,hk,hc,hd,hs,hz,r⟩;obtain⟨z,aw,n,r,e⟩:=h.ok I.aN;exact{aw,r,{_,n,e,rfl,rfl,rfl},z};refine{aw.toList,r,{o,n,I.pj a o hk,hc,hd,by simpa using hs},?_};have e:=r.length;simp only[ya]at e;lia
theorem Inv.tuple(I:Inv X pins σ H s)(h:i4 X.K H a xs):∃aw:fv,Vals xs aw/\IsTup s.heap a aw.toArray/\xs.length<=sizeLine:=by rcases h with h|⟨o,aw,n,hk,hc,hs,hz,r⟩;obtain⟨z,aw,r,p⟩:=h.ok I.aN;exact⟨aw,r,p.tup,z⟩;refine{aw.toList,r,{o,I.pj a o hk,hc,n,by simpa using hs},?_};have e:=r.length;simp only[ya]at e;lia
theorem Inv.y3(I:Inv X pins σ H s)(h:jq X.K H a xs)(h':jq X.K H a ys):xs=ys:=by
 obtain⟨aw,r,⟨o,n,e,_,_,d⟩,_⟩:=I.list h;obtain⟨its',r',⟨o',n',e',_,_,d'⟩,_⟩:=I.list h';rw[e]at e';cases e';rw[d]at d';injection d' with d1 _;have:aw=its':=by simpa using congrArg Array.toList d1
 subst this;exact r.inj r'
theorem Inv.n5(I:Inv X pins σ H s)(h:i4 X.K H a xs)(h':i4 X.K H a ys):xs=ys:=by
 obtain⟨aw,r,⟨o,e,_,n,d⟩,_⟩:=I.tuple h;obtain⟨its',r',⟨o',e',_,n',d'⟩,_⟩:=I.tuple h';rw[e]at e';cases e';rw[d]at d';injection d' with d1 _;have:aw=its':=by simpa using congrArg Array.toList d1
 subst this;exact r.inj r'
end
noncomputable abbrev Cx.adF(X:Cx)(E:li):Cx:={X with xe:=E}
section
variable{X:Cx}{st:Stmt}{rest:pc}{t u:TS}{e:Expr}{te:TE}{pos:Pos}
def Ux:TS:=λD σ H=>D.nx σ H
def YW(t u:TS):TS:=λD σ H=>t {D with nx:=u D} σ H
theorem LS:En X [] Ux:=λ_ _ σ H _ I h=>wpAny_execs_nil ⟨σ,H,I,h⟩
theorem Il(h1:PS X st t)(h2:En X rest u):En X (st::rest) (YW t u):=by intro pins s σ H D I h;refine wpAny_execs_cons<|br (h1 pins s σ H {D with nx:=u D} I h) λf s1 q=>?_;cases f with|next=>(obtain⟨aA,H',I',q⟩:=q;exact h2 pins s1 aA H' D I' q)|ret v=>exact q|brk=>exact q|cont=>exact q
theorem LU(h1:PS X st t):En X [st] t:=by intro pins s σ H D I h;refine wpAny_execs_cons<|br (h1 pins s σ H D I h) λf s1 q=>?_;cases f with|next=>exact wpAny_execs_nil q|ret v=>exact q|brk=>exact q|cont=>exact q
theorem Inv.quiet(I:Inv X pins σ H s):interactive X.env=false:=by simp[interactive,I.ok.kind]
def Uy(te:TE):TS:=λD σ H=>te σ H λ_ H1=>D.nx σ H1
theorem LV(he:PE X e te)(hs:autoParam (swapsWith e none pos.line X.env=pure false) qQJ):PS X (.Expr e pos) (Uy te):=by intro pins s σ H D I h;exact wpAny_Expr_any (br (he pins s σ H _ I h) <| by rintro v s1 ⟨x,H1,I1,r1,q1⟩;exact⟨σ,H1,I1,q1⟩) I.quiet hs
def YX(te:TE):TS:=λD σ H=>te σ H D.rt
theorem P2(he:PE X e te):PS X (.Return (some e) pos) (YX te):=by intro pins s σ H D I h;exact wpAny_Return_some<|br (he pins s σ H _ I h) <| by rintro v s1 ⟨x,H1,I1,r1,q1⟩;exact⟨x,σ,H1,I1,r1,q1⟩
def YY(c:TT)(t u:TS):TS:=λD σ H=>c σ H λb H1=>if b=true then t D σ H1 else u D σ H1
theorem Uz(hc:PT X c tc)(ha:En X a t)(hb:En X b u):PS X (.If c a b pos) (YY tc t u):=by intro pins s σ H D I h;refine wpAny_If<|br (hc pins s σ H _ I h) ?_;rintro d s1 ⟨H1,I1,q1⟩;cases d with|true=>exact ha pins s1 σ H1 D I1 q1|false=>exact hb pins s1 σ H1 D I1 q1
end
abbrev TG:=V->St->Hp->(St->Hp->Prop)->Prop
abbrev Oe:=List V->St->Hp->(St->Hp->Prop)->Prop
def PG(X:Cx)(target:Expr)(t:TG):Prop:=∀(pins:jp)(s:Shared)(σ:St)(H:Hp)(v:V)(u:Value)(Q:St->Hp->Prop),Inv X pins σ H s->RelV v u->t v σ H Q->wpAny (model X.prog X.w) X.A (assign target X.env u) (λ_ s'=>∃aA H',Inv X pins aA H' s'/\Q aA H') X.xe s
def Of(X:Cx)(ts:mt)(t:Oe):Prop:=∀(pins:jp)(s:Shared)(σ:St)(H:Hp)(vs:dL)(us:fv)(Q:St->Hp->Prop),Inv X pins σ H s->Vals vs us->t vs σ H Q->wpAny (model X.prog X.w) X.A (assignInOrder ((assignEach ts X.env).map (·.2)) us) (λ_ s'=>∃aA H',Inv X pins aA H' s'/\Q aA H') X.xe s
abbrev P4:=V->V->V->Hp->(Hp->Prop)->Prop
def UA(X:Cx)(t:P4):Prop:=∀(pins:jp)(s:Shared)(σ:St)(H:Hp)(o i v:V)(ov iv u:Value)(Q:Hp->Prop),Inv X pins σ H s->RelV o ov->RelV i iv->RelV v u->t o i v H Q->wpAny (model X.prog X.w) X.A (setItem ov iv u) (λ_ s'=>∃H',Inv X pins σ H' s'/\Q H') X.xe s
abbrev YZ:=V->V->Hp->VK->Prop
def PIp(X:Cx)(op:Operator)(t:YZ):Prop:=∀(pins:jp)(s:Shared)(σ:St)(H:Hp)(x y:V)(v u:Value)(Q:VK),Inv X pins σ H s->RelV x v->RelV y u->t x y H Q->wpAny (model X.prog X.w) X.A (inplaceOp op v u) (EP X pins σ Q) X.xe s
section
variable{X:Cx}{pos:Pos}
def i5(i:Nat):TG:=λv σ H Q=>Q (σ.set i<|some v) H
theorem qL(hN:X.N.Nodup)(hi:X.N[i]?=some x)(hx:Loc X.env.scope x)(hf:autoParam (X.fn x=true\/X.env.scope.names.lookup x=some .local) qQ6):PG X (.Name x pos) (i5 i):=by intro pins s σ H v u Q I r h;exact wpAny_assign_Name<|js I hN hi hx r (λs' I'=>{_,H,I',h}) hf
def LW:Oe:=λvs σ H Q=>vs=[]/\Q σ H
def rB(t:TG)(u:Oe):Oe:=λvs σ H Q=>∃v r,vs=v::r/\t v σ H λaA H'=>u r aA H' Q
theorem Er:Of X [] LW:=by intro pins s σ H vs us Q I r h;obtain⟨e,h⟩:=h;subst e;cases r;exact assignInOrder_nil ⟨σ,H,I,h⟩
theorem rC{t:TG}(h1:PG X e t)(h2:Of X es u)(hs:autoParam ((assignEach (e::es) X.env).map (·.2)=assign e X.env::(assignEach es X.env).map (·.2)) qQJ):Of X (e::es) (rB t u):=by intro pins s σ H vs us Q I r h;obtain⟨v,vr,e1,h⟩:=h;subst e1;cases r with|cons r rr=>rw[hs];refine assignInOrder_cons<|br (h1 pins s σ H _ _ _ I r h) ?_;rintro _ s1 ⟨x5,H1,I1,q1⟩;exact h2 pins s1 x5 H1 _ _ Q I1 rr q1
def LX(K:Frag)(n:Nat)(t:Oe):TG:=λv σ H Q=>∃a xs,v=.ref a/\i4 K H a xs/\xs.length=n/\t xs σ H Q
theorem Im{t:Oe}(hc:X.calm=true)(h:Of X es t)(hn:autoParam ((assignEach es X.env).length=n) qQJ)(uf:autoParam ((assignEach es X.env).findIdx? (·.1)=none) qQJ):PG X (.Tuple es k pos) (LX X.K n t):=by intro pins s σ H v u Q I r hw;obtain⟨a,xs,e1,hq,hl,hw⟩:=hw;subst e1;cases r;obtain⟨aw,rv,ht,hz⟩:=I.tuple hq;refine assign_Tuple_tuple (I.ok.hd hc) ht (by simp[hn,<-hl,rv.length]) uf λh' hx=>?_;have I1:Inv X pins σ H {s with heap:=h'}:=I.kept (t':=s.toks) λb o e=>hx b o (zD<|zw e) e;exact h pins _ σ H xs _ Q I1 (by simpa using rv) hw
def Y0(to ti:TE)(t:P4):TG:=λv σ H Q=>to σ H λo H1=>ti σ H1 λi H2=>t o i v H2 λH3=>Q σ H3
theorem P5{t:P4}(ho:PE X o to)(hi:PE X i ti)(hs:UA X t)
  (ha:autoParam (∀v,assign (.Subscript o i pos) X.env v=(do
   let ov <-holding [v] (eval o X.env)
   let iv <-holding [v,ov] (eval i X.env)
   standAt pos
   holding [v,ov,iv] (setItem ov iv v)
   release [v,ov,iv] [])) qQ0):PG X (.Subscript o i pos) (Y0 to ti t):=by
 intro pins s σ H v u Q I r h
 rw[ha]
 refine zc<|yJ<|br (ho pins s σ H _ I h) ?_
 rintro ov s1 ⟨x,H1,I1,r1,q1⟩
 refine zc<|yJ<|br (hi pins s1 σ H1 _ I1 q1) ?_
 rintro iv s2 ⟨y,H2,I2,r2,q2⟩
 refine zc<|wpAny_standAt<|zc<|yJ<|br (hs pins s2 σ H2 x y v ov iv u _ I2 r1 r2 r q2) ?_
 rintro _ s3 ⟨H3,I3,q3⟩
 exact wpAny_release ⟨σ,H3,I3,q3⟩
def P6(te:TE)(g:TG):TS:=λD σ H=>te σ H λx H1=>g x σ H1 D.nx
theorem Io(he:PE X e te)(hg:PG X tg g)(hs:autoParam (swapsWithSole [tg] e pos.line X.env=pure false) qQJ)(hw:autoParam (swappedStores [tg] e X.env=pure none) qQJ)(h1:autoParam ((assignEach [tg] X.env).map (·.2)=[assign tg X.env]) qQJ):PS X (.Assign [tg] e pos) (P6 te g):=by intro pins s σ H D I h;refine wpAny_Assign_stores (br (he pins s σ H _ I h) λv s1 ⟨x,H1,I1,r1,q1⟩=>?_) hs hw;rw[h1];exact br (hg pins s1 σ H1 x v _ I1 r1 q1) λ_ s2 q=>q
theorem P7(hN:X.N.Nodup)(hi:X.N[i]?=some x)(hx:Loc X.env.scope x)(he:PE X e te)(hs:autoParam (swapsWith e (some<|.Name x pos') pos.line X.env=pure false) qQJ)(hf:autoParam (X.fn x=true\/X.env.scope.names.lookup x=some .local) qQ6): PS X (.Assign [.Name x pos'] e pos) (P6 te<|i5 i):=by intro pins s σ H D I h;refine wpAny_Assign_Name (br (he pins s σ H _ I h) λv s1 ⟨y,H1,I1,r1,q1⟩=>?_) hs;exact js I1 hN hi hx r1 (λs2 I2=>{_,H1,I2,q1}) hf
def Y1(i j:Nat)(ta:TA):TS:=λD σ H=>ta σ H λvs H1=>∃v w,vs=[v,w]/\D.nx ((σ.set i<|some v).set j<|some w) H1
theorem P8(hc:X.calm=true)(hN:X.N.Nodup)(hi:X.N[i]?=some x)(hj:X.N[j]?=some y)(jt:i≠j)(hx:X.env.scope.names.lookup x=some .local)(hy:X.env.scope.names.lookup y=some .local)(ha:PA X [a,b] ta)(hw:swappedStores [.Tuple [.Name x px,.Name y py] kt pt] (.Tuple [a,b] k2 pt2) X.env=pure (some [x,y]))(hs:autoParam (swapsWithSole [.Tuple [.Name x px,.Name y py] kt pt] (.Tuple [a,b] k2 pt2) pos.line X.env=pure false) qQJ): PS X (.Assign [.Tuple [.Name x px,.Name y py] kt pt] (.Tuple [a,b] k2 pt2) pos) (Y1 i j ta):=by
 intro pins s σ H D I h;rw[exec_Assign_arm];refine zc<|wpAny_standAt ?_;rw[hs];refine zc<|zo ?_;rw[if_neg<|by decide];refine zc<|Tuple_<|br (ha _ pins s σ H _ I h) ?_;rintro us s1 ⟨vs,H1,I1,r1,q1⟩;obtain⟨v,w,e1,q1⟩:=q1;subst e1;obtain⟨u1,u2,rfl,rv,qk⟩:∃u1 u2,us=[u1,u2]/\RelV v u1/\RelV w u2:=by cases r1 with|cons p q=>cases q with|cons p' q'=>cases q';exact{_,_,rfl,p,p'}
 refine yj ?_ (by show 2<=sizeLine;decide);have I2:Inv X pins σ H1 {s1 with heap:=s1.heap.push {cls:=.type "tuple",data:=.seq [u1,u2].toArray}}:=I1.kept (t':=s1.toks) λb o e=>za _ e;rw[hw];refine zc<|zo ?_;show wpAny (model X.prog X.w) X.A (do rule "assign.swapped-stores";let items <-unpackItems (.ref s1.heap.objs.size) 2 none;assignInOrder [λv=>bindName X.env y v,λv=>bindName X.env x v] items.reverse;pure Flow.next) _ _ _;refine zc<|yX<|zc<|unpackItems_tuple (items:=#[u1,u2]) (I.ok.hd hc) (IsTup.new s1.heap _) λh' FW=>?_;have I3:=I2.kept (h':=h') (t':=s1.toks) λb o e=>FW b o (zD<|zw e) e;show wpAny _ _ (assignInOrder [λv=>bindName X.env y v,λv=>bindName X.env x v] [u2,u1] >>=λ_=>pure Flow.next) _ _ _;refine zc<|assignInOrder_cons<|wpAny_bindName<|js I3 hN hj (.inl hy) qk (λs2 I4=>?_)<|.inr hy;refine assignInOrder_cons<|wpAny_bindName<|js I4 hN hi (.inl hx) rv (λs3 I5=>assignInOrder_nil<|zo ?_)<|.inr hx;rw[List.set_comm _ _<|Ne.symm jt]at I5;exact{_,H1,I5,q1}
def Y2(i:Nat)(te:TE)(ti:YZ):TS:=λD σ H=>∃x,σ[i]?=some (some x)/\te σ H λy H1=>ti x y H1 λz H2=>D.nx (σ.set i<|some z) H2
theorem P9(hN:X.N.Nodup)(hi:X.N[i]?=some x)(hx:Loc X.env.scope x)(he:PE X e te)(ho:PIp X op ti)(hf:autoParam (X.fn x=true\/X.env.scope.names.lookup x=some .local) qQ6): PS X (.AugAssign (.Name x pos') op e pos) (Y2 i te ti):=by
 intro pins s σ H D I h;obtain⟨v,e1,h⟩:=h;obtain⟨m,hn,hl⟩:=I.loc;have vis:PH X.env.scope x:=by rcases hx with k|k;exact .inl k;exact .inr<|.inl k
 obtain⟨u,r,l⟩:=hl i x v hi e1 vis;refine wpAny_AugAssign_Name ?_;have go:wpAny (model X.prog X.w) X.A (eval e X.env) (λw bQ=>wpAny (model X.prog X.w) X.A (inplaceOp op u w) (λr BX=>wpAny (model X.prog X.w) X.A (storeName X.env x r) (λ_=>SP X pins D .next) X.xe BX) X.xe bQ) X.xe s:=by refine br (he pins s σ H _ I h) ?_;rintro w s1 ⟨y,H1,I1,r1,q1⟩;refine br (ho pins s1 σ H1 v y u w _ I1 r r1 q1) ?_;rintro z s2 ⟨zv,H2,I2,r2,q2⟩;exact js I2 hN hi hx r2 (λs3 I3=>{_,H2,I3,q2}) hf
 rcases l with⟨hk,hm⟩|⟨hk,c,hc,Eo⟩;exact wpAny_loadName_local I.ok.kind hk hn hm go;rcases hk with hk|hk;exact wpAny_loadName_cell I.ok.kind hk hc Eo go;rcases hx with k|k;have:X.env.scope.names.lookup x=some .free:=hk;rw[k]at this;cases this;have:X.env.scope.names.lookup x=some .free:=hk;rw[k]at this;cases this
def ipI(f:Int->Int->Int):YZ:=λx y H Q=>∃i j,x=.int i/\y=.int j/\Q (.int<|f i j) H
theorem P_:PIp X .Add (ipI λi j=>i+j):=by intro pins s σ H x y v u Q I r1 r2 h;obtain⟨i,j,e1,e2,q⟩:=h;subst e1;subst e2;obtain⟨t,rfl⟩:=r1;obtain⟨t',rfl⟩:=r2;exact iadd_int {.int _,H,I.tok _,{_,rfl},q}
def Qa(c:TT)(tb:TS):TS:=λD σ H=>∃W:Nat->St->Hp->Prop,(∃m,W m σ H)/\∀m σ H,W m σ H->c σ H λb H1=>if b=true then ∃N:St->Hp->Prop,(∀aA H',N aA H'->∃m',m'<m/\W m' aA H')/\tb {D with nx:=N,ct:=N,bk:=D.nx} σ H1 else D.nx σ H1
theorem Iq(hp:PassesOwn (model X.prog X.w) X.A X.env X.xe)(hc:PT X c tc)(hb:En X body tb):PS X (.While c body [] pos) (Qa tc tb):=by intro pins s σ H D I h;obtain⟨W,⟨m0,w0⟩,turn⟩:=h;refine wpAny_While<|codeAny_whileLoop (λn s'=>∃aA H',Inv X pins aA H' s'/\W n aA H') ?_ m0 ⟨σ,H,I,w0⟩;rintro n s1 ⟨x5,H1,I1,w1⟩;refine wpAny_passesOwn hp<|br (hc pins s1 x5 H1 _ I1<|turn n x5 H1 w1) ?_;rintro b s2 ⟨H2,I2,q2⟩;cases b with|true=>(obtain⟨N,hN,q2⟩:=q2;rw[if_pos rfl];refine wpAny_passesOwn hp<|br (hb pins s2 x5 H2 _ I2 q2) λf s3 q3=>?_;cases f with|next=>(obtain⟨gu,H3,I3,n3⟩:=q3;obtain⟨m',hm,w3⟩:=hN gu H3 n3;exact⟨m',hm,gu,H3,I3,w3⟩)|cont=>(obtain⟨gu,H3,I3,n3⟩:=q3;obtain⟨m',hm,w3⟩:=hN gu H3 n3;exact⟨m',hm,gu,H3,I3,w3⟩)|brk=>exact q3|ret v=>exact q3)|false=>rw[if_neg zd];exact wpAny_execs_nil ⟨x5,H2,I2,q2⟩
end
structure It where
 go:Nat->Hp->Prop
 UB:Nat->Hp->V->Hp->Prop
 stop:Nat->Hp->Prop
def ug(X:Cx)(pins:jp)(H:Hp)(b:Addr):Prop:=H b=none/\b≠X.env.locals/\b∉X.fs/\(b∈X.ex\/X.dw.heap.objs.size<=b)/\(∀x c,X.env.cells.lookup x=some c->c≠b)/\∀p∈X.pn++pins,p.1≠b
theorem Inv.qm(I:Inv X pins σ H s)(hb:s.heap.objs.size<=b)(hn:H' b=none):ug X pins H' b:=by refine{hn,yr<|zr I.lt hb,I.Up hb,.inr<|zJ I.sz hb,λx c e z=>?_,λp hp z=>?_};obtain⟨v,q⟩:=I.cell x c e;exact absurd (zr q.lt<|by rw[z];exact hb)<|yD _;exact absurd (zr (zw (I.pin p hp).1)<|by rw[z];exact hb)<|yD _
structure Turn(P:Program)(w:World)(K:Frag)(tg:Expr)(J:It)(fp:io)(it:Addr)(tn:Nat->Heap->Prop):Prop where
 mem:it∈fp
 obj:∀i h,tn i h->∀b∈fp,∃o,h.get? b=some o/\∀v,o.data≠.cell v
 keep:∀i h h',tn i h->(∀b∈fp,∀o,h.get? b=some o->h'.get? b=some o)->tn i h'
 item:∀(X:Cx),X.prog=P->X.w=w->X.K=K->X.calm=true->∀(i:Nat)(pins:jp)(s:Shared)(σ:St)(H:Hp)(E:li),Inv X pins σ H s->(∀b∈fp,ug X pins H b)->tn i s.heap->J.go i H ->
  wpAny (model P w) X.A (pyNext<|.ref it) (λr s1=>∃u,r=some u /\
   wpAny (model P w) X.A (letOwnedTupleGo tg (.ref it) u) (λ_ s2=>∃x H',Inv X pins σ H' s2/\RelV x u/\J.UB i H x H'/\tn (i+1) s2.heap/\∀b∈fp,H' b=none) E s1) E s
 done:∀(X:Cx),X.prog=P->X.w=w->X.K=K->X.calm=true->∀(i:Nat)(pins:jp)(s:Shared)(σ:St)(H:Hp)(E:li),Inv X pins σ H s->(∀b∈fp,ug X pins H b)->tn i s.heap->J.stop i H ->
  wpAny (model P w) X.A (pyNext<|.ref it) (λr s1=>r=none/\Inv X pins σ H s1) E s
 self:∀(A:Around)(i:Nat)(s:Shared)(Q:li)(E:li),tn i s.heap->Q (.ref it) s->wpAny (model P w) A (pyIter<|.ref it) Q E s
abbrev TI:=St->Hp->(It->Hp->Prop)->Prop
def Y3(X:Cx)(pins:jp)(σ:St)(tg:Expr)(R:It->Hp->Prop)(XT:Value)(s2:Shared):Prop:=∃(it:Addr)(fp:io)(tn:Nat->Heap->Prop)(J:It)(H':Hp),XT=.ref it/\Inv X pins σ H' s2/\Turn X.prog X.w X.K tg J fp it tn/\tn 0 s2.heap/\(∀b∈fp,ug X pins H' b)/\R J H'
def PI(X:Cx)(tg iter:Expr)(wi:TI):Prop:=∀(pins:jp)(s:Shared)(σ:St)(H:Hp)(R:It->Hp->Prop),Inv X pins σ H s->wi σ H R->wpAny (model X.prog X.w) X.A (eval iter X.env) (λv s1=>wpAny (model X.prog X.w) X.A (pyIter v) (Y3 X pins σ tg R) X.xe s1) X.xe s
theorem uT(ho:s.heap.get? it=some o)(hc:o.cls=.type n)(hd:o.data=.fields vs)(hn:["enumerate","zip","dict_itemiterator","dict_reverseitemiterator","odict_iterator","itertools.zip_longest","itertools.pairwise"].contains n=false)(hQ:Q () s):wpAny M A (letOwnedTupleGo tg (.ref it) u) Q E s:=by
 unfold letOwnedTupleGo
 cases tg<;>first
  |exact zo hQ
  | (cases u<;>first
    |exact zo hQ
    | (refine zc (wpAny_load ho ?_)
       rw[hc,hd]
       show wpAny M A (if (["enumerate","zip","dict_itemiterator","dict_reverseitemiterator","odict_iterator","itertools.zip_longest","itertools.pairwise"].contains n&&vs[0]?==some (rawInt _))=true then _ else _) Q E s
       rw[if_neg<|by intro h;rw[hn,zZ]at h;cases h]
       exact zo hQ))
def Itl(K:Frag)(a:Addr):It:={λi H=>∃xs x,jq K H a xs/\xs[i]?=some x,λi H x H'=>H'=H/\∀xs,jq K H a xs->xs[i]?=some x,λi H=>∃xs,jq K H a xs/\xs.length<=i}
def Itt(K:Frag)(a:Addr):It:={λi H=>∃xs x,i4 K H a xs/\xs[i]?=some x,λi H x H'=>H'=H/\∀xs,i4 K H a xs->xs[i]?=some x,λi H=>∃xs,i4 K H a xs/\xs.length<=i}
noncomputable def UC(lo:Int)(n:Nat):It:={λi _=>i<n,λi H x H'=>H'=H/\x=.int (lo+i),λi _=>n<=i}
theorem FX{P:Program}{w:World}{K:Frag}{tg:Expr}(a it:Addr):Turn P w K tg (Itl K a) [it] it (λi h=>h.IsListIter it a i) where
 mem:=by simp
 obj:=λi h st b hb=>by
  have e:b=it:=by simpa using hb
  subst e
  obtain⟨o,e,c,d⟩:=st
  exact{o,e,λv z=>by rw[d]at z;cases z}
 keep:=λi h h' st k=>st.at λo e=>k it (by simp) o e
 item:=by
  intro X hP hw hK hc i pins s σ H E I hf st hg
  subst hP hw hK
  obtain⟨xs,x,hq,hx⟩:=hg
  obtain⟨aw,rv,p,hz⟩:=I.list hq
  obtain⟨u,hu,ru⟩:=rv.get hx
  obtain⟨f0,f1,f2,f3,f4,f5⟩:=hf it<|by simp
  refine wpAny_pyNext_list_item st p.isList (x:=u) (by simpa using hu) λh' eY sb=>?_
  have I1:Inv X pins σ H {s with heap:=h'}:=I.turned (t':=s.toks) (λb o hb e=>(sb.2 b hb).trans e) f0 f1 f3 f4 f5
  obtain⟨o,e,c,d⟩:=id eY
  exact{u,rfl,uT (s:={s with heap:=h'}) e c d (by decide) {x,H,I1,ru,{rfl,λys hy=>by rw[I.y3 hy hq];exact hx},eY,λb hb=>(hf b hb).1}}
 done:=by
  intro X hP hw hK hc i pins s σ H E I hf st hg
  subst hP hw hK
  obtain⟨xs,hq,hx⟩:=hg
  obtain⟨aw,rv,p,hz⟩:=I.list hq
  obtain⟨f0,f1,f2,f3,f4,f5⟩:=hf it<|by simp
  have hl:=rv.length
  exact wpAny_pyNext_list_end (I.ok.hd hc) st p.isList (by simp;lia) λh' eb=>{rfl,I.turned (t':=s.toks) (λb o hb e=>eb b o hb e) f0 f1 f3 f4 f5}
 self:=λ_ _ _ _ _ st h=>wpAny_pyIter_listiter st h
theorem BY{P:Program}{w:World}{K:Frag}{tg:Expr}(a it:Addr):Turn P w K tg (Itt K a) [it] it (λi h=>h.IsTupleIter it a i) where
 mem:=by simp
 obj:=λi h st b hb=>by
  have e:b=it:=by simpa using hb
  subst e
  obtain⟨o,e,c,d⟩:=st
  exact{o,e,λv z=>by rw[d]at z;cases z}
 keep:=λi h h' st k=>st.at λo e=>k it (by simp) o e
 item:=by
  intro X hP hw hK hc i pins s σ H E I hf st hg
  subst hP hw hK
  obtain⟨xs,x,hq,hx⟩:=hg
  obtain⟨aw,rv,p,hz⟩:=I.tuple hq
  obtain⟨u,hu,ru⟩:=rv.get hx
  obtain⟨f0,f1,f2,f3,f4,f5⟩:=hf it<|by simp
  refine wpAny_pyNext_tuple_item st (show s.heap.IsTuple a aw.toArray from p) (x:=u) (by simpa using hu) λh' eY sb=>?_
  have I1:Inv X pins σ H {s with heap:=h'}:=I.turned (t':=s.toks) (λb o hb e=>(sb.2 b hb).trans e) f0 f1 f3 f4 f5
  obtain⟨o,e,c,d⟩:=id eY
  exact{u,rfl,uT (s:={s with heap:=h'}) e c d (by decide) {x,H,I1,ru,{rfl,λys hy=>by rw[I.n5 hy hq];exact hx},eY,λb hb=>(hf b hb).1}}
 done:=by
  intro X hP hw hK hc i pins s σ H E I hf st hg
  subst hP hw hK
  obtain⟨xs,hq,hx⟩:=hg
  obtain⟨aw,rv,p,hz⟩:=I.tuple hq
  obtain⟨f0,f1,f2,f3,f4,f5⟩:=hf it<|by simp
  have hl:=rv.length
  exact wpAny_pyNext_tuple_end (I.ok.hd hc) st (show s.heap.IsTuple a aw.toArray from p) (by simp;lia) λh' eb=>{rfl,I.turned (t':=s.toks) (λb o hb e=>eb b o hb e) f0 f1 f3 f4 f5}
 self:=λ_ _ _ _ _ st h=>wpAny_pyIter_tupleiter st h
theorem BZ{P:Program}{w:World}{K:Frag}{tg:Expr}(it:Addr)(lo:Int)(n:Nat):Turn P w K tg (UC lo n) [it] it (λi h=>IsRangeIter h it (lo+(i:Nat)*1) ((n:Int)-(i:Nat)) 1) where
 mem:=by simp
 obj:=λi h st b hb=>by
  have e:b=it:=by simpa using hb
  subst e
  exact⟨_,st,λv z=>by
   have z':Data.fields _=Data.cell v:=z
   cases z'⟩
 keep:=λi h h' st k=>k it (by simp) _ st
 item:=by
  intro X hP hw hK hc i pins s σ H E I hf st hg
  subst hP hw hK
  obtain⟨f0,f1,f2,f3,f4,f5⟩:=hf it<|by simp
  have W:=Walks.range (prog:=X.prog) (w:=X.w) (I.ok.hd hc) it lo 1 n
  refine W.item i s _ _ hg st λv h' tk hv eY kk=>?_
  obtain⟨t,rfl⟩:=hv
  have I1:Inv X pins σ H {s with heap:=h',toks:=tk}:=I.turned (λb o hb e=>kk b o (by simpa using hb) e) f0 f1 f3 f4 f5
  refine{_,rfl,uT (s:={s with heap:=h',toks:=tk}) (n:="range_iterator") eY rfl rfl (by decide) {.int<|lo+i,H,I1,{t,?_},⟨rfl,rfl⟩,eY,λb hb=>(hf b hb).1}}
  rw[Int.mul_one]
 done:=by
  intro X hP hw hK hc i pins s σ H E I hf st hg
  subst hP hw hK
  obtain⟨f0,f1,f2,f3,f4,f5⟩:=hf it<|by simp
  exact wpAny_pyNext_range_end (I.ok.hd hc) st (by have:n<=i:=hg;lia) λh' eb=>{rfl,I.turned (t':=s.toks) (λb o hb e=>eb b o hb e) f0 f1 f3 f4 f5}
 self:=λ_ _ _ _ _ st h=>wpAny_pyIter_rangeiter st h
section
variable{X:Cx}{tg:Expr}
def UD(K:Frag)(tl:TE):TI:=λσ H R=>tl σ H λx H1=>∃a,x=.ref a/\(∃xs,jq K H1 a xs)/\R (Itl K a) H1
def Y4(K:Frag)(tl:TE):TI:=λσ H R=>tl σ H λx H1=>∃a,x=.ref a/\(∃xs,i4 K H1 a xs)/\R (Itt K a) H1
theorem LY{l:Expr}{tl:TE}(hl:PE X l tl):PI X tg l (UD X.K tl):=by
 intro pins s σ H R I h;refine br (hl pins s σ H _ I h) ?_;rintro v s1 ⟨x,H1,I1,r1,q1⟩;obtain⟨a,e,⟨xs,hq⟩,q⟩:=q1;subst e;cases r1;obtain⟨aw,rv,p,hz⟩:=I1.list hq;refine wpAny_pyIter_list p.isList ?_;refine{s1.heap.objs.size,[s1.heap.objs.size],_,_,H1,rfl,I1.kept (t':=s1.toks) λb o e=>za _ e,FX a _,{_,zm _ rfl,rfl,rfl},λb hb=>?_,q};have e:b=s1.heap.objs.size:=by simpa using hb
 subst e;exact I1.qm (zq _)<|I1.aN.fresh<|zq _
theorem Qb{l:Expr}{tl:TE}(hl:PE X l tl):PI X tg l (Y4 X.K tl):=by
 intro pins s σ H R I h;refine br (hl pins s σ H _ I h) ?_;rintro v s1 ⟨x,H1,I1,r1,q1⟩;obtain⟨a,e,⟨xs,hq⟩,q⟩:=q1;subst e;cases r1;obtain⟨aw,rv,p,hz⟩:=I1.tuple hq;refine wpAny_pyIter_tuple (show s1.heap.IsTuple a aw.toArray from p) ?_;refine{s1.heap.objs.size,[s1.heap.objs.size],_,_,H1,rfl,I1.kept (t':=s1.toks) λb o e=>za _ e,BY a _,{_,zm _ rfl,rfl,rfl},λb hb=>?_,q};have e:b=s1.heap.objs.size:=by simpa using hb
 subst e;exact I1.qm (zq _)<|I1.aN.fresh<|zq _
theorem y4{pins:jp}{σ:St}{H:Hp}{s:Shared}{R:It->Hp->Prop}{E:li}{lo hi:Int}{t u v:Tok}{tk:Nat}(I:Inv X pins σ H s)(h1:-(2^62)<=lo)(h2:lo<2^62)(h3:-(2^62)<=hi)(h4:hi<2^62)(q:R (UC lo (hi-lo).toNat) H):wpAny (model X.prog X.w) X.A (pyIter<|.ref s.heap.objs.size) (Y3 X pins σ tg R) E {s with heap:=s.heap.push {cls:=.type "range",data:=.fields #[.int lo t,.int hi u,.int 1 v]},toks:=tk}:=by
 refine wpAny_pyIter_range (IsRange.new ..) (small_one h1 h2 h3 h4) ?_;have I1:Inv X pins σ H {s with heap:=s.heap.push {cls:=.type "range",data:=.fields #[.int lo t,.int hi u,.int 1 v]},toks:=tk}:=I.kept λb o e=>za _ e;refine{(s.heap.push {cls:=.type "range",data:=.fields #[.int lo t,.int hi u,.int 1 v]}).objs.size,[(s.heap.push {cls:=.type "range",data:=.fields #[.int lo t,.int hi u,.int 1 v]}).objs.size],_,_,H,rfl,I1.kept (t':=tk) λb o e=>za _ e,BZ _ lo (hi-lo).toNat,?_,λb hb=>?_,q};have e1:lo+((0:Nat):Int)*1=lo:=by simp
 have e2:(((hi-lo).toNat:Nat):Int)-((0:Nat):Int)=Builtin.Range.rangeSize lo hi 1:=by rw[rangeSize_one];split<;>lia
 show IsRangeIter _ _ (lo+((0:Nat):Int)*1) ((((hi-lo).toNat:Nat):Int)-((0:Nat):Int)) 1;rw[e1,e2];exact zm _ rfl;have e:b=(s.heap.push {cls:=.type "range",data:=.fields #[.int lo t,.int hi u,.int 1 v]}).objs.size:=by simpa using hb
 subst e;exact I1.qm (zq _)<|I1.aN.fresh<|zq _
def UE(ta:TA):TI:=λσ H R=>ta σ H λvs H1=>∃j:Int,vs=[.int j]/\-(2^62)<=j/\j<2^62/\R (UC 0 j.toNat) H1
def UG(ta:TA):TI:=λσ H R=>ta σ H λvs H1=>∃i j:Int,vs=[.int i,.int j]/\(-(2^62)<=i/\i<2^62/\-(2^62)<=j/\j<2^62)/\R (UC i (j-i).toNat) H1
theorem FY{a:Expr}{ta:TA}{p pos:Pos}(hg:Gl X "range")(hm:X.mg "range"= none)(ha:PA X [a] ta)(hs:autoParam (starEach [a] X.env=[(false,eval a X.env)]) qQJ):PI X tg (.Call (.Name "range" p) [a] [] pos) (UE ta):=by intro pins s σ H R I h;refine Call_<|fG I hg hm boot_range<|PyProof.Rows.callWith_type1 (br (ha pos pins s σ H _ I h) λus s1 ⟨vs,H1,I1,r1,q1⟩=>?_) hs rfl;obtain⟨j,e,q1,q2,q⟩:=q1;subst e;cases r1 with|cons r rr=>cases rr;obtain⟨t,rfl⟩:=r;exact call_range_1<|y4 I1 (by lia) (by lia) q1 q2<|by simpa using q
theorem FZ(hg:Gl X "range")(hm:X.mg "range"= none)(ha:PA X [a,b] ta)(hs:autoParam (starEach [a,b] X.env=[(false,eval a X.env),(false,eval b X.env)]) qQJ)(t5:autoParam (starEach [b] X.env=[(false,eval b X.env)]) qQJ): PI X tg (.Call (.Name "range" p) [a,b] [] pos) (UG ta):=by intro pins s σ H R I h;refine Call_<|fG I hg hm boot_range<|PyProof.Rows.callWith_type1 (br (ha pos pins s σ H _ I h) λus s1 ⟨vs,H1,I1,r1,q1⟩=>?_) (by rw[hs,t5]) (by rw[t5];rfl);obtain⟨i,j,e,⟨q1,q2,q3,q4⟩,q⟩:=q1;subst e;cases r1 with|cons r rr=>cases rr with|cons r' rr=>cases rr;obtain⟨t,rfl⟩:=r;obtain⟨t',rfl⟩:=r';exact call_range_2<|y4 I1 q1 q2 q3 q4 q
def Y5(wi:TI)(g:TG)(tb:TS):TS:=λD σ H=>wi σ H λJ H1=>∃W:Nat->Nat->St->Hp->Prop,(∃m,W 0 m σ H1)/\∀i m σ H,W i m σ H->(J.stop i H/\D.nx σ H)\/(J.go i H/\∃N:St->Hp->Prop,(∀aA H',N aA H'->∃m',m'<m/\W (i+1) m' aA H')/\∀x H',J.UB i H x H'->g x σ H' λqM H2=>tb {D with nx:=N,ct:=N,bk:=D.nx} qM H2)
noncomputable def rD(fp:io)(h:Heap):jp:=fp.filterMap λb=>(h.get? b).map λo=>(b,o)
theorem iz(hb:b∈fp)(e:h.get? b=some o):(b,o)∈rD fp h:=List.mem_filterMap.mpr {b,hb,by rw[e];rfl}
theorem F8(hp:p∈rD fp h):p.1∈fp/\h.get? p.1=some p.2:=by obtain⟨b,hb,e⟩:=List.mem_filterMap.mp hp;cases q:h.get? b with|none=>(rw[q]at e;cases e)|some o=>rw[q]at e;have e':(b,o)=p:=zS e;subst e';exact⟨hb,q⟩
theorem Inv.pinned(I:Inv X pins σ H s)(hf:∀b∈fp,ug X pins H b)(ho:∀b∈fp,∃o,s.heap.get? b=some o/\∀v,o.data≠.cell v):Inv X (pins++rD fp s.heap) σ H s:=I.mB λp hp=>(zP.mp hp).elim (λz=>I.pin p<|zH _ z) λz=>by obtain⟨hb,e⟩:=F8 z;obtain⟨f0,f1,f2,_⟩:=hf p.1 hb;obtain⟨o,e',d⟩:=ho p.1 hb;rw[e]at e';cases e';exact⟨e,f0,f1,f2,d⟩
theorem Inv.rE(I:Inv X (pins++pl) σ H s):Inv X pins σ H s:=I.mB λp hp=>I.pin p<|zH _<|yo _ hp
theorem Qc(hp:PassesOwn (model X.prog X.w) X.A X.env X.xe)(hc:X.calm=true)(hi:PI X tg iter wi)(hg:PG X tg g)(hb:En X body tb)(hs:autoParam (∀x,foldedSetIterable iter X.env x=pure x) qQ0):PS X (.For tg iter body [] pos) (Y5 wi g tb):=by intro pins s σ H D I h;refine wpAny_For (br (hi pins s σ H _ I h) λv s1 h1=>br h1 λXT s2 h2=>?_) hs;obtain⟨it,fp,tn,J,H2,e,I2,T,Oh,f2,W,⟨m0,w0⟩,turn⟩:=h2;subst e;have Qd:∀{H':Hp},(∀b∈fp,H' b=none)->∀b∈fp,ug X pins H' b:=λhn b hb=>{hn b hb,(f2 b hb).2};refine codeAny_forLoop_any (λn s'=>∃i aA H',Inv X pins aA H' s'/\tn i s'.heap/\(∀b∈fp,H' b=none)/\W i n aA H') ?_ m0 {0,σ,H2,I2,Oh,λb hb=>(f2 b hb).1,w0};rintro n s3 ⟨i,gu,H3,I3,Oi,UH,w3⟩;rcases turn i n gu H3 w3 with⟨stop,qn⟩|⟨go,N,hN,step⟩;refine wpAny_passesOwn hp<|br (T.done X rfl rfl rfl hc i pins s3 gu H3 X.xe I3 (Qd UH) Oi stop) ?_;rintro r s4 ⟨hr,I4⟩;subst hr;exact wpAny_execs_nil ⟨gu,H3,I4,qn⟩;{refine wpAny_passesOwn hp<|br (T.item X rfl rfl rfl hc i pins s3 gu H3 X.xe I3 (Qd UH) Oi go) ?_;rintro r s4 ⟨u,hr,h4⟩;subst hr;refine wpAny_passesOwn hp<|br h4 ?_;rintro _ s5 ⟨x,H5,I5,r5,y5,LC,Y6⟩;have Y7:=I5.pinned (Qd Y6)<|T.obj _ _ LC;refine wpAny_passesOwn hp<|br (hg _ s5 gu H5 x u _ Y7 r5<|step x H5 y5) ?_;rintro _ s6 ⟨UI,H6,I6,q6⟩;refine wpAny_passesOwn hp<|br (hb _ s6 UI H6 _ I6 q6) λf s7 q7=>?_;have again:∀{Ir:St}{H7:Hp},Inv X (pins++rD fp s5.heap) Ir H7 s7->N Ir H7->∃m,m<n/\∃i aA H',Inv X pins aA H' s7/\tn i s7.heap/\(∀b∈fp,H' b=none)/\W i m aA H':=λ{Ir H7} I7 n7=>(by obtain⟨m',hm,w7⟩:=hN Ir H7 n7;refine{m',hm,i+1,Ir,H7,I7.rE,T.keep _ _ _ LC λb hb o e=>(I7.pin (b,o)<|zH _<|zH _<|iz hb e).1,λb hb=>?_,w7};obtain⟨o,e,d⟩:=T.obj _ _ LC b hb;exact(I7.pin (b,o)<|zH _<|zH _<|iz hb e).2.1);cases f with|next=>(obtain⟨Ir,H7,I7,n7⟩:=q7;exact again I7 n7)|cont=>(obtain⟨Ir,H7,I7,n7⟩:=q7;exact again I7 n7)|brk=>(obtain⟨Ir,H7,I7,q7⟩:=q7;exact⟨Ir,H7,I7.rE,q7⟩)|ret v=>obtain⟨x7,Ir,H7,I7,r7,q7⟩:=q7;exact⟨x7,Ir,H7,I7.rE,r7,q7⟩}
end
abbrev R2:=V->V->Hp->VK->Prop
def iB(X:Cx)(f:Value->Value->Sem Value)(r:R2):Prop:=∀(pins:jp)(s:Shared)(σ:St)(H:Hp)(x y:V)(v u:Value)(Q:VK),Inv X pins σ H s->RelV x v->RelV y u->r x y H Q->wpAny (model X.prog X.w) X.A (f v u) (EP X pins σ Q) X.xe s
def Y8(X:Cx)(f:Value->Sem Value)(r:V->Hp->VK->Prop):Prop:=∀(pins:jp)(s:Shared)(σ:St)(H:Hp)(x:V)(v:Value)(Q:VK),Inv X pins σ H s->RelV x v->r x H Q->wpAny (model X.prog X.w) X.A (f v) (EP X pins σ Q) X.xe s
def eN(X:Cx)(f:Value)(r:List V->Hp->VK->Prop):Prop:=∀(pins:jp)(s:Shared)(σ:St)(H:Hp)(xs:dL)(us:fv)(Q:VK),Inv X pins σ H s->Vals xs us->r xs H Q->wpAny (model X.prog X.w) X.A (call f us) (EP X pins σ Q) X.xe s
def Tf(r:R2)(ta tb:TE):TE:=λσ H Q=>ta σ H λx H1=>tb σ H1 λy H2=>r x y H2 Q
def tUn(r:V->Hp->VK->Prop)(ta:TE):TE:=λσ H Q=>ta σ H λx H1=>r x H1 Q
def rI(C:Int->Int->Prop)(g:Int->Int->V):R2:=λx y H Q=>∃i j,x=.int i/\y=.int j/\C i j/\Q (g i j) H
def LZ(g:Int->Int->V):R2:=λx y H Q=>∃i j,x=.int i/\y=.int j/\Q (g i j) H
def rU(g:Int->V):V->Hp->VK->Prop:=λx H Q=>∃i,x=.int i/\Q (g i) H
section
variable{X:Cx}{a b:Expr}{ta tb:TE}{pos:Pos}
theorem Qe(ha:PE X a ta)(hb:PE X b tb){pins:jp}{s:Shared}{σ:St}{H:Hp}{R:V->V->Hp->Prop}(I:Inv X pins σ H s)(h:ta σ H λx H1=>tb σ H1 λy H2=>R x y H2){Q:li}{f:Value->Value->Sem Value}(hf:∀v u s2 x y H2,Inv X pins σ H2 s2->RelV x v->RelV y u->R x y H2->wpAny (model X.prog X.w) X.A (f v u) Q X.xe s2): wpAny (model X.prog X.w) X.A (eval a X.env) (λv ba=>wpAny (model X.prog X.w) X.A (eval b X.env) (λu bQ=>wpAny (model X.prog X.w) X.A (f v u) Q X.xe bQ) X.xe ba) X.xe s:=by refine br (ha pins s σ H _ I h) ?_;rintro v s1 ⟨x,H1,I1,r1,q1⟩;refine br (hb pins s1 σ H1 _ I1 q1) ?_;rintro u s2 ⟨y,H2,I2,r2,q2⟩;exact hf v u s2 x y H2 I2 r1 r2 q2
theorem UJ{op:Operator}{r:R2}(ho:iB X (binaryOp op) r)(ha:PE X a ta)(hb:PE X b tb):PE X (.BinOp a op b pos) (Tf r ta tb):=by intro pins s σ H Q I h;exact wpAny_BinOp<|Qe ha hb I h λv u s2 x y H2 I2 rx ry q=>ho pins s2 σ H2 x y v u Q I2 rx ry q
theorem Oj(ho:Y8 X (unaryOp op) r)(ha:PE X a ta):PE X (.UnaryOp op a pos) (tUn r ta):=by intro pins s σ H Q I h;exact UnaryOp_<|br (ha pins s σ H _ I h) <| by rintro v s1 ⟨x,H1,I1,r1,q1⟩;exact ho pins s1 σ H1 x v Q I1 r1 q1
theorem XU{f:Value->Value->Sem Value}{C:Int->Int->Prop}{g:Int->Int->Int}(rule:∀(i j:Int)(t u:Tok)(s:Shared)(Q:li)(E:li),C i j->Q (.int (g i j) s.toks) {s with toks:=s.toks+1}->wpAny (model X.prog X.w) X.A (f (.int i t)<|.int j u) Q E s): iB X f (rI C λi j=>.int<|g i j):=by intro pins s σ H x y v u Q I rx ry h;obtain⟨i,j,rfl,rfl,hc,q⟩:=h;obtain⟨t,rfl⟩:=rx;obtain⟨t',rfl⟩:=ry;exact rule i j t t' s _ _ hc {.int<|g i j,H,I.tok _,{_,rfl},q}
theorem UK{f:Value->Value->Sem Value}{g:Int->Int->Int}(rule:∀(i j:Int)(t u:Tok)(s:Shared)(Q:li)(E:li),Q (.int (g i j) s.toks) {s with toks:=s.toks+1}->wpAny (model X.prog X.w) X.A (f (.int i t)<|.int j u) Q E s): iB X f (LZ λi j=>.int<|g i j):=by intro pins s σ H x y v u Q I rx ry h;obtain⟨i,j,rfl,rfl,q⟩:=h;obtain⟨t,rfl⟩:=rx;obtain⟨t',rfl⟩:=ry;exact rule i j t t' s _ _ {.int<|g i j,H,I.tok _,{_,rfl},q}
theorem L3{f:Value->Value->Sem Value}{g:Int->Int->Bool}(rule:∀(i j:Int)(t u:Tok)(s:Shared)(Q:li)(E:li),Q (.bool<|g i j) s->wpAny (model X.prog X.w) X.A (f (.int i t)<|.int j u) Q E s): iB X f (LZ λi j=>.bl<|g i j):=by intro pins s σ H x y v u Q I rx ry h;obtain⟨i,j,rfl,rfl,q⟩:=h;obtain⟨t,rfl⟩:=rx;obtain⟨t',rfl⟩:=ry;exact rule i j t t' s _ _ {.bl<|g i j,H,I,rfl,q}
def UL(i j:Int):Prop:=0<=j/\j<=1000000/\i.natAbs<2^64
def L4(i j:Int):Prop:=(-(2^64)<i/\i<2^64)\/(-(2^64)<j/\j<2^64)
theorem L4.ok{i j:Int}(h:L4 i j):IntMulOk i j:=by rcases h with⟨h1,h2⟩|⟨h1,h2⟩;exact .of_left<|intBits_le_64 h1 h2;exact .of_right<|intBits_le_64 h1 h2
theorem Qf:iB X (binaryOp .Add) (LZ λi j=>.int<|i+j):=UK λ_ _ _ _ _ _ _ q=>add_int q
theorem Qg:iB X (binaryOp .Sub) (LZ λi j=>.int<|i-j):=UK λ_ _ _ _ _ _ _ q=>sub_int q
theorem Qh:iB X (binaryOp .Mult) (rI L4 λi j=>.int<|i*j):=XU λ_ _ _ _ _ _ _ hc q=>mul_int q hc.ok
theorem Qi:iB X (binaryOp .Mod) (rI (λ_ j=>0<j) λi j=>.int<|i%j):=XU λi j _ _ _ _ _ hc q=>by have h1:(0:Int)<j:=hc;exact mod_int' (by lia)<|by rw[Int.fmod_eq_emod_of_nonneg i<|by lia];exact q
theorem Qj:iB X (binaryOp .Pow) (rI UL λi j=>.int<|i^j.toNat):=XU λ_ _ _ _ _ _ _ hc q=>pow_int_small hc.1 hc.2.1 hc.2.2 q
theorem unI{f:Value->Sem Value}{g:Int->Int}(rule:∀(i:Int)(t:Tok)(s:Shared)(Q:li)(E:li),Q (.int (g i) s.toks) {s with toks:=s.toks+1}->wpAny (model X.prog X.w) X.A (f<|.int i t) Q E s): Y8 X f (rU λi=>.int<|g i):=by intro pins s σ H x v Q I rx h;obtain⟨i,rfl,q⟩:=h;obtain⟨t,rfl⟩:=rx;exact rule i t s _ _ {.int<|g i,H,I.tok _,{_,rfl},q}
theorem Iu:Y8 X (unaryOp .USub) (rU λi=>.int (-i)):=unI λ_ _ _ _ _ q=>neg_int q
end
noncomputable def UM:V->V->Bool|.av,.av=>true|.av,.int _=>true|.int _,.av=>true|.av,.bl _=>true|.bl _,.av=>true|.av,.str _=>true|.str _,.av=>true|.int _,.int _=>true|.bl _,.bl _=>true|.str _,.str _=>true|.Em _,.Em _=>true|.int _,.str _=>true|.str _,.int _=>true|.bl _,.str _=>true|.str _,.bl _=>true|_,_=>false
def rEq:R2:=λx y H Q=>UM x y=true/\Q (.bl<|decide<|x=y) H
def rNe:R2:=λx y H Q=>UM x y=true/\Q (.bl<|!decide (x=y)) H
theorem Es:decide (V.int i=V.int j)=(i==j):=by rw[yk];simp
theorem Iv:decide (V.bl i=V.bl j)=(i==j):=by rw[yk];simp
theorem Et:decide (V.str i=V.str j)=(i==j):=by rw[yk];simp
theorem Eu:decide (V.Em i=V.Em j)=(i.toList==j.toList):=by rw[yk];cases i;cases j;simp
section
variable{X:Cx}{a b c:Expr}{ta tb tc:TE}{pos:Pos}
theorem aJ(I:Inv X pins σ H s)(q:Q (.bl k) H)(e:k=k'):EP X pins σ Q (.bool k') s:=by subst e;exact{.bl k,H,I,rfl,q}
theorem Ol:iB X (compareOp .Eq) rEq:=by intro pins s σ H x y v u Q I rx ry h;obtain⟨hs,q⟩:=h;cases x with|av=>(cases rx;cases y with|av=>(cases ry;exact PySem.EqNone.eq_none_none<|aJ I q<|by simp)|bl j=>(cases ry;exact PySem.EqNone.eq_none_bool<|aJ I q<|by simp)|int j=>(obtain⟨t',rfl⟩:=ry;exact PySem.EqNone.eq_none_int<|aJ I q<|by simp)|str j=>(obtain⟨t',rfl⟩:=ry;exact PySem.EqNone.eq_none_str<|aJ I q<|by simp)|_=>exact absurd (show false=true from hs) zd)|bl i=>(cases rx;cases y with|av=>(cases ry;exact PySem.EqNone.eq_bool_none<|aJ I q<|by simp)|bl j=>(cases ry;exact eq_bool<|aJ I q Iv)|str j=>(obtain⟨t',rfl⟩:=ry;exact PySem.EqMixed.eq_bool_str<|aJ I q<|by simp)|_=>exact absurd (show false=true from hs) zd)|int i=>(obtain⟨t,rfl⟩:=rx;cases y with|av=>(cases ry;exact PySem.EqNone.eq_int_none<|aJ I q<|by simp)|int j=>(obtain⟨t',rfl⟩:=ry;exact eq_int<|aJ I q Es)|str j=>(obtain⟨t',rfl⟩:=ry;exact PySem.EqMixed.eq_int_str<|aJ I q<|by simp)|_=>exact absurd (show false=true from hs) zd)|str i=>(obtain⟨t,rfl⟩:=rx;cases y with|av=>(cases ry;exact PySem.EqNone.eq_str_none<|aJ I q<|by simp)|bl j=>(cases ry;exact PySem.EqMixed.eq_str_bool<|aJ I q<|by simp)|int j=>(obtain⟨t',rfl⟩:=ry;exact PySem.EqMixed.eq_str_int<|aJ I q<|by simp)|str j=>(obtain⟨t',rfl⟩:=ry;exact eq_str<|aJ I q Et)|_=>exact absurd (show false=true from hs) zd)|Em i=>(obtain⟨t,rfl⟩:=rx;cases y with|Em j=>(obtain⟨t',rfl⟩:=ry;exact PySem.W.eq_bytes<|aJ I q Eu)|_=>exact absurd (show false=true from hs) zd)|_=>cases y<;>exact absurd (show false=true from hs) zd
theorem Om:iB X (compareOp .NotEq) rNe:=by intro pins s σ H x y v u Q I rx ry h;obtain⟨hs,q⟩:=h;cases x with|av=>(cases rx;cases y with|av=>(cases ry;exact PySem.EqNone.ne_none_none<|aJ I q<|by simp)|bl j=>(cases ry;exact PySem.EqNone.ne_none_bool<|aJ I q<|by simp)|int j=>(obtain⟨t',rfl⟩:=ry;exact PySem.EqNone.ne_none_int<|aJ I q<|by simp)|str j=>(obtain⟨t',rfl⟩:=ry;exact PySem.EqNone.ne_none_str<|aJ I q<|by simp)|_=>exact absurd (show false=true from hs) zd)|bl i=>(cases rx;cases y with|av=>(cases ry;exact PySem.EqNone.ne_bool_none<|aJ I q<|by simp)|bl j=>(cases ry;exact ne_bool<|aJ I q<|congrArg not Iv)|str j=>(obtain⟨t',rfl⟩:=ry;exact PySem.EqMixed.ne_bool_str<|aJ I q<|by simp)|_=>exact absurd (show false=true from hs) zd)|int i=>(obtain⟨t,rfl⟩:=rx;cases y with|av=>(cases ry;exact PySem.EqNone.ne_int_none<|aJ I q<|by simp)|int j=>(obtain⟨t',rfl⟩:=ry;exact ne_int<|aJ I q<|congrArg not Es)|str j=>(obtain⟨t',rfl⟩:=ry;exact PySem.EqMixed.ne_int_str<|aJ I q<|by simp)|_=>exact absurd (show false=true from hs) zd)|str i=>(obtain⟨t,rfl⟩:=rx;cases y with|av=>(cases ry;exact PySem.EqNone.ne_str_none<|aJ I q<|by simp)|bl j=>(cases ry;exact PySem.EqMixed.ne_str_bool<|aJ I q<|by simp)|int j=>(obtain⟨t',rfl⟩:=ry;exact PySem.EqMixed.ne_str_int<|aJ I q<|by simp)|str j=>(obtain⟨t',rfl⟩:=ry;exact ne_str<|aJ I q<|congrArg not Et)|_=>exact absurd (show false=true from hs) zd)|Em i=>(obtain⟨t,rfl⟩:=rx;cases y with|Em j=>(obtain⟨t',rfl⟩:=ry;exact PySem.W.ne_bytes<|aJ I q<|congrArg not Eu)|_=>exact absurd (show false=true from hs) zd)|_=>cases y<;>exact absurd (show false=true from hs) zd
theorem UN:iB X (compareOp .Lt) (LZ λi j=>.bl<|decide<|i<j):=L3 λ_ _ _ _ _ _ _ q=>lt_int q
theorem UO:iB X (compareOp .LtE) (LZ λi j=>.bl<|decide<|i<=j):=L3 λ_ _ _ _ _ _ _ q=>le_int q
theorem UP:iB X (compareOp .Gt) (LZ λi j=>.bl<|decide<|j<i):=L3 λ_ _ _ _ _ _ _ q=>gt_int q
theorem UQ:iB X (compareOp .GtE) (LZ λi j=>.bl<|decide<|j<=i):=L3 λ_ _ _ _ _ _ _ q=>ge_int q
theorem F9:iB X (compareOp .Lt) (λx y H Q=>∃i j,x=.str i/\y=.str j/\Q (.bl<|decide<|i.cps.toList<j.cps.toList) H):=by intro pins s σ H x y v u Q I rx ry h;obtain⟨i,j,rfl,rfl,q⟩:=h;obtain⟨t,rfl⟩:=rx;obtain⟨t',rfl⟩:=ry;exact lt_str<|aJ I q rfl
theorem F_:iB X (compareOp .In) (λx y H Q=>∃i j,x=.str i/\y=.str j/\Q (.bl<|!(Builtin.Str.occurrences j i 0 j.length 1).isEmpty) H):=by intro pins s σ H x y v u Q I rx ry h;obtain⟨i,j,rfl,rfl,q⟩:=h;obtain⟨t,rfl⟩:=rx;obtain⟨t',rfl⟩:=ry;exact in_str<|aJ I q rfl
theorem Ql:iB X (compareOp .Is) (λx y H Q=>y=.av/\Q (.bl<|decide<|x=.av) H):=by intro pins s σ H x y v u Q I rx ry h;obtain⟨rfl,q⟩:=h;cases ry;refine is_none_gen<|aJ I q ?_;cases x<;>first| (cases rx;rfl)| (obtain⟨t,rfl⟩:=rx;rfl)
theorem L5:iB X (compareOp .IsNot) (λx y H Q=>y=.av/\Q (.bl<|!decide (x=.av)) H):=by intro pins s σ H x y v u Q I rx ry h;obtain⟨rfl,q⟩:=h;cases ry;refine isnot_none_gen<|aJ I q ?_;cases x<;>first| (cases rx;rfl)| (obtain⟨t,rfl⟩:=rx;rfl)
theorem Y9(b:Expr)(h:autoParam (op≠.In) qQZ)(h2:autoParam (op≠.NotIn) qQZ):behindInMarks op b=false:=by
 have e1:(op==CmpOp.In)=false:=by cases op<;>first|rfl|exact absurd rfl h
 have e2:(op==CmpOp.NotIn)=false:=by cases op<;>first|rfl|exact absurd rfl h2
 cases b<;>simp[behindInMarks,e1,e2]
theorem Ex{op:CmpOp}{r:R2}(ho:iB X (compareOp op) r)(ha:PE X a ta)(hb:PE X b tb)(hm:behindInMarks op b=false):PE X (.Compare a [op] [b] pos) (Tf r ta tb):=by intro pins s σ H Q I h;exact wpAny_Compare1 (Qe ha hb I h λv u s2 x y H2 I2 rx ry q=>ho pins s2 σ H2 x y v u Q I2 rx ry q) hm
def Iw(t:TE):TT:=λσ H Q=>t σ H λx H'=>∃k,x=.bl k/\Q k H'
theorem L6{op:CmpOp}{r:R2}(ho:iB X (compareOp op) r)(ha:PE X a ta)(hb:PE X b tb)(hm:behindInMarks op b=false):PT X (.Compare a [op] [b] pos) (Iw<|Tf r ta tb):=by intro pins s σ H Q I h;refine wpAny_isTrue_Compare1 (br (ha pins s σ H _ I h) λv s1 ⟨x,H1,I1,r1,q1⟩=>br (hb pins s1 σ H1 _ I1 q1) λu s2 ⟨y,H2,I2,r2,q2⟩=>br (ho pins s2 σ H2 x y v u _ I2 r1 r2 q2) λc s3 ⟨z,H3,I3,r3,k,e,q3⟩=>?_) hm;subst e;cases r3;exact yz ⟨H3,I3,q3⟩
def B0(r r':R2)(ta tb tc:TE):TE:=λσ H Q=>ta σ H λx H1=>tb σ H1 λy H2=>r x y H2 λz H3=>∃k,z=.bl k/\(if k=true then tc σ H3 λw' H4=>r' y w' H4 Q else Q (.bl false) H3)
theorem Iy{op Ga:CmpOp}{r r':R2}(ho:iB X (compareOp op) r)(BV:iB X (compareOp Ga) r')(ha:PE X a ta)(hb:PE X b tb)(hc:PE X c tc)(hm:autoParam (lastMarks [op,Ga] [b,c]=false) qQ2):PE X (.Compare a [op,Ga] [b,c] pos) (B0 r r' ta tb tc):=by intro pins s σ H Q I h;refine Compare_chain (br (ha pins s σ H _ I h) λv s1 ⟨x,H1,I1,r1,q1⟩=>chain_link<|br (hb pins s1 σ H1 _ I1 q1) λu s2 ⟨y,H2,I2,r2,q2⟩=>br (ho pins s2 σ H2 x y v u _ I2 r1 r2 q2) λd s3 ⟨z,H3,I3,r3,k,e,q3⟩=>?_) hm;subst e;cases r3;refine yz ?_;cases k with|false=>exact ite_ff {.bl false,H3,I3,rfl,q3}|true=>exact ite_tt<|chain_last<|br (hc pins s3 σ H3 _ I3 q3) λw' s4 ⟨z',H4,I4,r4,q4⟩=>BV pins s4 σ H4 y z' u w' Q I4 r2 r4 q4
theorem Iz{op Ga:CmpOp}{r r':R2}(ho:iB X (compareOp op) r)(BV:iB X (compareOp Ga) r')(ha:PE X a ta)(hb:PE X b tb)(hc:PE X c tc)(hm:autoParam (lastMarks [op,Ga] [b,c]=false) qQ2):PT X (.Compare a [op,Ga] [b,c] pos) (Iw<|B0 r r' ta tb tc):=by intro pins s σ H Q I h;refine isTrue_chain (br (ha pins s σ H _ I h) λv s1 ⟨x,H1,I1,r1,q1⟩=>test_link<|br (hb pins s1 σ H1 _ I1 q1) λu s2 ⟨y,H2,I2,r2,q2⟩=>br (ho pins s2 σ H2 x y v u _ I2 r1 r2 q2) λd s3 ⟨z,H3,I3,r3,k,e,q3⟩=>?_) hm;subst e;cases r3;refine yz ?_;cases k with|false=>(obtain⟨k',e',q'⟩:=q3;cases e';exact ite_ff ⟨H3,I3,q'⟩)|true=>refine ite_tt<|test_last<|br (hc pins s3 σ H3 _ I3 q3) λw' s4 ⟨z',H4,I4,r4,q4⟩=>br (BV pins s4 σ H4 y z' u w' _ I4 r2 r4 q4) ?_;rintro d' s5 ⟨z2,H5,I5,r5,k2,e2,q5⟩;subst e2;cases r5;exact yz ⟨H5,I5,q5⟩
theorem rF:(sizeLine:Nat)<2^63:=by rw[yg];decide
theorem B4:iB X (binaryOp .Add) (λx y H Q=>∃i j,x=.str i/\y=.str j/\i.length+j.length<=sizeLine/\Q (.str<|i++j) H):=by intro pins s σ H x y v u Q I rx ry h;obtain⟨i,j,rfl,rfl,hz,q⟩:=h;obtain⟨t,rfl⟩:=rx;obtain⟨t',rfl⟩:=ry;exact add_str (λt' tk=>{.str<|i++j,H,I.tok _,{_,rfl},q}) hz
theorem vals1(r:Vals [x] us):∃u,us=[u]/\RelV x u:=by cases r with|cons r1 r2=>cases r2;exact{_,rfl,r1}
theorem vals2(r:Vals [x,y] us):∃u w',us=[u,w']/\RelV x u/\RelV y w':=by cases r with|cons r1 r2=>cases r2 with|cons r3 r4=>cases r4;exact{_,_,rfl,r1,r3}
theorem Gb(hc:X.calm=true):eN X (.builtin "max") (λxs H Q=>∃i j,xs=[.int i,.int j]/\Q (.int<|if j>i then j else i) H):=by intro pins s σ H xs us Q I r h;obtain⟨i,j,rfl,q⟩:=h;obtain⟨u,w',rfl,⟨t,rfl⟩,⟨t',rfl⟩⟩:=vals2 r;refine max_two_ints (I.ok.hd hc) λh' tk k=>{_,H,I.kept k,?_,q};by_cases hj:j>i;rw[if_pos hj,if_pos hj];exact{_,rfl};rw[if_neg hj,if_neg hj];exact{_,rfl}
theorem Ge(hc:X.calm=true):eN X (.builtin "min") (λxs H Q=>∃i j,xs=[.int i,.int j]/\Q (.int<|if j<i then j else i) H):=by intro pins s σ H xs us Q I r h;obtain⟨i,j,rfl,q⟩:=h;obtain⟨u,w',rfl,⟨t,rfl⟩,⟨t',rfl⟩⟩:=vals2 r;refine min_two_ints (I.ok.hd hc) λh' tk k=>{_,H,I.kept k,?_,q};by_cases hj:j<i;rw[if_pos hj,if_pos hj];exact{_,rfl};rw[if_neg hj,if_neg hj];exact{_,rfl}
theorem uU:eN X (.type "int") (λxs H Q=>(∃i,xs=[.int i]/\Q (.int i) H)\/∃k,xs=[.bl k]/\Q (.int<|if k then 1 else 0) H):=by intro pins s σ H xs us Q I r h;rcases h with⟨i,rfl,q⟩|⟨k,rfl,q⟩;obtain⟨u,rfl,t,rfl⟩:=vals1 r;exact call_int_int {.int i,H,I,{_,rfl},q};obtain⟨u,rfl,r1⟩:=vals1 r;cases r1;exact call_int_bool {.int<|if k then 1 else 0,H,I.tok _,{_,rfl},q}
def Y_(K:Frag)(x:V)(H:Hp)(n:Nat):Prop:=match x with|.str y=>y.length<=sizeLine/\n=y.length|.Em y=>y.size<=sizeLine/\n=y.size|.ref p=>(∃xs,jq K H p xs/\n=xs.length)\/∃xs,i4 K H p xs/\n=xs.length|_=>False
theorem ju:eN X (.builtin "len") (λxs H Q=>∃x n,xs=[x]/\Y_ X.K x H n/\Q (.int n) H):=by intro pins s σ H xs us Q I r h;obtain⟨x,n,rfl,e,q⟩:=h;obtain⟨u,rfl,rx⟩:=vals1 r;have hl:=rF;have hs:sizeLine=16777216:=yg;cases x with|str y=>(obtain⟨t,rfl⟩:=rx;obtain⟨hy,e'⟩:y.length<=sizeLine/\n=y.length:=e;subst e';exact len_str (by lia) {.int _,H,I.tok _,{_,rfl},q})|Em y=>(obtain⟨t,rfl⟩:=rx;obtain⟨hy,e'⟩:y.size<=sizeLine/\n=y.size:=e;subst e';exact PySem.W.len_bytes (by lia) {.int _,H,I.tok _,{_,rfl},q})|ref p=>(cases rx;have e':(∃xs,jq X.K H p xs/\n=xs.length)\/∃xs,i4 X.K H p xs/\n=xs.length:=e;rcases e' with⟨xs,hx,e'⟩|⟨xs,hx,e'⟩;subst e';obtain⟨aw,r',pl,hz⟩:=I.list hx;have hlen:=r'.length;exact Calls.call_len_list pl.isList (by simp only[zp];lia) {.int xs.length,H,I.tok _,{_,by simp only[zp];rw[hlen]},q};subst e';obtain⟨aw,r',pl,hz⟩:=I.tuple hx;have hlen:=r'.length;exact len_tuple pl (by simp only[zp];lia) {.int xs.length,H,I.tok _,{_,by simp only[zp];rw[hlen]},q})|_=>exact(show False from e).elim
end
structure B6(h:Heap)(x dx C:Addr)(mA:Str->Option Value):Prop where
 obj:h.get? x=some (instObj C dx)
 ns:h.Ns1 dx mA
 ne:dx≠x
theorem Gf{h:Heap}{dx:Addr}{mA:Str->Option Value}(n:h.Ns1 dx mA):∃od,h.get? dx=some od/\∀name,lookIn name od=some (mA name):=by
 obtain⟨o,es,ep,ho,hd,hk,_,hm⟩:=n;refine{o,ho,λname=>?_};have e:=hm name;unfold nsFind findBy at e;rw[<-Array.find?_toList]at e;unfold lookIn;rw[hd];dsimp only;split;rename_i y q;rw[q]at e;exact congrArg some e;rename_i q;rw[q]at e;have a:es.toList.any (·.refKey)=false:=by rw[List.any_eq_false];intro y hy;obtain⟨z,t,Qm⟩:=hk y<|Array.mem_toList_iff.mp hy;simp[DictEntry.refKey,Qm]
 have a':¬es.toList.any (·.refKey)=true:=by rw[a];exact zd
 rw[if_neg a'];exact congrArg some e
theorem B6.look(I:B6 h x dx C mA):∃od,PySem.W.InstAt h x (instObj C dx) C (some od)/\∀name,lookIn name od=some (mA name):=
 let ⟨od,ho,hl⟩:=Gf I.ns
 ⟨od,⟨I.obj,rfl,rfl,ho⟩,hl⟩
section
variable{prog:Program}{w:World}{A:Around}{E:li}{s:Shared}{K:Frag}{x dx C f:Addr}{mA:Str->Option Value}{name:Str}{v:Value}
theorem get_map(X:K.In s.heap)(I:B6 s.heap x dx C mA)(hg:plainGet K C name=true)(hh:hasDictIn K C=true)(ha:findIn K (.ref C) name=some none)(hv:mA name=some v)(XW:handedIn v=true)(h:Q v {s with toks:=s.toks+1}): wpAny (model prog w) A (getAttr (.ref x) name expr) Q E s:=by obtain⟨od,J,hl⟩:=I.look;exact PySem.W.get_value X J (plainGet_of hg).1 (PySem.W.findObj_own hh ha rfl<|by rw[hl,hv]) XW h
theorem IA(X:K.In s.heap)(I:B6 s.heap x dx C mA)(hg:plainGet K C name=true)(hf:findIn K (.ref C) name=some (some<|.ref f))(ht:isFn K (.ref f)=true)(hv:mA name=none)(h:Q (.ref f,[.ref x]) s): wpAny (model prog w) A (getMethod (.ref x) name pl) Q E s:=by obtain⟨od,J,hl⟩:=I.look;exact PySem.W.method_fn X J (plainGet_of hg).1 (plainGet_of hg).2 hf (beq_iff_eq.mp ht) (by show(lookIn name od).map (·.isSome)=some false;rw[hl,hv];rfl) h
theorem L7(X:K.In s.heap)(I:B6 s.heap x dx C mA)(hs:findIn K (.ref C) "__setattr__"= some (some<|.builtin "object.__setattr__"))(hp:plainOver K C=true)(ht:takerIn K C name=some none)(hh:hasDictIn K C=true)(hw:PySem.Within mA ns)(hsz:ns.length<=sizeLine)(h:∀h',B6 h' x dx C (λy=>if y=name then some v else mA y)->Heap.SameBut dx s.heap h'->Q () {s with heap:=h',toks:=s.toks+2}): wpAny (model prog w) A (setAttr (.ref x) name v) Q E s:=by obtain⟨od,J,hl⟩:=I.look;refine PySem.W.set_plain X J hs<|PySem.W.osa_open (s:={s with toks:=s.toks+1}) (r:=none) X J hp ht λb=>?_;obtain⟨cd,hc,BW⟩:=PySem.W.any_some hh;have hx:s.heap.get? x=some {.ref C,some dx,.plain,#[]}:=I.obj;refine zc<|zo<|zc<|zc<|wpAny_loadPart hx<|zc<|PySem.W.Looks.here (s:={s with toks:=s.toks+1}) (PySem.W.looks_clsIn X hc) ?_;rw[BW];refine zo (a:=some dx)<|zc<|zo<|zc ?_;refine wpAny_nsSet1 (s:={s with toks:=s.toks+1}) I.ns λh' Oo t5=>?_;obtain⟨oD,esD,epD,hoD,hdD,hcD⟩:=Oo.count<|PySem.Within.cons name v hw;refine zc<|wpAny_lookBehind hoD (by rw[hdD];exact pastItsLine_dict<|zJ hcD<|by rw[zQ];lia) ?_;exact zo<|h _ {(t5.2 _<|Ne.symm I.ne).trans I.obj,Oo,I.ne} t5
theorem IB(X:K.In s.heap)(hm:makesIn K C=true)(hi:findIn K (.ref C) "__init__"= some (some<|.ref f))(hf:PySem.W.typeIn K (.ref f)=some (.type "function"))(h:codeAny (model prog w) (A.under<|.builtin "type.__call__" {.ref C::vs,kw}) (.call (.ref f) {.ref (s.heap.objs.size+1)::vs,kw}) (PySem.W.InitBack (s.heap.objs.size+1) R) {s with heap:=(s.heap.push emptyDict).push<|instObj C s.heap.objs.size}): codeAny (model prog w) A (.call (.ref C) ⟨vs,kw⟩) R s:=by obtain⟨hh,g,d,t,os⟩:=s;exact PySem.W.make_core (PySem.W.makes_of X hm) (PySem.W.looks_findIn X hi) (λself=>PySem.W.bind_fn X self hf) (.inl rfl) h
end
noncomputable def putF(f:Str)(v:V):List (Str×V)->List (Str×V)|[]=>[(f,v)]| (g,x)::r=>if g=f then (g,v)::r else (g,x)::putF f v r
theorem pA(f g:Str)(v:V):∀fs:ii,(putF f v fs).lookup g=if g=f then some v else fs.lookup g|[]=>by show List.lookup g [(f,v)]=_;by_cases h:g=f;have hb:(g==f)=true:=beq_iff_eq.mpr h;simp only[List.lookup,hb,if_pos h];have hb:(g==f)=false:=beq_eq_false_iff_ne.mpr h;simp only[List.lookup,hb,if_neg h]| (k,x)::r=>by have ih:=pA f g v r;rw[show putF f v ((k,x)::r)=(if k=f then (k,v)::r else (k,x)::putF f v r) from rfl];by_cases hk:k=f;rw[if_pos hk];by_cases h:g=k;have hb:(g==k)=true:=beq_iff_eq.mpr h;simp only[List.lookup,hb,if_pos<|h.trans hk];have hb:(g==k)=false:=beq_eq_false_iff_ne.mpr h;simp only[List.lookup,hb,if_neg (λe:g=f=>h<|e.trans hk.symm)];rw[if_neg hk];by_cases h:g=k;have hb:(g==k)=true:=beq_iff_eq.mpr h;simp only[List.lookup,hb,if_neg (λe:g=f=>hk<|h.symm.trans e)];have hb:(g==k)=false:=beq_eq_false_iff_ne.mpr h;simp only[List.lookup,hb];exact ih
theorem n6(f:Str)(v:V):∀fs:ii,f∈(putF f v fs).map (·.1)/\∀g,g∈fs.map (·.1)->g∈(putF f v fs).map (·.1)|[]=>{by simp[putF],λg h=>by simp at h}| (k,x)::r=>by obtain⟨i1,i2⟩:=n6 f v r;rw[show putF f v ((k,x)::r)=(if k=f then (k,v)::r else (k,x)::putF f v r) from rfl];by_cases hk:k=f;rw[if_pos hk];subst hk;exact{by simp,λg h=>by simpa using h};rw[if_neg hk];refine{?_,λg h=>?_};rw[zx];exact zf _ i1;rw[zx]at h⊢;rcases zk.mp h with e|e;exact zk.mpr<|.inl e;exact zf _<|i2 g e
theorem pB(f:Str)(v:V):∀fs:ii,(putF f v fs).length<=fs.length+1|[]=>by simp[putF]| (k,x)::r=>by have ih:=pB f v r;rw[show putF f v ((k,x)::r)=(if k=f then (k,v)::r else (k,x)::putF f v r) from rfl];by_cases hk:k=f;rw[if_pos hk,zQ,zQ];lia;rw[if_neg hk,zQ,zQ];lia
theorem gq.some_of(r:gq (some v) o):∃u,o=some u/\RelV v u:=by cases o with|none=>exact(show False from r).elim|some u=>exact⟨u,rfl,r⟩
theorem gq.none_of(r:gq none o):o=none:=by cases o with|none=>rfl|some u=>exact(show False from r).elim
theorem Gg(r:RelV v u):handedIn u=true:=by cases v with|av=>(cases (show u=Value.none from r);rfl)|bl b=>(cases (show u=Value.bool b from r);rfl)|int i=>(obtain⟨t,e⟩:=(show ∃t,u=Value.int i t from r);cases e;rfl)|str x=>(obtain⟨t,e⟩:=(show ∃t,u=Value.str x t from r);cases e;rfl)|Em b=>(obtain⟨t,e⟩:=(show ∃t,u=Value.bytes b t from r);cases e;rfl)|PF b=>(obtain⟨t,e⟩:=(show ∃t,u=Value.float b t from r);cases e;rfl)|ref a=>(cases (show u=Value.ref a from r);rfl)|ty n=>cases (show u=Value.type n from r);rfl
section
variable{P:Program}{w:World}{H:Hp}{h:Heap}{a C dx:Addr}{fs:ii}
theorem qN(aN:lN P w H h)(e:H a=some (.ins C dx fs)):∃mA,B6 h a dx C mA/\(∀f,gq (fs.lookup f)<|mA f)/\PySem.Within mA (fs.map (·.1))/\fs.length<=1000/\H dx=some (.own a):=by obtain⟨d,z,ne,ob,mA,n,r,q⟩:=(show bt P w H h a (.ins C dx fs) from aN a _ e);exact{mA,⟨ob,n,ne⟩,r,q,z,d}
end
structure qO(K:Frag)(C:Addr):Prop where
 pg:plainGet K C Str.empty=true
 hd:hasDictIn K C=true
 po:plainOver K C=true
 sa:findIn K (.ref C) "__setattr__"= some (some<|.builtin "object.__setattr__")
theorem qO.get{K:Frag}{C:Addr}(c:qO K C)(f:Str):plainGet K C f=true:=c.pg
def jv(K:Frag)(C:Addr)(f:Str):Prop:=findIn K (.ref C) f=some none
theorem jv.UR{K:Frag}{C:Addr}{f:Str}(n:jv K C f):takerIn K C f=some none:=by unfold takerIn;rw[show findIn K (.ref C) f=some none from n];rfl
structure Con(K:Frag)(C:Addr)(f:Str)(v:V)(u:Value):Prop where
 at_:findIn K (.ref C) f=some (some u)
 rel:RelV v u
 get:specialIn K u "__get__"= some none
 cp:PySem.W.copiedNames.contains f=false
structure Meth(K:Frag)(C:Addr)(m:Str)(f:Addr):Prop where
 at_:findIn K (.ref C) m=some (some<|.ref f)
 fn:isFn K (.ref f)=true
 kp:keepIn K (.ref f)=true
section
variable{X:Cx}{pins:jp}{σ:St}{H:Hp}{s:Shared}{a C dx:Addr}{fs:ii}{f:Str}{v:V}{A:Around}{E:li}
theorem B7(I:Inv X pins σ H s)(e:H a=some (.ins C dx fs))(c:qO X.K C)(n:jv X.K C f)(l:fs.lookup f=some v)(h:∀u s',Inv X pins σ H s'->RelV v u->Q u s'):wpAny (model X.prog X.w) A (getAttr (.ref a) f b) Q E s:=by obtain⟨mA,O,r,_,_,_⟩:=qN I.aN e;obtain⟨u,hu,ru⟩:=gq.some_of (v:=v) (o:=mA f) (by rw[<-l];exact r f);exact get_map I.pj O (c.get f) c.hd n hu (Gg ru)<|h u _ (I.tok _) ru
theorem rG(I:Inv X pins σ H s)(e:H a=some (.ins C dx fs))(c:qO X.K C)(k:Meth X.K C m g)(l:fs.lookup m=none)(h:Q (.ref g,[.ref a]) s):wpAny (model X.prog X.w) A (getMethod (.ref a) m pl) Q E s:=by obtain⟨mA,O,r,_,_,_⟩:=qN I.aN e;have hn:mA m=none:=gq.none_of (by rw[<-l];exact r m);exact IA I.pj O (c.get m) k.at_ k.fn hn h
theorem B8(I:Inv X pins σ H s)(e:H a=some (.ins C dx fs))(c:qO X.K C)(n:jv X.K C f)(hl:fs.length<1000)(ry:RelV y u)(h:∀s',Inv X pins σ (upd H a<|.ins C dx<|putF f y fs) s'->Q () s'):wpAny (model X.prog X.w) A (setAttr (.ref a) f u) Q E s:=by
 obtain⟨mA,O,r,wi,_,ho⟩:=qN I.aN e;have hz:(fs.map (·.1)).length<=sizeLine:=by rw[zb,yg];lia
 refine L7 I.pj O c.sa c.po n.UR c.hd wi hz λh' O' sb=>h _ ?_;have hd:∃o,h'.get? dx=some o:=by obtain⟨o,_,_,e',_⟩:=O'.ns;exact⟨o,e'⟩
 refine I.write (x:=a) (e:=dx) (by rw[e];exact True.intro) (.inr ho) (λb q hb z=>(sb.2 b hb).trans z) hd ?_;refine{by rw[ax O.ne];exact ho,?_,O.ne,O'.obj,_,O'.ns,λg=>?_,λg hg=>?_};have:=pB f y fs;lia;show gq ((putF f y fs).lookup g) (if g=f then some u else mA g);rw[pA];by_cases q:g=f;rw[if_pos q,if_pos q];exact ry;rw[if_neg q,if_neg q];exact r g;by_cases q:g=f;rw[q];exact(n6 f y fs).1;refine(n6 f y fs).2 g<|wi g λz=>hg ?_;show(if g=f then some u else mA g)=none;rw[if_neg q];exact z
theorem Inv.made(I:Inv X pins σ H s):Inv X pins σ (upd (upd H s.heap.objs.size<|.own<|s.heap.objs.size+1) (s.heap.objs.size+1)<|.ins C s.heap.objs.size []) {s with heap:=(s.heap.push emptyDict).push<|instObj C s.heap.objs.size}:=by
 have e1:(s.heap.push emptyDict).get? s.heap.objs.size=some emptyDict:=zm s.heap rfl;have e2:((s.heap.push emptyDict).push<|instObj C s.heap.objs.size).get? (s.heap.objs.size+1)=some (instObj C s.heap.objs.size):=by have:=zm (s.heap.push emptyDict) (o:=instObj C s.heap.objs.size) rfl;rwa [yd]at this
 have e3:(s.heap.push emptyDict).Ns s.heap.objs.size (λ_=>none):={emptyDict,#[],_,e1,rfl,(λe he=>absurd he<|by simp),λ_=>rfl};have I1:=I.laid (a:=s.heap.objs.size) (o:=.own<|s.heap.objs.size+1) (h':=s.heap.push emptyDict) (t':=s.toks) (λb u q=>za _ q) (zq _) {_,e1};refine I1.laid (a:=s.heap.objs.size+1) (o:=.ins C s.heap.objs.size []) (t':=s.toks) (λb u q=>za _ q) (Nat.le_of_eq<|yd _ _) ?_;have ne:s.heap.objs.size≠s.heap.objs.size+1:=zD<|Nat.lt_succ_self _;refine{by rw[ax ne,aG],zU _,ne,e2,λ_=>none,(Heap.Ns1.of_empty e3).at λo q=>za _ q,λ_=>True.intro,λy hy=>absurd rfl hy}
theorem L8(hb:attributeBase e f env (eval e env)=eval e env)(h:wpAny (model prog w) A (eval e env) (λo ba=>wpAny (model prog w) A (getAttr o f true) Q E ba) E s):wpAny (model prog w) A (eval (.Attribute e f pos) env) Q E s:=Attribute_any_ h<|by rw[arm_eval_Attribute,hb]
end
def Za(K:Frag)(ta:TE)(f:Str):TE:=λσ H Q=>ta σ H λx H1=>∃a C dx fs v,x=.ref a/\H1 a=some (.ins C dx fs)/\qO K C/\jv K C f/\fs.lookup f=some v/\Q v H1
def Zb(K:Frag)(ta tv:TE)(f:Str):TS:=λD σ H=>tv σ H λy H1=>ta σ H1 λx H2=>∃a C dx fs,x=.ref a/\H2 a=some (.ins C dx fs)/\qO K C/\jv K C f/\fs.length<1000/\D.nx σ (upd H2 a<|.ins C dx<|putF f y fs)
section
variable{X:Cx}{o e value:Expr}{f:Str}{pos pos':Pos}{ta tv:TE}
theorem Qn(he:PE X e ta)(hb:attributeBase e f X.env (eval e X.env)=eval e X.env):PE X (.Attribute e f pos) (Za X.K ta f):=by intro pins s σ H Q I h;refine L8 hb<|br (he pins s σ H _ I h) ?_;rintro u s1 ⟨x,H1,I1,rx,a,C,dx,fs,v,ex,ea,c,n,l,q⟩;subst ex;obtain rfl:u=Value.ref a:=rx;exact B7 I1 ea c n l λu' s2 I2 ru=>⟨v,H1,I2,ru,q⟩
theorem Qo(ha:PE X o ta)(hv:PE X value tv)(hs:swapsWith value (some<|.Attribute o f pos') pos.line X.env=pure false):PS X (.Assign [.Attribute o f pos'] value pos) (Zb X.K ta tv f):=by intro pins s σ H D I h;refine plainObj_wpAny_Assign_Attribute (br (hv pins s σ H _ I h) λu s1 ⟨y,H1,I1,ry,q⟩=>br (ha pins s1 σ H1 _ I1 q) λov s2 ⟨x,H2,I2,rx,a,C,dx,fs,ex,ea,c,n,l,q2⟩=>?_) hs;subst ex;obtain rfl:ov=Value.ref a:=rx;exact B8 I2 ea c n l ry λs3 I3=>{σ,_,I3,q2}
end
section
variable{X:Cx}{pins:jp}{σ:St}{H:Hp}{s:Shared}{A:Around}{E Q:li}{c:Value}{b:Bool}
inductive n8(K:Frag)(H:Hp):V->Value->Prop where
 |av:n8 K H .av (.type "NoneType")
 |bl (x:Bool):n8 K H (.bl x) (.type "bool")
 |int (i:Int):n8 K H (.int i) (.type "int")
 |str (x:Str):n8 K H (.str x) (.type "str")
 |PF (x:UInt64):n8 K H (.PF x) (.type "float")
 |lst {a:Addr}{xs:dL} (e:H a=some (.lst xs)):n8 K H (.ref a) (.type "list")
 |lM {a:Addr}{o:Obj}{xs:dL} (e:H a=some (.lM o<|.lst xs)):n8 K H (.ref a) (.type "list")
 |tup {a:Addr}{xs:dL} (e:H a=some (.tup xs)):n8 K H (.ref a) (.type "tuple")
 |dK {a:Addr}{kvs:ge} (e:H a=some (.dK kvs)):n8 K H (.ref a) (.type "dict")
 |dT {a:Addr}{kvs:List<|List Key×V} (e:H a=some (.dT kvs)):n8 K H (.ref a) (.type "dict")
 |ins {a C dx:Addr}{fs:ii} (e:H a=some (.ins C dx fs)) (cl:qO K C) (ha:findIn K (.ref C) "__class__"= some (some<|.builtin "object.__class__"))
   (hn:specialIn K (.builtin "object.__class__") "__get__"= some (some<|.builtin "getset_descriptor.__get__")) (htk:PySem.W.takesIn K (.builtin "object.__class__")=some true)
   (hm:mroIn K C (.type "object")=some true):n8 K H (.ref a) (.ref C)
theorem Gi{u t:Value}(I:Inv X pins σ H s)(rx:RelV x u)(ty:n8 X.K H x t)(e:kitOne X.K t c=some b)(h:∀tk,Q (.bool b) {s with toks:=tk}): wpAny (model X.prog X.w) A (call (.builtin "isinstance") [u,c]) Q E s:=by cases ty with|av=>(cases (show u=Value.none from rx);exact kia_one PySem.W.kitx_none I.pj True.intro e (λz=>nomatch z) h)|bl y=>(cases (show u=Value.bool y from rx);exact kia_one PySem.W.kitx_bool I.pj True.intro e (λz=>nomatch z) h)|int i=>(obtain⟨t,q⟩:=(show ∃t,u=Value.int i t from rx);cases q;exact kia_one PySem.W.kitx_int I.pj True.intro e (λz=>nomatch z) h)|str y=>(obtain⟨t,q⟩:=(show ∃t,u=Value.str y t from rx);cases q;exact kia_one PySem.W.kitx_str I.pj True.intro e (λz=>nomatch z) h)|PF y=>(obtain⟨t,q⟩:=(show ∃t,u=Value.float y t from rx);cases q;exact kia_one PySem.W.kitx_float I.pj True.intro e (λz=>nomatch z) h)|@lst a xs ea=>(cases (show u=Value.ref a from rx);obtain⟨_,_,n,_,h1⟩:=(show bt X.prog X.w H s.heap a (.lst xs) from I.aN a _ ea);exact kia_one kitx_list I.pj {_,h1,rfl} e (λz=>nomatch z) h)|@lM a ob xs ea=>(cases (show u=Value.ref a from rx);obtain⟨_,_,_,n,_,h1⟩:=(show bt X.prog X.w H s.heap a (.lM ob<|.lst xs) from I.aN a _ ea);exact kia_one kitx_list I.pj {_,h1,rfl} e (λz=>nomatch z) h)|@tup a xs ea=>(cases (show u=Value.ref a from rx);obtain⟨_,_,_,p⟩:=(show bt X.prog X.w H s.heap a (.tup xs) from I.aN a _ ea);obtain⟨o,h1,h2,_⟩:=p;exact kia_one PySem.W.kitx_tuple I.pj ⟨o,h1,h2⟩ e (λz=>nomatch z) h)|@dK a kvs ea=>(cases (show u=Value.ref a from rx);obtain⟨_,_,vs,_,p⟩:=(show bt X.prog X.w H s.heap a (.dK kvs) from I.aN a _ ea);obtain⟨o,es,ep,h1,h2,_⟩:=p;exact kia_one PySem.W.kitx_dict I.pj ⟨o,h1,h2.1⟩ e (λz=>nomatch z) h)|@dT a kvs ea=>exact False.elim (show bt X.prog X.w H s.heap a (.dT kvs) from I.aN a _ ea)|@ins a C dx fs ea cl ha hn htk hm=>cases (show u=Value.ref a from rx);obtain⟨mA,O,_⟩:=qN I.aN ea;obtain⟨od,J,_⟩:=O.look;exact kia_one (PySem.W.kitx_own (cl.get _) cl.hd ha hn htk hm) I.pj J e (λz=>nomatch z) h
end
structure bR(k:Nat)(A:Around):Prop where
 hd:A.handled=none
 dp:A.depth+3*k+5<recursionLimit
 un:A.units+16*k+200<cLine
theorem bR.mono(r:bR k A)(h:j<=k):bR j A:={r.hd,by have:=r.dp;lia,by have:=r.un;lia}
theorem bR.deeper(r:bR (k+1) A)(env:Env):bR k (A.deeper env):={r.hd,by have:=r.dp;show A.depth+1+3*k+5<_;lia,by have:=r.un;show A.units+3+16*k+200<_;lia}
theorem bR.in1(r:bR (k+1) A):bR k A.in1:={r.hd,by have:=r.dp;show A.depth+3*k+5<_;lia,by have:=r.un;show A.units+1+16*k+200<_;lia}
theorem B9{A:Around}{C:Addr}{us:fv}{kw:pi} : (A.under<|.builtin "type.__call__" {.ref C::us,kw}).depth=A.depth+1:=by first|rfl|simp[Around.under,Code.weight,Code.isCreation,Code.isGuard,Code.isCaller,Code.frames,Code.isFrame,guardIds]
theorem B_{A:Around}{C:Addr}{us:fv}{kw:pi} : (A.under<|.builtin "type.__call__" {.ref C::us,kw}).units=A.units+1:=by first|rfl|simp[Around.under,Code.cUnits,Code.frames,Code.isFrame]
theorem bR.make(r:bR (k+1) A)(C:Addr)(us:fv)(kw:pi):bR k (A.under<|.builtin "type.__call__" {.ref C::us,kw}):={r.hd,by have:=r.dp;rw[B9];lia,by have:=r.un;rw[B_];lia}
theorem bR.depth(r:bR k A):A.depth<recursionLimit:=by have:=r.dp;lia
theorem bR.units(r:bR k A):A.units+64<cLine:=by have:=r.un;lia
def Zd:TA:=λ_ H Q=>Q [] H
def Oq(ta:TE)(tr:TA):TA:=λσ H Q=>ta σ H λx H1=>tr σ H1 λxs H2=>Q (x::xs) H2
section
variable{X:Cx}{e:Expr}{es:mt}{te:TE}{t:TA}{pos:Pos}
theorem Ca:PA X [] Zd:=λ_ _ _ _ H Q I h=>Calls.spliced_nil {[],H,I,.nil,h}
theorem L9(ha:PE X e te)(hr:PA X es t)(hs:autoParam (starEach (e::es) X.env=(false,eval e X.env)::starEach es X.env) qQJ):PA X (e::es) (Oq te t):=by intro pos pins s σ H Q I h;rw[hs];show wpAny _ _ (spliced<|(false,eval e X.env)::backTo pos (starEach es X.env)) _ _ s;refine yG<|br (ha pins s σ H _ I h) ?_;rintro u s1 ⟨x,H1,I1,r1,q1⟩;exact br (hr pos pins s1 σ H1 _ I1 q1) <| by rintro us s2 ⟨xs,H2,I2,r2,q2⟩;exact{x::xs,H2,I2,.cons r1 r2,q2}
def Ze(t:TA):TE:=λσ H Q=>t σ H λxs H1=>xs.length<=sizeLine/\∀p,H1 p=none->Q (.ref p) (upd H1 p<|.tup xs)
def Zg(t:TA):TE:=λσ H Q=>t σ H λxs H1=>xs.length<=sizeLine/\∀p,H1 p=none->Q (.ref p) (upd H1 p<|.lst xs)
theorem Qp{x1}(h:PA X es t):PE X (.Tuple es x1 pos) (Ze t):=by intro pins s σ H Q I hq;refine wpAny_Tuple_spliced<|br (h pos pins s σ H _ I hq) λus s1 ⟨xs,H1,I1,r,z,q⟩=>{by rw[<-r.length];exact z,?_};have hf:H1 s1.heap.objs.size=none:=I1.aN.fresh<|zq _;refine{.ref s1.heap.objs.size,upd H1 s1.heap.objs.size<|.tup xs,I1.laid (t':=s1.toks) (λb u e=>za _ e) (zq _) ?_,rfl,q _ hf};exact{z,us,r,{_,zm _ rfl,rfl,rfl,_,rfl}}
theorem Qq(h:PA X es t):PE X (.List es pos) (Zg t):=by intro pins s σ H Q I hq;refine wpAny_List_spliced<|br (h pos pins s σ H _ I hq) λus s1 ⟨xs,H1,I1,r,z,q⟩=>{by rw[<-r.length];exact z,?_};have hf:H1 s1.heap.objs.size=none:=I1.aN.fresh<|zq _;refine{.ref s1.heap.objs.size,upd H1 s1.heap.objs.size<|.lst xs,I1.laid (t':=s1.toks) (λb u e=>za _ e) (zq _) ?_,rfl,q _ hf};exact{z,us,0,r,zm _ rfl}
end
abbrev Sp:=List V->Hp->VK->XK->Prop
abbrev Cb:=List Env->Hp->Shared->XK->Value->Shared->Prop
structure y6(P:Program)(w:World)(K:Frag)(mg:Str->Option Value)(base:Heap)(A:Around)(outer:j4)(s:Shared)(H:Hp):Prop where
 frames:A.frames=some outer
 mod:Mod K mg base
 bs:∀b o,base.get? b=some o->s.heap.get? b=some o/\H b=none
 LQ:base.objs.size<=s.heap.objs.size
 qj:s.heap.FunFrames base outer
 PK:∀b∈nY outer,H b=none
 aN:lN P w H s.heap
 bare:AllBare s.gens
def CE(outer:j4)(P:Program)(w:World)(H:Hp)(s:Shared)(Q:VK)(u:Value)(s':Shared):Prop:=∃v H',s'.os=s.os/\AllBare s'.gens/\Un (nY outer) [] H H' s.heap s'.heap/\lN P w H' s'.heap/\RelV v u/\Q v H'
def CR(CX:Cb)(outer:j4)(P:Program)(w:World)(H:Hp)(s:Shared)(Q:VK)(E:XK)(r:Result)(s':Shared):Prop:=match r with|.ok (.ret u)=>CE outer P w H s Q u s'|.ok _=>False|.error e=>CX outer H s E e s'
structure bI(P:Program)(w:World)(K:Frag)(mg:Str->Option Value)(base:Heap)(CX:Cb)(k:Nat)(f:Addr)(fd:FuncData)(ps:lc)(sp:Sp):Prop where
 len:∀vs H Q E,sp vs H Q E->vs.length=ps.length
 run:∀(A:Around)(outer:j4)(s:Shared)(H:Hp)(args:Args)(us:fv)(vs:dL)(Q:VK)(E:XK),bR k A->y6 P w K mg base A outer s H->BindsTo s fd args (ps.zip us)->Vals vs us->sp vs H Q E ->
  codeAny (model P w) A (.call (.ref f) args) (CR CX outer P w H s Q E) s
theorem bI.mono{P:Program}{w:World}{K:Frag}{mg:Str->Option Value}{base:Heap}{CX:Cb}{j k:Nat}{f:Addr}{fd:FuncData}{ps:lc}{sp:Sp}(F:bI P w K mg base CX j f fd ps sp)(h:j<=k): bI P w K mg base CX k f fd ps sp:={F.len,λA outer s H args us vs Q E hr=>F.run A outer s H args us vs Q E<|hr.mono h}
theorem bI.imp{P:Program}{w:World}{K:Frag}{mg:Str->Option Value}{base:Heap}{CX:Cb}{k:Nat}{f:Addr}{fd:FuncData}{ps:lc}{sp XX:Sp}(F:bI P w K mg base CX k f fd ps sp)(h:∀vs H Q E,XX vs H Q E->sp vs H Q E):bI P w K mg base CX k f fd ps XX:={λvs H Q E q=>F.len vs H Q E<|h _ _ _ _ q,λA outer s H args us vs Q E hr he hb hv hs=>F.run A outer s H args us vs Q E hr he hb hv<|h _ _ _ _ hs}
theorem y6.make{P:Program}{w:World}{K:Frag}{mg:Str->Option Value}{base:Heap}{A:Around}{outer:j4}{s:Shared}{H:Hp}(e:y6 P w K mg base A outer s H)(C:Addr)(us:fv)(kw:pi): y6 P w K mg base (A.under<|.builtin "type.__call__" {.ref C::us,kw}) outer s H:={by first|exact e.frames|(simpa [Around.under,Code.envs,Code.isFrame,pushEnvs]using e.frames),e.mod,e.bs,e.LQ,e.qj,e.PK,e.aN,e.bare}
section
variable{X:Cx}{pins:jp}{σ:St}{H:Hp}{s s':Shared}
theorem Inv.US(I:Inv X pins σ H s):y6 X.prog X.w X.K X.mg X.base X.A X.stack s H:={I.ok.frames,I.ok.mod,I.bs,zJ I.ok.LQ I.sz,I.stack,I.qI,I.aN,I.bare}
theorem Inv.after(I:Inv X pins σ H s)(h:CE X.stack X.prog X.w H s Q u s'):EP X pins σ Q u s':=by obtain⟨v,H',os,bare,un,aN,r,q⟩:=h;obtain⟨hh,g,d,t,UT⟩:=s';obtain rfl:UT=s.os:=os;exact{v,H',I.call (h':=hh) (g':=g) (d':=d) (t':=t) (ch:=[]) un aN bare λb z=>absurd z<|by simp,r,q}
end
def Binds(K:Frag)(fd:FuncData)(ps:lc)(ds:fv):Prop:=∀(s:Shared)(us:fv),K.In s.heap->(us++ds).length=ps.length->BindsTo s fd {us,[]} (ps.zip<|us++ds)
theorem Binds.all{K:Frag}{fd:FuncData}{ps:lc}(h:∀us:fv,us.length=ps.length->bindArgs fd {us,[]}=pure (ps.zip us)):Binds K fd ps []:=λs us _ hl=>by rw[List.append_nil]at hl⊢;exact .of_eq<|h us hl
def Passes(CX:Cb)(X:Cx)(E:XK):Prop:=∀(pins:jp)(σ:St)(H:Hp)(s:Shared)(e:Value)(s':Shared),Inv X pins σ H s->CX X.stack H s E e s'->X.xe e s'
section
variable{f C:Addr}
structure Mk(K:Frag)(C f:Addr):Prop where
 makes:makesIn K C=true
 init:findIn K (.ref C) "__init__"= some (some<|.ref f)
 fn:isFn K (.ref f)=true
 kp:keepIn K (.ref C)=true
end
section
variable{fd:FuncData}{ps ks:lc}
structure Zh(K:Frag)(fd:FuncData)(ps ks:lc)(g:List Value->List Value->List Value)(gV:List V->List V->List V):Prop where
 to:∀(s:Shared)(us ws:fv),K.In s.heap->(g us ws).length=ps.length->BindsTo s fd {us,ks.zip ws} (ps.zip<|g us ws)
 rel:∀{vs:dL}{us:fv}{zs:dL}{ws:fv},Vals vs us->Vals zs ws->Vals (gV vs zs) (g us ws)
variable{g:List Value->List Value->List Value}{gV:List V->List V->List V}
end
structure gx(N P:lc)(sc:Scope):Prop where
 kind:sc.kind=.function
 co:sc.isCoroutine=false
 gen:sc.isGenerator=false
 nd:N.Nodup
 pre:N.take P.length=P
 par:∀x∈P,sc.names.lookup x=some .local\/sc.names.lookup x=some .cell
 Qr:∀y∈sc.names,y.2≠.free
theorem uV{kindOf:Str->Option NameKind}{x:Str} : ∀{binds:pi}{m:Str->Option Value},(∀v,(x,v)∉binds)->bindL kindOf binds m x=m x
 |[],_,_=>rfl
 | (n,v)::r,m,h=>by
  unfold bindL;rw[uV λw hw=>h w<|zf _ hw];split;have:x≠n:=by rintro rfl;exact h v zj
  simp[this];rfl
theorem uW{kindOf:Str->Option NameKind}{x:Str} : ∀{binds:pi}{m:Str->Option Value},(∀v,(x,v)∉binds)->bindC kindOf binds m x=m x
 |[],_,_=>rfl
 | (n,v)::r,m,h=>by
  unfold bindC;rw[uW λw hw=>h w<|zf _ hw];split;rfl;have:x≠n:=by rintro rfl;exact h v zj
  simp[this]
theorem uX{kindOf:Str->Option NameKind}{x:Str}{v:Value} : ∀{P:lc}{vs:fv}{i:Nat}{m:Str->Option Value},P.Nodup->P[i]?=some x->vs[i]?=some v->kindOf x=some .local->bindL kindOf (P.zip vs) m x=some v|[],_,_,_,_,h,_,_=>by simp at h|_::_,[],_,_,_,_,h,_=>by simp at h|p::P,w::vs,0,m,nd,h1,h2,hk=>by simp at h1 h2;subst h1;subst h2;show bindL kindOf ((p,w)::P.zip vs) m p=_;unfold bindL;rw[uV λv hv=>(ym.mp nd).1 (List.of_mem_zip hv).1,if_pos hk];simp|p::P,w::vs,i+1,m,nd,h1,h2,hk=>by show bindL kindOf ((p,w)::P.zip vs) m x=_;unfold bindL;exact uX (i:=i) (ym.mp nd).2 (by simpa using h1) (by simpa using h2) hk
theorem uY{kindOf:Str->Option NameKind}{x:Str}{v:Value} : ∀{P:lc}{vs:fv}{i:Nat}{m:Str->Option Value},P.Nodup->P[i]?=some x->vs[i]?=some v->kindOf x≠some .local->bindC kindOf (P.zip vs) m x=some v|[],_,_,_,_,h,_,_=>by simp at h|_::_,[],_,_,_,_,h,_=>by simp at h|p::P,w::vs,0,m,nd,h1,h2,hk=>by simp at h1 h2;subst h1;subst h2;show bindC kindOf ((p,w)::P.zip vs) m p=_;unfold bindC;rw[uW λv hv=>(ym.mp nd).1 (List.of_mem_zip hv).1,if_neg hk];simp|p::P,w::vs,i+1,m,nd,h1,h2,hk=>by show bindC kindOf ((p,w)::P.zip vs) m x=_;unfold bindC;exact uY (i:=i) (ym.mp nd).2 (by simpa using h1) (by simpa using h2) hk
def start(N:lc)(vs:dL):St:=vs.map some++List.replicate (N.length-vs.length) none
def kH(CX:Cb)(P:Program)(w:World)(K:Frag)(mg:Str->Option Value)(base:Heap)(N:lc)(qual:Str)(scope:Scope)(f:Addr)(cd:Value)(A:Around)(outer:j4)(s:Shared)(H:Hp)(E:XK):Cx where
 prog:=P
 w:=w
 K:=K
 mg:=mg
 base:=base
 A:=A.deeper<|envOfC qual scope s.heap.objs.size f cd
 N:=N
 dw:=s
 vX:=H
 env:=envOfC qual scope s.heap.objs.size f cd
 outer:=outer
 stack:=envOfC qual scope s.heap.objs.size f cd::outer
 ex:=[]
 calm:=true
 fn:=λ_=>true
 pn:=[]
 xe:=λe s'=>wpAny (model P w) (A.deeper<|envOfC qual scope s.heap.objs.size f cd) (leaving (envOfC qual scope s.heap.objs.size f cd) e) (λ_ Cc=>CX outer H s E e Cc) (λe' Cc=>CX outer H s E e' Cc) s'
theorem y7{sc:Scope}{n:Nat}{x:Str}(h:sc.names.lookup x=some .cell):∃c,(cellsFrom n sc.names []).lookup x=some c:=by have q:=PySem.W.cellsFrom_some sc.names n []<|.inl h;exact Option.isSome_iff_exists.mp q
theorem Gj{CX:Cb}{P:Program}{w:World}{K:Frag}{mg:Str->Option Value}{base:Heap}{N ps:lc}{qual:Str}{scope:Scope}{f:Addr}{cd:Value}{A:Around}{outer:j4}{s s1:Shared}{H:Hp}{E:XK}{us:fv}{vs:dL}(S:gx N ps scope)(hd:A.handled=none)(e0:y6 P w K mg base A outer s H)(hl:vs.length=ps.length)(r:Vals vs us)(x:InCallC s s.heap.objs.size (bindL (envOfC qual scope s.heap.objs.size f cd).kindOf (ps.zip us) λ_=>none) (cellsFrom (s.heap.objs.size+1) scope.names []) (bindC (envOfC qual scope s.heap.objs.size f cd).kindOf (ps.zip us) λ_=>none) s1): Inv (kH CX P w K mg base N qual scope f cd A outer s H E) [] (start N vs) H s1:=by
 have dG:ps.length<=N.length:=by have:=congrArg List.length S.pre;rw[yi]at this;lia
 obtain⟨h1,tk,rfl,hk⟩:=x.done;have L_:∀b:Addr,b∉(kH CX P w K mg base N qual scope f cd A outer s H E).ex:=λb z=>absurd (show b∈([]:io) from z) (by simp);refine{{e0.mod,S.kind,rfl,rfl,zq _,λy z c h1 h2=>?_,λy hy=>?_,λy c _ h=>?_,λ_=>hd,Around.frames_deeper e0.frames,.inr ⟨rfl,rfl⟩,λb z=>absurd z<|L_ b,e0.bs,e0.LQ,λb _ _=>L_ b,λb z=>absurd z<|L_ b,e0.qj,e0.PK},rfl,e0.bare,Un.kept hk,{_,x.toInCall.ns,λi y v h1 h2 h3=>?_},λy c h=>{_,x.cell y c h},e0.aN.fresh<|zq _,λy c h=>?_,λp hp=>absurd (show p∈([]:jp) from hp)<|by simp,e0.aN.kept hk,?_};exact name_of_addr x.apart (yn h1)<|yn h2;have hy:scope.names.lookup y=some .cell\/scope.names.lookup y=some .free:=hy;rcases hy with hy|hy;exact y7 hy;exact absurd rfl<|S.Qr _<|yn hy;exact yL<|x.above y c<|yn h;have hi:i<vs.length:=by unfold start at h2;by_cases hi:i<vs.length;exact hi;rw[List.getElem?_append_right<|by simpa using hi]at h2;rw[List.getElem?_replicate]at h2;split at h2<;>cases h2
 have ha:vs[i]?=some v:=by unfold start at h2;rw[List.getElem?_append_left<|by simpa using hi,zi]at h2;cases e:vs[i]? with|none=>(rw[e]at h2;cases h2)|some a=>rw[e]at h2;cases h2;rfl
 obtain⟨u,hu,rv⟩:=r.get ha;have hp:ps[i]?=some y:=by rw[<-S.pre,List.getElem?_take_of_lt<|by lia];exact h1
 have ndP:ps.Nodup:=by rw[<-S.pre];exact S.nd.sublist<|List.take_sublist _ _
 refine{u,rv,?_};rcases S.par y (zy hp) with k|k;exact .inl {k,uX ndP hp hu k};obtain⟨c,e⟩:=y7 (n:=s.heap.objs.size+1) k;refine .inr {.inl k,c,e,?_};have q:=x.cell y c e;rw[uY ndP hp hu<|by show scope.names.lookup y≠_;rw[k];decide]at q;exact q;exact e0.aN.fresh<|yL<|x.above y c<|yn h;unfold start;show _=N.length;rw[zE,zb,List.length_replicate];lia
theorem Ot{CX:Cb}{P:Program}{w:World}{K:Frag}{mg:Str->Option Value}{base:Heap}{k:Nat}{f:Addr}{name qual:Str}{params:Arguments}{body:pc}{scope:Scope}{dV kV doc pm gy ct oc:Value}{an od:re}{Qt:Array<|Option Value}{N ps:lc}{sp:Sp}(lk:K.lookup f=some {oc,od,.func<|fnOf name qual params body scope dV kV doc pm an gy ct,Qt})(tZ:codeIn K gy qual=true)(S:gx N ps scope)(len:∀vs H Q E,sp vs H Q E->vs.length=ps.length)(mC:∀(A:Around)(outer:j4)(s:Shared)(H:Hp)(vs:dL)(Q:VK)(E:XK),bR k (A.deeper<|envOfC qual scope s.heap.objs.size f gy)->sp vs H Q E->∃t,En (kH CX P w K mg base N qual scope f gy A outer s H E) body t/\t {nx:=λ_ H'=>Q .av H',rt:=Q} (start N vs) H): bI P w K mg base CX (k+1) f (fnOf name qual params body scope dV kV doc pm an gy ct) ps sp:=by
 refine{len,λA outer s H args us vs Q E hr e0 hb r Th=>?_};have hl:=len _ _ _ _ Th;have KX:K.In s.heap:=e0.mod.Te.keeps λb o e=>(e0.bs b o e).1;have lim:s.heap.NoLimit:=e0.mod.nolimit.keeps λb o e=>(e0.bs b o e).1;have UU:∀y∈ps.zip us,scope.names.lookup y.1=some .local\/(scope.names.lookup y.1=some .cell/\((cellsFrom (s.heap.objs.size+1) scope.names []).lookup y.1).isSome=true):=by rintro⟨n,v⟩ hy;rcases S.par n (List.of_mem_zip hy).1 with q|q;exact .inl q;exact .inr {q,PySem.W.cellsFrom_some _ _ _<|.inl q}
 refine codeAny_call_function hr.depth (KX _ _ lk) rfl S.co S.gen rfl (PySem.W.codeRec_of KX tZ)<|hb _ _ _ _ ?_;refine wpAny_newFunctionEnv_cells S.kind UU λenv he s1 x=>?_;subst he;refine{lim.keeps x.toInCall.keep,codeAny_func ?_};obtain⟨t,ht,hq⟩:=mC A outer s H vs Q E (hr.deeper _) Th;have I:Inv (kH CX P w K mg base N qual scope f gy A outer s H E) [] (start N vs) H s1:=Gj S hr.hd e0 hl r x;refine yK (ht [] s1 (start N vs) H _ I hq) (λfl s' hs=>?_) λe s' hs=>hs;have fin:∀{aA:St}{H':Hp}{v:V}{u:Value},Inv (kH CX P w K mg base N qual scope f gy A outer s H E) [] aA H' s'->RelV v u->Q v H'->CE outer P w H s Q u s':=λ{aA H' v u} J rv q=>⟨v,H',J.os,J.bare,J.base,J.aN,rv,q⟩;cases fl with|ret u=>(obtain⟨v,aA,H',J,rv,q⟩:=hs;exact fin J rv q)|next=>(obtain⟨aA,H',J,q⟩:=hs;exact fin (v:=V.av) (u:=Value.none) J rfl q)|brk=>(obtain⟨_,_,_,q⟩:=hs;exact False.elim q)|cont=>obtain⟨_,_,_,q⟩:=hs;exact False.elim q
section
variable{X:Cx}{x:Str}{p pos:Pos}{e:Expr}{es:mt}{t:TA}{id T:String}{r:List V->Hp->VK->Prop}
def Zi(r:List V->Hp->VK->Prop)(t:TA):TE:=λσ H Q=>t σ H λvs H1=>r vs H1 Q
theorem y8(hc:eN X (.builtin id) r)(hg:Gl X x)(hm:X.mg x=none)(hv:bootBuiltins x=some (.builtin id))(ha:PA X (e::es) t)(hn:autoParam (x≠"__name__") qQZ)(qp:autoParam ((x==("__debug__": Str))=false) qQZ)(he:autoParam (starEach (e::es) X.env=(false,eval e X.env)::starEach es X.env) qQJ)(dG:autoParam ((backTo pos<|starEach es X.env).any (·.1)=false) qQJ):PE X (.Call (.Name x p) (e::es) [] pos) (Zi r t):=by intro pins s σ H Q I h;refine wpAny_Call_Name_kw<|fG I hg hm hv ?_ hn qp;exact PyProof.Rows.callWith_builtin1 (br (ha pos pins s σ H _ I h) <| by rintro us s1 ⟨vs,H1,I1,r1,q1⟩;exact hc pins s1 σ H1 vs us Q I1 r1 q1) he dG
theorem uZ(hc:eN X (.type T) r)(hg:Gl X x)(hm:X.mg x=none)(hv:bootBuiltins x=some (.type T))(ha:PA X (e::es) t)(hn:autoParam (x≠"__name__") qQZ)(qp:autoParam ((x==("__debug__": Str))=false) qQZ)(he:autoParam (starEach (e::es) X.env=(false,eval e X.env)::starEach es X.env) qQJ)(dG:autoParam ((backTo pos<|starEach es X.env).any (·.1)=false) qQJ):PE X (.Call (.Name x p) (e::es) [] pos) (Zi r t):=by intro pins s σ H Q I h;refine wpAny_Call_Name_kw<|fG I hg hm hv ?_ hn qp;exact PyProof.Rows.callWith_type1 (br (ha pos pins s σ H _ I h) <| by rintro us s1 ⟨vs,H1,I1,r1,q1⟩;exact hc pins s1 σ H1 vs us Q I1 r1 q1) he dG
end
end L2
namespace HT
open PySem PyProof.Rows
section
variable{prog:Program}{w:World}{A:Around}{E:li}{s:Shared}
noncomputable def sIx(n d:Nat):Option Int->Nat|none=>d|some v=>if v<0 then (v+(n:Int)).toNat else min v.toNat n
theorem sIx_none(n d:Nat):sIx n d none=d:=rfl
theorem sIx_nat(n d k:Nat):sIx n d (some (k:Int))=min k n:=by show(if (k:Int)<0 then ((k:Int)+(n:Int)).toNat else min (k:Int).toNat n)=min k n;rw[if_neg<|by lia,Int.toNat_natCast]
theorem sIx_le(n d:Nat)(hd:d<=n)(o:rp):sIx n d o<=n:=by cases o with|none=>exact hd|some v=>show(if v<0 then (v+(n:Int)).toNat else min v.toNat n)<=n;by_cases hv:v<0;rw[if_pos hv];lia;rw[if_neg hv];exact Nat.min_le_right _ _
theorem clip_eq(v:Int)(n d:Nat):(if v<0 then max (v+(n:Int)) 0 else min v (n:Int))=((sIx n d (some v):Nat):Int):=by show(if v<0 then max (v+(n:Int)) 0 else min v (n:Int))=(((if v<0 then (v+(n:Int)).toNat else min v.toNat n):Nat):Int);by_cases hv:v<0;simp only[if_pos hv];lia;simp only[if_neg hv];lia
theorem adjust_gen(lo hi:rp)(n:Nat):Builtin.Slice.sliceAdjust lo hi 1 (n:Int)=(((sIx n 0 lo:Nat):Int),((sIx n n hi:Nat):Int)):=by
 have h1:¬((1:Int)<0):=by lia
 unfold Builtin.Slice.sliceAdjust;simp only[h1,if_false];refine Prod.ext ?_ ?_;cases lo with|none=>rfl|some v=>exact clip_eq v n 0
 cases hi with|none=>rfl|some v=>exact clip_eq v n n
theorem places_gen(i j:Nat):Builtin.Slice.slicePlaces (i:Int) (j:Int) 1=j-i:=by
 unfold Builtin.Slice.slicePlaces;have h1:(1:Int)>0:=by lia
 simp only[h1,if_true,Int.ediv_one];split<;>lia
theorem slicePart_(p:IsPart v o)(h:Q o s):wpAny (model prog w) A (Builtin.Slice.slicePartIndex v) Q E s:=by cases p with|none=>exact slicePart_none h|int i t=>exact slicePart_int h
theorem sliceApplied_gen{sl:Addr}{vl vu:Value}{lo hi:rp}{n:Nat}{Q:Int×Int×Nat->Shared->Prop}(hs:s.heap.IsSliceOf sl vl vu .none)(pl:IsPart vl lo)(pu:IsPart vu hi)(h:Q (((sIx n 0 lo:Nat):Int),1,sIx n n hi-sIx n 0 lo) s):wpAny (model prog w) A (Builtin.Slice.sliceApplied (.ref sl)<|pure (n:Int)) Q E s:=by obtain⟨os,UW,hcs,Tj⟩:=id hs;unfold Builtin.Slice.sliceApplied Builtin.Slice.sliceFields;refine zc<|zc<|yb UW Tj (x:=vl) rfl<|zc<|yb UW Tj (x:=vu) rfl<|zc<|yb UW Tj (x:=.none) rfl<|zo ?_;refine zc<|slicePart_none ?_;show wpAny _ _ (if ((1:Int)==0)=true then _ else _) _ _ s;rw[if_neg<|by decide];refine zc<|slicePart_ pl<|zc<|slicePart_ pu<|zc<|zo ?_;show wpAny _ _ (match Builtin.Slice.sliceAdjust lo hi 1 (n:Int) with|(lo,hi)=>pure (lo,(1:Int),Builtin.Slice.slicePlaces lo hi 1)) _ _ s;rw[adjust_gen lo hi n];show wpAny _ _ (pure (((sIx n 0 lo:Nat):Int),(1:Int),Builtin.Slice.slicePlaces ((sIx n 0 lo:Nat):Int) ((sIx n n hi:Nat):Int) 1)) _ _ s;rw[places_gen];exact zo h
theorem pick_gen(xs:im)(i k:Nat):((List.range k).filterMap λ(m:Nat)=>xs[((i:Int)+(m:Int)*1).toNat]?).toArray=((xs.toList.drop i).take k).toArray:=by
 have e:(λ(m:Nat)=>xs[((i:Int)+(m:Int)*1).toNat]?)=λm=>xs[i+m]?:=by funext m;have:((i:Int)+(m:Int)*1).toNat=i+m:=(by lia);rw[this]
 rw[e];have:=pick_run xs i k;rw[List.filterMap_map]at this;have e2:((λx=>xs[x]?) ∘ λx=>i+x)=λm=>xs[i+m]?:=rfl;rw[e2]at this;rw[this]
theorem getItem_tuple_cut{t sl:Addr}{items:im}{vl vu:Value}{lo hi:rp}{Q:li}(ht:IsTup s.heap t items)(hs:s.heap.IsSliceOf sl vl vu .none)(pl:IsPart vl lo)(pu:IsPart vu hi)(hw:¬(sIx items.size 0 lo=0/\sIx items.size items.size hi=items.size))(h:Q (.ref s.heap.objs.size) {s with heap:=s.heap.push {cls:=.type "tuple",data:=.seq ((items.toList.drop<|sIx items.size 0 lo).take<|sIx items.size items.size hi-sIx items.size 0 lo).toArray}})(hsz:items.size<=sizeLine):wpAny (model prog w) A (getItem (.ref t)<|.ref sl) Q E s:=by
 have Ey:sizeOk (.seq ((items.toList.drop<|sIx items.size 0 lo).take<|sIx items.size items.size hi-sIx items.size 0 lo).toArray):=by show((items.toList.drop<|sIx items.size 0 lo).take<|sIx items.size items.size hi-sIx items.size 0 lo).toArray.size<=sizeLine;rw[zp,yi,List.length_drop,ya];lia
 have hj:sIx items.size items.size hi<=items.size:=sIx_le _ _ (zq _) hi;obtain⟨os,UW,hcs,Tj⟩:=id hs;have hTs:s.TypeIs (.ref sl) "slice":=⟨os,UW,hcs⟩;unfold getItem;try with_reducible refine yJ ?_
 first|refine zc (zo ?_)|skip
 refine zc<|wpAny_sequenceKey ht.typeIs (by decide) ?_;refine zc<|wpAny_callSpecial?_slot (name:=Str.ofString "__getitem__") ht.typeIs PyProof.Rows.slot_tuple_getitem<|yH PyProof.Rows.slot_tuple_getitem ht.typeIs entry_tuple_getitem ?_<|args_tuple_getitem _ _;show wpAny _ _ (Builtin.Tuple.tupleItemsOf (.ref t) >>=_) _ _ s;refine zc<|tupleItemsOf_ ht ?_;refine zc<|wpAny_typeOf hTs ?_;rw[if_pos<|by decide];refine zc<|sliceApplied_gen hs pl pu ?_;have Ma:¬((((sIx items.size 0 lo:Nat):Int)==0&&(1:Int)==1&&(sIx items.size items.size hi-sIx items.size 0 lo)==items.size)=true):=by intro q;rw[zI,zI]at q;have q1:((sIx items.size 0 lo:Nat):Int)=0:=eq_of_beq q.1.1;have q2:sIx items.size items.size hi-sIx items.size 0 lo=items.size:=eq_of_beq q.2;exact hw {by lia,by lia}
 show wpAny _ _ (if (((sIx items.size 0 lo:Nat):Int)==0&&(1:Int)==1&&(sIx items.size items.size hi-sIx items.size 0 lo)==items.size)=true then _ else _) _ _ s;rw[if_neg Ma,pick_gen];first|exact zc (m:=Builtin.Tuple.tupleExact _) (yj (zo !⟨zo h⟩) Ey)|exact zc (m:=Builtin.Tuple.tupleExact _) (yj (zc<|zo<|zo !⟨zo h⟩) Ey)|exact zc (zc (m:=Builtin.Tuple.tupleExact _)<|yj (zo<|zo !⟨zo h⟩) Ey)|exact zc (zc (m:=Builtin.Tuple.tupleExact _)<|yj (zo !⟨zo h⟩) Ey)
end
end HT
namespace L2
open PySem PySem.Spec PyProof.Rows
abbrev TO:=St->Hp->(Option Int->Hp->Prop)->Prop
def PO(X:Cx)(e:sK)(t:TO):Prop:=∀(pins:jp)(s:Shared)(σ:St)(H:Hp)(Q:Option Int->Hp->Prop),Inv X pins σ H s->t σ H Q->wpAny (model X.prog X.w) X.A (evalPart e X.env) (λu s'=>∃o H',Inv X pins σ H' s'/\IsPart u o/\Q o H') X.xe s
def Mb:TO:=λ_ H Q=>Q none H
def UX(t:TE):TO:=λσ H Q=>t σ H λx H1=>∃i,x=.int i/\Q (some i) H1
section
variable{X:Cx}{e:Expr}{te:TE}{lo hi:sK}{tl th:TO}{pos p2:Pos}
theorem Mc:PO X none Mb:=by intro pins s σ H Q I h;rw[evalPart_none];exact zo {none,H,I,.none,h}
theorem Ez(h:PE X e te):PO X (some e) (UX te):=by intro pins s σ H Q I hw;rw[evalPart_some];refine br (h pins s σ H _ I hw) ?_;rintro u s1 ⟨x,H1,I1,r1,q1⟩;obtain⟨i,rfl,q⟩:=q1;obtain⟨t,rfl⟩:=r1;exact{some i,H1,I1,.int i t,q}
def Tp(X:Cx)(r:V->Option Int->Option Int->Hp->VK->Prop):Prop:=∀(pins:jp)(s:Shared)(σ:St)(H:Hp)(x:V)(v vl vu:Value)(lo hi:rp)(sl:Addr)(Q:VK),Inv X pins σ H s->RelV x v->s.heap.IsSliceOf sl vl vu .none->IsPart vl lo->IsPart vu hi->r x lo hi H Q->∃T id,typeLookup (.type T) "__getitem__"= pure (some<|.builtin id)/\s.TypeIs v T/\wpAny (model X.prog X.w) X.A (getItem v<|.ref sl) (EP X pins σ Q) X.xe s
def tSl(r:V->Option Int->Option Int->Hp->VK->Prop)(te:TE)(tl th:TO):TE:=λσ H Q=>te σ H λx H1=>tl σ H1 λl H2=>th σ H2 λu H3=>r x l u H3 Q
theorem y9{r:V->Option Int->Option Int->Hp->VK->Prop}(hr:Tp X r)(he:PE X e te)(hl:PO X lo tl)(hu:PO X hi th):PE X (.Subscript e (.Slice lo hi none p2) pos) (tSl r te tl th):=by intro pins s σ H Q I h;refine Subscript_<|br (he pins s σ H _ I h) ?_;rintro v s1 ⟨x,H1,I1,r1,q1⟩;refine wpAny_Slice<|br (hl pins s1 σ H1 _ I1 q1) λvl s2 ⟨l,H2,I2,pl,q2⟩=>br (hu pins s2 σ H2 _ I2 q2) ?_;rintro vu s3 ⟨u,H3,I3,pu,q3⟩;rw[evalPart_none];refine zo ?_;have I4:Inv X pins σ H3 {s3 with heap:=s3.heap.push {cls:=.type "slice",data:=.fields #[vl,vu,.none]}}:=I3.kept (t':=s3.toks) λb ob q=>za _ q;obtain⟨T,id,hT,ht,hg⟩:=hr pins {s3 with heap:=s3.heap.push {cls:=.type "slice",data:=.fields #[vl,vu,.none]}} σ H3 x v vl vu l u s3.heap.objs.size Q I4 r1 (Heap.IsSliceOf.new ..) pl pu q3;show wpAny (model X.prog X.w) X.A (subscriptTail e (.Slice lo hi none p2) v<|.ref s3.heap.objs.size) (EP X pins σ Q) X.xe {s3 with heap:=s3.heap.push {cls:=.type "slice",data:=.fields #[vl,vu,.none]}};exact tail_any (ops:=[.ref s3.heap.objs.size,v]) ht hT hg<|by with_unfolding_all rfl
noncomputable def y_(xs:dL)(lo hi:rp):dL:=(xs.drop<|HT.sIx xs.length 0 lo).take<|HT.sIx xs.length xs.length hi-HT.sIx xs.length 0 lo
theorem pC(xs:dL)(lo hi:rp):(y_ xs lo hi).length<=xs.length:=by unfold y_;rw[yi,List.length_drop];lia
def Zj(K:Frag):V->Option Int->Option Int->Hp->VK->Prop:=λx lo hi H Q=>∃a xs,x=.ref a/\i4 K H a xs/\¬(HT.sIx xs.length 0 lo=0/\HT.sIx xs.length xs.length hi=xs.length)/\∀p,H p=none->Q (.ref p) (upd H p<|.tup<|y_ xs lo hi)
theorem Qu:Tp X (Zj X.K):=by
 intro pins s σ H x v vl vu lo hi sl Q I rx hs pl pu h;obtain⟨a,xs,rfl,hx,hw,q⟩:=h;cases rx;obtain⟨aw,r,ht,hz⟩:=I.tuple hx;have hlen:aw.toArray.size=xs.length:=by rw[zp];exact r.length.symm
 refine{"tuple",_,PyProof.Rows.slot_tuple_getitem.lookup,ht.typeIs,?_};refine HT.getItem_tuple_cut ht hs pl pu (by rw[hlen];exact hw) ?_ (by rw[hlen];exact hz);rw[hlen];refine{.ref s.heap.objs.size,_,I.laid (t':=s.toks) (o:=.tup<|y_ xs lo hi) (λb ob q=>za _ q) (zq _) ?_,rfl,q _<|I.aN.fresh<|zq _};exact{zJ (pC xs lo hi) hz,_,(r.drop<|HT.sIx xs.length 0 lo).take<|HT.sIx xs.length xs.length hi-HT.sIx xs.length 0 lo,iy.new _ _}
end
noncomputable def IC(n:Nat)(i:Int):Option Nat:=if 0<=i then (if i<n then some i.toNat else none) else if -(n:Int)<=i then some (i+n).toNat else none
noncomputable def gZ{α:Type}(xs:List α)(i:Int):Option α:=(IC xs.length i).bind λj=>xs[j]?
theorem EA(h:IC n i=some j):seqIndex? i n=some j/\j<n/\-(n:Int)<=i/\i<n:=by unfold IC at h;by_cases h0:0<=i;rw[if_pos h0]at h;by_cases h1:i<n;rw[if_pos h1]at h;have e:i.toNat=j:=zS h;exact{by rw[seqIndex_of h0 h1,e],by lia,by lia,h1};rw[if_neg h1]at h;cases h;rw[if_neg h0]at h;by_cases h1:-(n:Int)<=i;rw[if_pos h1]at h;have e:(i+n).toNat=j:=zS h;exact{by rw[seqIndex_neg (by lia) h1,e],by lia,h1,by lia};rw[if_neg h1]at h;cases h
theorem vY(h:gZ xs i=some v):∃j,seqIndex? i xs.length=some j/\xs[j]?=some v/\j<xs.length/\-(xs.length:Int)<=i/\i<xs.length:=by unfold gZ at h;cases e:IC xs.length i with|none=>(rw[e]at h;cases h)|some j=>rw[e]at h;obtain⟨h1,h2,h3,h4⟩:=EA e;exact⟨j,h1,h,h2,h3,h4⟩
theorem bu{α:Type}{xs:List α}{j:Nat}{v:α}(h:xs[j]?=some v):gZ xs (j:Int)=some v:=by
 have hj:j<xs.length:=(zg.mp h).1;have e:IC xs.length (j:Int)=some j:=by unfold IC;rw[if_pos<|by lia,if_pos<|by lia];simp
 unfold gZ;rw[e];exact h
def EB(b:Expr):Prop:=∀o i,subscripted b false o i=operate [o,i] (getItem o i)
def UY(X:Cx)(r:R2):Prop:=∀(value slice:Expr)(pins:jp)(s:Shared)(σ:St)(H:Hp)(x y:V)(v u:Value)(Q:VK),Inv X pins σ H s->RelV x v->RelV y u->r x y H Q->subscripted slice false v u=operate [v,u] (getItem v u)->wpAny (model X.prog X.w) X.A (subscriptTail value slice v u) (EP X pins σ Q) X.xe s
def Tq(X:Cx)(id:String)(r:V->List V->Hp->VK->Prop):Prop:=∀(pins:jp)(s:Shared)(σ:St)(H:Hp)(x:V)(xs:dL)(v:Value)(us:fv)(Q:VK),Inv X pins σ H s->RelV x v->Vals xs us->r x xs H Q->wpAny (model X.prog X.w) X.A (call (.builtin id)<|v::us) (EP X pins σ Q) X.xe s
section
variable{X:Cx}{a b:Expr}{ta tb:TE}{pos:Pos}
theorem UZ(hr:UY X r)(ha:PE X a ta)(hb:PE X b tb)(hs:EB b):PE X (.Subscript a b pos) (Tf r ta tb):=by intro pins s σ H Q I h;exact Subscript_<|Qe ha hb I h λv u s2 x y H2 I2 rx ry q=>hr a b pins s2 σ H2 x y v u Q I2 rx ry q<|hs _ _
def Zk(K:Frag):R2:=λx y H Q=>∃p xs i v,x=.ref p/\y=.int i/\jq K H p xs/\gZ xs i=some v/\Q v H
def Zl(K:Frag):R2:=λx y H Q=>∃p xs i v,x=.ref p/\y=.int i/\i4 K H p xs/\gZ xs i=some v/\Q v H
def Zm:R2:=λx y H Q=>∃z i c,x=.str z/\y=.int i/\z.length<=sizeLine/\gZ z.cps.toList i=some c/\Q (.str ⟨#[c]⟩) H
theorem EC:UY X (Zk X.K):=by
 intro value slice pins s σ H x y v u Q I rx ry h hs;obtain⟨p,xs,i,z,rfl,rfl,hq,he,q⟩:=h;cases rx;obtain⟨t,rfl⟩:=ry;obtain⟨aw,r,pl,hz⟩:=I.list hq;obtain⟨j,h1,h2,h3,h4,h5⟩:=vY he;obtain⟨w,ew,qk⟩:=r.get h2;have hl:=r.length;have hn:=rF;have fin:EP X pins σ Q w s:=⟨z,H,I,qk,q⟩;by_cases h0:0<=i;have hj:i.toNat=j:=by rw[seqIndex_of h0 h5]at h1;exact zS h1
 exact item_listR pl.isList h0 (by lia) (by rw[hj];simpa using ew) fin hs;have hj:(i+(aw.toArray.size:Int)).toNat=j:=by rw[seqIndex_neg (by lia) h4]at h1;rw[zp,<-hl];exact zS h1
 exact subscriptTail_builtinR (x:=w) pl.isList.typeIs slot_list_getitem.lookup (wpAny_getItem_list_neg (Q:=λr s'=>r=w/\EP X pins σ Q r s') pl.isList (by lia) (by rw[zp]<;>lia) (by lia) (by rw[hj];simpa using ew) ⟨rfl,fin⟩) hs
theorem ID:UY X (Zl X.K):=by intro value slice pins s σ H x y v u Q I rx ry h hs;obtain⟨p,xs,i,z,rfl,rfl,hq,he,q⟩:=h;cases rx;obtain⟨t,rfl⟩:=ry;obtain⟨aw,r,pl,hz⟩:=I.tuple hq;obtain⟨j,h1,h2,h3,h4,h5⟩:=vY he;obtain⟨w,ew,qk⟩:=r.get h2;have hl:=r.length;have hn:=rF;have fin:EP X pins σ Q w s:=⟨z,H,I,qk,q⟩;exact subscriptTail_builtinR (x:=w) pl.typeIs slot_tuple_getitem.lookup (getItem_tuple (j:=j) (Q:=λr s'=>r=w/\EP X pins σ Q r s') pl (by lia) (by lia) (by rw[zp,<-hl];exact h1) (by simpa using ew) ⟨rfl,fin⟩) hs
theorem Qv:UY X Zm:=by
 intro value slice pins s σ H x y v u Q I rx ry h hs;obtain⟨z,i,c,rfl,rfl,hz,he,q⟩:=h;obtain⟨t,rfl⟩:=rx;obtain⟨t',rfl⟩:=ry;obtain⟨j,h1,h2,h3,h4,h5⟩:=vY he;have hl:z.cps.toList.length=z.length:=by simp[Str.length]
 rw[hl]at h1 h4 h5;have hn:=rF;exact tail_any (typeIs_str s z t) slot_str_getitem.lookup (getItem_str (c:=c) (by have e1:decide (i < -(2^63:Int))=false:=zA (by lia);have e2:decide (i>=2^63)=false:=zA (by lia);rw[e1,e2,Bool.or_false]) (by rw[h1];simpa using h2) {.str ⟨#[c]⟩,H,I.tok _,{_,rfl},q}) hs
theorem Cd(aw:fv)(n j:Nat)(u:Value):Obj.mapSeq (·.setIfInBounds j u) {cls:=.type "list",data:=.seq aw.toArray n}={cls:=.type "list",data:=.seq (aw.set j u).toArray n}:=by simp[Obj.mapSeq]
theorem Inv.lst(I:Inv X pins σ H s)(h:H p=some (.lst xs)): ∃(aw:fv)(n:Nat),Vals xs aw/\s.heap.get? p=some {cls:=.type "list",data:=.seq aw.toArray n}/\xs.length<=sizeLine:=by obtain⟨z,aw,n,r,e⟩:=I.aN p _ h;exact⟨aw,n,r,e,z⟩
theorem Inv.Qw{pins:jp}{σ:St}{H:Hp}{s:Shared}{p:Addr}{xs ys:dL}{aw its':fv}{n n':Nat}{f:Obj->Obj}(I:Inv X pins σ H s)(h:H p=some (.lst xs))(ho:s.heap.get? p=some {cls:=.type "list",data:=.seq aw.toArray n})(hf:f {cls:=.type "list",data:=.seq aw.toArray n}={cls:=.type "list",data:=.seq its'.toArray n'})(r:Vals ys its')(hz:ys.length<=sizeLine)(t:Nat): Inv X pins σ (upd H p<|.lst ys) {s with heap:=s.heap.update p f,toks:=t}:=by
 have e:(s.heap.update p f).get? p=some {cls:=.type "list",data:=.seq its'.toArray n'}:=by rw[yA f ho<|by rw[hf]<;>rfl,hf]
 refine I.write (x:=p) (e:=p) (by rw[h];trivial) (.inl rfl) (λb u hb q=>(yw _ _<|Ne.symm hb).trans q) {_,e} ?_;exact⟨hz,its',n',r,e⟩
def U0:V->V->V->Hp->(Hp->Prop)->Prop:=λo i v H Q=>∃p xs k j,o=.ref p/\i=.int k/\H p=some (.lst xs)/\IC xs.length k=some j/\Q (upd H p<|.lst<|xs.set j v)
theorem set_list:UA X U0:=by
 intro pins s σ H o i v ov iv u Q I ro ri rv h;obtain⟨p,xs,k,j,rfl,rfl,hp,hj,q⟩:=h;cases ro;obtain⟨t,rfl⟩:=ri;obtain⟨aw,n,r,ho,hz⟩:=I.lst hp;obtain⟨h1,h2,h3,h4⟩:=EA hj;have hl:=r.length;have hn:=rF;have I':Inv X pins σ (upd H p<|.lst<|xs.set j v) {s with heap:=s.heap.update p (Obj.mapSeq (·.setIfInBounds j u))}:=I.Qw hp ho (Cd aw n j u) (r.set rv j) (by rw[List.length_set];exact hz) s.toks;by_cases h0:0<=k;have hk:k.toNat=j:=by rw[seqIndex_of h0 h4]at h1;exact zS h1
 exact PySem.W.ki_setAt ho h0 (by lia) (by rw[zp,<-hl];exact h4) (by rw[hk];exact{_,I',q});have hk:(k+(aw.toArray.size:Int)).toNat=j:=by rw[seqIndex_neg (by lia) h3]at h1;rw[zp,<-hl];exact zS h1
 exact PySem.W.ki_setBack ho (by lia) (by rw[zp,<-hl];exact h3) (by lia)<|by rw[hk];exact{_,I',q}
theorem vZ(lo hi:rp)(n:Nat):(sliceBounds lo hi none n).1=((HT.sIx n 0 lo:Nat):Int)/\(sliceBounds lo hi none n).2.1=((HT.sIx n n hi:Nat):Int)/\(sliceBounds lo hi none n).2.2=1:=by
 refine{?_,?_,rfl};cases lo with|none=>simp[sliceBounds,HT.sIx]|some i=>simp only[sliceBounds,HT.sIx,Option.getD_none,show(1:Int)>0 by decide,if_true];by_cases h:i<0;simp only[h,if_true]<;>lia;simp only[h,if_false]<;>lia
 cases hi with|none=>simp[sliceBounds,HT.sIx]|some i=>simp only[sliceBounds,HT.sIx,Option.getD_none,show(1:Int)>0 by decide,if_true];by_cases h:i<0;simp only[h,if_true]<;>lia;simp only[h,if_false]<;>lia
theorem uh(aw:fv)(lo hi:rp):slicePick aw.toArray lo hi none=((aw.drop<|HT.sIx aw.length 0 lo).take<|HT.sIx aw.length aw.length hi-HT.sIx aw.length 0 lo).toArray:=by obtain⟨h1,h2,h3⟩:=vZ lo hi aw.toArray.size;unfold slicePick;rw[h1,h2,h3];simp only[sliceRange_one,pick_run,zp]<;>rfl
def Zn(K:Frag):V->Option Int->Option Int->Hp->VK->Prop:=λx lo hi H Q=>∃a xs,x=.ref a/\jq K H a xs/\∀p,H p=none->Q (.ref p) (upd H p<|.lst<|y_ xs lo hi)
theorem qP:Tp X (Zn X.K):=by intro pins s σ H x v vl vu lo hi sl Q I rx hs pl pu h;obtain⟨a,xs,rfl,hx,q⟩:=h;cases rx;obtain⟨aw,r,ht,hz⟩:=I.list hx;have hlen:=r.length;refine{"list",_,slot_list_getitem.lookup,ht.isList.typeIs,?_};refine wpAny_getItem_list_slice ht.isList hs pl pu .none (by simp) ?_ (by rw[zp]<;>lia);rw[uh,<-hlen];refine{.ref s.heap.objs.size,_,I.laid (t':=s.toks) (o:=.lst<|y_ xs lo hi) (λb ob q=>za _ q) (zq _) ?_,rfl,q _<|I.aN.fresh<|zq _};exact{zJ (pC xs lo hi) hz,_,0,(r.drop<|HT.sIx xs.length 0 lo).take<|HT.sIx xs.length xs.length hi-HT.sIx xs.length 0 lo,zm _ rfl}
noncomputable def g6:V->Bool|.av=>true|.bl _=>true|.int _=>true|.str _=>true|_=>false
noncomputable def eqV:V->V->Bool|.av,.av=>true|.bl a,.bl b=>a==b|.bl a,.int b=>((if a then 1 else 0)==b)|.int a,.bl b=>(a==(if b then 1 else 0))|.int a,.int b=>a==b|.str a,.str b=>a==b|_,_=>false
theorem Qx(ry:RelV y u)(rx:RelV x v)(fy:g6 y=true)(fx:g6 x=true):SeqAt.EqAt A s u v (eqV y x):=by cases y with|av=>(cases ry;cases x with|av=>(cases rx;exact SeqAt.EqAt.same _)|bl b=>(cases rx;exact SeqAt.EqAt.none_bool b)|int b=>(obtain⟨t,rfl⟩:=rx;exact SeqAt.EqAt.none_int b t)|str b=>(obtain⟨t,rfl⟩:=rx;exact SeqAt.EqAt.none_str b t)|_=>exact absurd (show false=true from fx) zd)|bl a=>(cases ry;cases x with|av=>(cases rx;exact SeqAt.EqAt.bool_none a)|bl b=>(cases rx;exact SeqAt.EqAt.bool_bool a b)|int b=>(obtain⟨t,rfl⟩:=rx;exact SeqAt.EqAt.bool_int a b t)|str b=>(obtain⟨t,rfl⟩:=rx;exact SeqAt.EqAt.bool_str a b t)|_=>exact absurd (show false=true from fx) zd)|int a=>(obtain⟨t',rfl⟩:=ry;cases x with|av=>(cases rx;exact SeqAt.EqAt.int_none a t')|bl b=>(cases rx;exact SeqAt.EqAt.int_bool a t' b)|int b=>(obtain⟨t,rfl⟩:=rx;exact SeqAt.EqAt.int_int a t' b t)|str b=>(obtain⟨t,rfl⟩:=rx;exact SeqAt.EqAt.int_str a t' b t)|_=>exact absurd (show false=true from fx) zd)|str a=>(obtain⟨t',rfl⟩:=ry;cases x with|av=>(cases rx;exact SeqAt.EqAt.str_none a t')|bl b=>(cases rx;exact SeqAt.EqAt.str_bool a t' b)|int b=>(obtain⟨t,rfl⟩:=rx;exact SeqAt.EqAt.str_int a t' b t)|str b=>(obtain⟨t,rfl⟩:=rx;exact SeqAt.EqAt.str_str a t' b t)|_=>exact absurd (show false=true from fx) zd)|_=>exact absurd (show false=true from fy) zd
noncomputable def IE(x:V)(u:Value):Bool:=match u with|.none=>eqV .av x|.bool b=>eqV (.bl b) x|.int i _=>eqV (.int i) x|.str z _=>eqV (.str z) x|_=>false
theorem Cf(r:RelV y u)(f:g6 y=true):IE x u=eqV y x:=by cases y with|av=>(cases r;rfl)|bl b=>(cases r;rfl)|int i=>(obtain⟨t,rfl⟩:=r;rfl)|str z=>(obtain⟨t,rfl⟩:=r;rfl)|_=>exact absurd (show false=true from f) zd
theorem v5:∀{xs:dL}{us:fv},Vals xs us->xs.all g6=true->us.any (IE x)=xs.any λy=>eqV y x|_,_,.nil,_=>rfl|y::xs,u::us,.cons r t,f=>by rw[List.all_cons,zI]at f;rw[yT,yT,Cf r f.1,v5 t f.2]
theorem mD(rx:RelV x v)(fx:g6 x=true):∀{xs:dL}{us:fv},Vals xs us->xs.all g6=true->∀u∈us,SeqAt.EqAt A s u v (IE x u)|_,_,.nil,_=>(λu hu=>by cases hu)|y::xs,u::us,.cons r t,f=>λu' hu=>by rw[List.all_cons,zI]at f;rcases zk.mp hu with rfl|hu;rw[Cf r f.1];exact Qx r rx f.1 fx;exact mD rx fx t f.2 u' hu
noncomputable def Ci(x:V)(xs:dL):Bool:=xs.any λy=>eqV y x
def rIn(K:Frag)(neg:Bool):R2:=λx y H Q=>∃p xs,y=.ref p/\(jq K H p xs\/i4 K H p xs)/\g6 x=true/\xs.all g6=true/\Q (.bl<|if neg then !Ci x xs else Ci x xs) H
theorem n_:iB X (compareOp .In) (rIn X.K false):=by intro pins s σ H x y v u Q I rx ry h;obtain⟨p,xs,rfl,hq,fx,fs,q⟩:=h;cases ry;rcases hq with hq|hq;obtain⟨aw,r,pl,hz⟩:=I.list hq;refine SeqAt.in_listAt (IE x) pl.isList (λw hw=>mD rx fx r fs w<|by simpa using hw) {.bl _,H,I,rfl,?_};rw[show aw.toArray.any (IE x)=aw.any (IE x) by simp,v5 r fs];exact q;obtain⟨aw,r,pl,hz⟩:=I.tuple hq;refine SeqAt.in_tupleAt (IE x) pl (λw hw=>mD rx fx r fs w<|by simpa using hw) {.bl _,H,I,rfl,?_};rw[show aw.toArray.any (IE x)=aw.any (IE x) by simp,v5 r fs];exact q
theorem kX:eN X (.type "tuple") (λxs H Q=>∃p ys,xs=[.ref p]/\((jq X.K H p ys/\∀l,H l=none->Q (.ref l) (upd H l<|.tup ys))\/(i4 X.K H p ys/\Q (.ref p) H))):=by intro pins s σ H xs us Q I r h;obtain⟨p,ys,rfl,h⟩:=h;obtain⟨u,rfl,rx⟩:=vals1 r;cases rx;rcases h with⟨hq,q⟩|⟨hq,q⟩;obtain⟨aw,r',pl,hz⟩:=I.list hq;have hlen:=r'.length;refine call_tuple_list pl.isList (λh' kp=>?_) (by simp only[zp]<;>lia);have I1:Inv X pins σ H {s with heap:=h'}:=I.kept (t':=s.toks) kp;have I2:Inv X pins σ (upd H h'.objs.size<|.tup ys) {s with heap:=h'.push {cls:=.type "tuple",data:=.seq aw.toArray}}:=I1.laid (t':=s.toks) (λb o e=>za _ e) (zq _)<|show bt X.prog X.w _ _ _ (.tup ys) from{hz,aw,r',iy.new _ _};exact{.ref h'.objs.size,_,I2,rfl,q _<|I1.aN.fresh<|zq _};obtain⟨aw,r',pl,hz⟩:=I.tuple hq;exact call_tuple_same pl {.ref p,H,I,rfl,q}
def XY(K:Frag)(T:String)(x:V)(H:Hp):Prop:=match x with|.str _=>T ="str"|.int _=>T ="int"|.ref p=>(T ="list"/\∃xs,jq K H p xs)\/(T ="tuple"/\∃o,K.lookup p=some o/\o.cls=.type "tuple"/\o.dict=none)\/(T ="dict"/\((∃kvs,H p=some (.dK kvs))\/∃kvs,H p=some (.dT kvs)))\/(T ="set"/\∃S n,H p=some (.set S n))|_=>False
theorem IF{T:String}(I:Inv X pins σ H s)(r:RelV x v)(ty:XY X.K T x H): s.TypeIs v T/\∀a,v=.ref a->∃ob,s.heap.get? a=some ob/\ob.dict=none:=by cases x with|str z=>(obtain⟨t,rfl⟩:=r;cases (show T ="str" from ty);exact{typeIs_str s z t,λ_ e=>nomatch e})|int i=>(obtain⟨t,rfl⟩:=r;cases (show T ="int" from ty);exact{typeIs_int s i t,λ_ e=>nomatch e})|ref p=>(cases r;rcases ty with⟨rfl,xs,hq⟩|⟨rfl,o,hk,hc,hd⟩|⟨rfl,hk⟩|⟨rfl,S,n,hk⟩;obtain⟨aw,_,pl,_⟩:=I.list hq;refine{pl.isList.typeIs,λa e=>?_};cases e;obtain⟨o,n,e,c,hd,_⟩:=pl;exact⟨o,e,hd⟩;refine{{o,I.pj p o hk,hc},λa e=>?_};cases e;exact{o,I.pj _ o hk,hd};have z:∃o,s.heap.get? p=some o/\o.ExactDict:=(by rcases hk with⟨kvs,hk⟩|⟨kvs,hk⟩;obtain⟨_,_,_,_,o,_,_,e,ex,_⟩:=I.aN p _ hk;exact⟨o,e,ex⟩;exact False.elim<|I.aN p _ hk);obtain⟨o,e,ex⟩:=z;refine{⟨o,e,ex.1⟩,λa e2=>?_};cases e2;exact⟨o,e,ex.2.1⟩;obtain⟨o,_,_,_,e,ex,_⟩:=I.aN p _ hk;refine{⟨o,e,ex.1⟩,λa e2=>?_};cases e2;exact⟨o,e,ex.2.1⟩)|_=>exact False.elim ty
def Zo(K:Frag)(T:String)(r:V->List V->Hp->VK->Prop)(to:TE):TE:=λσ H Q=>to σ H λx H1=>XY K T x H1/\r x [] H1 Q
def tBM(K:Frag)(T:String)(r:V->List V->Hp->VK->Prop)(to:TE)(t:TA):TE:=λσ H Q=>to σ H λx H1=>XY K T x H1/\t σ H1 λxs H2=>r x xs H2 Q
variable{o e:Expr}{es:mt}{to:TE}{t:TA}{name:Str}{apos aQ:Pos}{T id:String}{r:V->List V->Hp->VK->Prop}
theorem Qy(pa:PlainAttrs T)(slot:Slot T name id)(Qz:typeOf (.builtin id)=pure (.type "method_descriptor"))(hm:Tq X id r)(ho:PE X o to)(mE:autoParam (attributeBase o name X.env (eval o X.env)=eval o X.env) qQJ)(rH:autoParam ((apos.endLine==aQ.line)=true) qQJ):PE X (.Call (.Attribute o name apos) [] [] aQ) (Zo X.K T r to):=by intro pins s σ H Q I h;refine wpAny_Call_method0_late mE rH<|br (ho pins s σ H _ I h) ?_;rintro v s1 ⟨x,H1,I1,r1,ty,q1⟩;obtain⟨h1,h2⟩:=IF I1 r1 ty;exact{T,id,pa,slot,Qz,h1,h2,Calls.callWith_builtin rfl<|PySem.evalArgs_none<|hm pins s1 σ H1 x [] v [] Q I1 r1 .nil q1}
theorem U1(pa:PlainAttrs T)(slot:Slot T name id)(Qz:typeOf (.builtin id)=pure (.type "method_descriptor"))(hm:Tq X id r)(ho:PE X o to)(ha:PA X (e::es) t)(mE:autoParam (attributeBase o name X.env (eval o X.env)=eval o X.env) qQJ)(QA:autoParam (((backTo aQ<|starEach (e::es) X.env).all (λx=>!x.1)&&(backToKw aQ<|keywordEach [] X.env).all (λx=>x.1.isSome)&&decide ((e::es).length+([]:tt).length+(if ([]:tt).isEmpty then 0 else 1)<30))=true) qQJ)(rH:autoParam ((apos.endLine==aQ.line)=true) qQJ)(hs:autoParam (starEach (e::es) X.env=(false,eval e X.env)::starEach es X.env) qQJ)(Cj:autoParam ((backTo aQ<|starEach es X.env).any (·.1)=false) qQJ): PE X (.Call (.Attribute o name apos) (e::es) [] aQ) (tBM X.K T r to t):=by intro pins s σ H Q I h;refine wpAny_Call_method_late mE QA rH rfl<|br (ho pins s σ H _ I h) ?_;rintro v s1 ⟨x,H1,I1,r1,ty,q1⟩;obtain⟨h1,h2⟩:=IF I1 r1 ty;refine{T,id,pa,slot,Qz,h1,h2,?_};have hA:=ha aQ pins s1 σ H1 _ I1 q1;rw[hs]at hA⊢;refine Calls.callWith_builtin (by show(false||(backTo aQ<|starEach es X.env).any (·.1))=false;rw[Cj]<;>rfl)<|Calls.evalArgs_plain ?_;exact br hA <| by rintro us s2 ⟨vs,H2,I2,r2,q2⟩;exact hm pins s2 σ H2 x vs v us Q I2 r1 r2 q2
end
def XZ(X:Cx)(id:String)(r:V->List V->Hp->VK->Prop):Prop:=∀(pins:jp)(s:Shared)(σ:St)(H:Hp)(x:V)(xs:dL)(v:Value)(us:fv)(Q:VK),Inv X pins σ H s->RelV x v->Vals xs us->r x xs H Q->wpAny (model X.prog X.w) X.A (call (.builtin id)<|v::us) (EP X pins σ Q) X.xe s
theorem Vals.one:∀{x:V}{us:fv},Vals [x] us->∃u,us=[u]/\RelV x u:=by intro x us h;cases h with|cons r t=>cases t;exact{_,rfl,r}
theorem Vals.two:∀{x y:V}{us:fv},Vals [x,y] us->∃u v,us=[u,v]/\RelV x u/\RelV y v:=by intro x y us h;cases h with|cons r t=>obtain⟨_,rfl,q⟩:=Vals.one t;exact{_,_,rfl,r,q}
theorem Vals.zero:∀{us:fv},Vals [] us->us=[]|_,.nil=>rfl
theorem Vals.dropLast{xs:dL}{us:fv}(h:Vals xs us):Vals xs.dropLast us.dropLast:=by induction h with|nil=>exact .nil|cons r t ih=>cases t with|nil=>exact .nil|cons q t'=>exact .cons r ih
theorem Vals.eraseIdx:∀{xs:dL}{us:fv}(i:Nat),Vals xs us->Vals (xs.eraseIdx i) (us.eraseIdx i)|_,_,_,.nil=>.nil|_,_,0,.cons _ t=>t|_,_,i+1,.cons r t=>.cons r<|Vals.eraseIdx i t
theorem Vals.reverse{xs:dL}{us:fv}(h:Vals xs us):Vals xs.reverse us.reverse:=by induction h with|nil=>exact .nil|cons r t ih=>rw[List.reverse_cons,List.reverse_cons];exact Vals.append ih<|.cons r .nil
theorem Ck{α:Type}(l:List α):l.eraseIdx (l.length-1)=l.dropLast:=by induction l with|nil=>rfl|cons a r ih=>cases r with|nil=>rfl|cons b r=>have e:(a::b::r).length-1=((b::r).length-1)+1:=(by have h1:(a::b::r).length=r.length+2:=rfl;have h2:(b::r).length=r.length+1:=rfl;lia);rw[e,List.eraseIdx_cons_succ,ih];all_goals rfl
theorem u0{α:Type} : ∀(l:List α)(i:Nat),(l.eraseIdx i).length<=l.length|[],_=>zq _|_::_,0=>yM _|_::r,i+1=>Nat.succ_le_succ<|u0 r i
section
variable{X:Cx}{pins:jp}{σ:St}{H:Hp}{s:Shared}{l:Addr}{xs ys:dL}
theorem Inv.Md{aw its':fv}{n:Nat}{f:Array Value->Array Value}{t':Nat}(I:Inv X pins σ H s)(hH:H l=some (.lst xs))(e:s.heap.get? l=some {cls:=.type "list",data:=.seq aw.toArray n})(hf:f aw.toArray=its'.toArray)(hv:Vals ys its')(hz:ys.length<=sizeLine): Inv X pins σ (upd H l<|.lst ys) {s with heap:=s.heap.update l<|Obj.mapSeq f,toks:=t'}:=by have q:=PySem.IsL.update e f;rw[hf]at q;refine I.write (x:=l) (e:=l) (by rw[hH];exact trivial) (.inl rfl) (λb' u hb hu=>(yw s.heap (Obj.mapSeq f)<|Ne.symm hb).trans hu) {_,q} ?_;exact{hz,its',_,hv,q}
theorem Inv.Zp(I:Inv X pins σ H s)(hv:Vals ys aw)(hz:ys.length<=sizeLine): Inv X pins σ (upd H s.heap.objs.size<|.lst ys) {s with heap:=s.heap.push {cls:=.type "list",data:=.seq aw.toArray},toks:=t'}:=I.laid (λ_ _ q=>za _ q) (zq _) {hz,aw,0,hv,zm _ rfl}
theorem Inv.fresh(I:Inv X pins σ H s):H s.heap.objs.size=none:=I.aN.fresh<|zq _
theorem Inv.Gk(I:Inv X pins σ H s)(hH:H l=some (.lst xs)):xs.length<=sizeLine/\∃(aw:fv)(n:Nat),Vals xs aw/\xs.length=aw.length/\s.heap.get? l=some {cls:=.type "list",data:=.seq aw.toArray n}:=by obtain⟨z,aw,n,r,e⟩:=I.aN l _ hH;exact⟨z,aw,n,r,r.length,e⟩
theorem IG{n:Nat}(h:n<=sizeLine):Builtin.List.listTooLong n=false:=by unfold Builtin.List.listTooLong;exact zA<|by lia
end
section
variable{X:Cx}
def Me:V->List V->Hp->VK->Prop:=λx vs H Q=>∃l xs y,x=.ref l/\vs=[y]/\H l=some (.lst xs)/\xs.length<sizeLine/\Q .av (upd H l<|.lst<|xs++[y])
theorem Gm:XZ X "list.append" Me:=by intro pins s σ H x vs v us Q I rx rv h;obtain⟨l,xs,y,rfl,rfl,hH,hz,q⟩:=h;cases rx;obtain⟨u,rfl,ru⟩:=rv.one;obtain⟨z,aw,n,r,hl,e⟩:=I.Gk hH;refine call_meets F.slot_list_append {_,e,rfl} F.entry_list_append (F.args_list_append_2 _ _) (PySem.list_append l aw.toArray n u<|by rw[zp];lia) {e,?_};refine{.av,_,I.Md (its':=aw++[u]) hH e (by simp) (r.append<|.cons ru .nil) ?_,rfl,q};rw[zE,List.length_singleton];lia
def Zr:V->List V->Hp->VK->Prop:=λx vs H Q=>∃l xs y,x=.ref l/\vs=[]/\H l=some (.lst xs)/\xs[xs.length-1]?=some y/\Q y (upd H l<|.lst xs.dropLast)
theorem QB:XZ X "list.pop" Zr:=by
 intro pins s σ H x vs v us Q I rx rv h;obtain⟨l,xs,y,rfl,rfl,hH,hy,q⟩:=h;cases rx;have hus:=rv.zero;subst hus;obtain⟨z,aw,n,r,hl,e⟩:=I.Gk hH;obtain⟨u,hu,ru⟩:=r.get hy;have U4:aw.toArray[aw.toArray.size-1]?=some u:=by show aw.toArray[aw.length-1]?=some u;rw[<-Array.getElem?_toList,<-hl];exact hu
 refine call_meets F.slot_list_pop {_,e,rfl} F.entry_list_pop (F.args_list_pop_1 _) (MeetsSeq.list_pop_last l aw.toArray n u U4<|by rw[zp];lia) {e,?_};refine{y,_,I.Md (its':=aw.dropLast) hH e ?_ r.dropLast ?_,ru,q};show aw.toArray.eraseIdxIfInBounds (aw.toArray.size-1)=aw.dropLast.toArray;rw[zp,List.eraseIdxIfInBounds_toArray,Ck];rw[List.length_dropLast];lia
def QC:V->List V->Hp->VK->Prop:=λx vs H Q=>∃l xs i k y,x=.ref l/\vs=[.int i]/\H l=some (.lst xs)/\-(2^63)<=i/\i<2^63/\seqIndex? i xs.length=some k/\xs[k]?=some y/\Q y (upd H l<|.lst<|xs.eraseIdx k)
theorem IH:XZ X "list.pop" QC:=by intro pins s σ H x vs v us Q I rx rv h;obtain⟨l,xs,i,k,y,rfl,rfl,hH,h1,h2,hk,hy,q⟩:=h;cases rx;obtain⟨u,rfl,ru⟩:=rv.one;obtain⟨t,rfl⟩:=ru;obtain⟨z,aw,n,r,hl,e⟩:=I.Gk hH;obtain⟨w,hw,qk⟩:=r.get hy;refine call_meets F.slot_list_pop {_,e,rfl} F.entry_list_pop (F.args_list_pop_2 _ _) (MeetsSeq.list_pop_at l aw.toArray n i t k w (fitsIndex_both h1 h2) (by rw[zp,<-hl];exact hk) (by rw[<-Array.getElem?_toList];exact hw)<|by rw[zp];lia) {e,?_};refine{y,_,I.Md (its':=aw.eraseIdx k) hH e ?_ (r.eraseIdx k) ?_,qk,q};show aw.toArray.eraseIdxIfInBounds k=(aw.eraseIdx k).toArray;rw[List.eraseIdxIfInBounds_toArray];have:=u0 xs k;lia
def Zs:R2:=λx y H Q=>∃l b xs zs,x=.ref l/\y=.ref b/\H l=some (.lst xs)/\H b=some (.lst zs)/\xs.length+zs.length<=sizeLine/\∀p,H p=none->Q (.ref p) (upd H p<|.lst<|xs++zs)
theorem QD:iB X (binaryOp .Add) Zs:=by
 intro pins s σ H x y v u Q I rx ry h;obtain⟨l,b,xs,zs,rfl,rfl,hH,hB,hz,q⟩:=h;cases rx;cases ry;obtain⟨z,aw,n,r,hl,e⟩:=I.Gk hH;obtain⟨z2,v7,n2,r2,II,e2⟩:=I.Gk hB;refine PySem.P.add_list e e2 ?_ (by rw[zp,zp];lia);have ea:aw.toArray++v7.toArray=(aw++v7).toArray:=by simp
 rw[ea];exact{.ref _,_,I.Zp (t':=s.toks) (r.append r2)<|by rw[zE];lia,rfl,q _ I.fresh}
end
section
variable{κ:Type}[DecidableEq κ]
noncomputable def gv(kvs:List<|κ×V)(k:κ):Option V:=(kvs.find? λkv=>decide<|kv.1=k).map (·.2)
noncomputable def putK(kvs:List<|κ×V)(k:κ)(v:V):List (κ×V):=if (kvs.any λkv=>decide<|kv.1=k)=true then kvs.map (λkv=>if kv.1=k then (kv.1,v) else kv) else kvs++[(k,v)]
noncomputable def pE(kvs:List<|κ×V)(k:κ):List (κ×V):=kvs.filter λkv=>decide<|kv.1≠k
theorem rJ{p:κ×V}{r:List<|κ×V}{k:κ}(e:p.1=k):gv (p::r) k=some p.2:=by simp[gv,yc,e]
theorem rK{p:κ×V}{r:List<|κ×V}{k:κ}(e:¬p.1=k):gv (p::r) k=gv r k:=by simp[gv,yc,e]
theorem pF(kvs:List<|κ×V)(k:κ)(v:V):(putK kvs k v).length<=kvs.length+1:=by unfold putK;split;rw[zb];lia;rw[zE,zQ,List.length_nil];lia
theorem gq.oa(r:gq o u):o.isSome=u.isSome:=by cases o with|none=>(cases u with|none=>rfl|some _=>exact(show False from r).elim)|some _=>cases u with|none=>exact(show False from r).elim|some _=>rfl
theorem gq.getD{o:Option V}{u:Option Value}{d:V}{d':Value}(r:gq o u)(rd:RelV d d'):RelV (o.getD d) (u.getD d'):=by cases o with|none=>(cases u with|none=>exact rd|some _=>exact(show False from r).elim)|some _=>cases u with|none=>exact(show False from r).elim|some _=>exact r
theorem KV.val{kvs:List<|κ×V}{vs:List<|κ×Value}(r:KV kvs vs)(k:κ):gq (gv kvs k) (valueAt vs k):=by unfold KV at r;induction r with|nil=>exact True.intro|@cons p q ps qs h t ih=>obtain⟨h1,h2⟩:=h;by_cases e:p.1=k;have e':q.1=k:=h1.symm.trans e;have b:valueAt (q::qs) k=some q.2:=(by simp[valueAt,yc,e']);rw[rJ e,b];exact h2;have e':¬q.1=k:=λz=>e<|h1.trans z;have b:valueAt (q::qs) k=valueAt qs k:=(by simp[valueAt,yc,e']);rw[rK e,b];exact ih
theorem KV.any{kvs:List<|κ×V}{vs:List<|κ×Value}(r:KV kvs vs)(k:κ):(kvs.any λkv=>decide<|kv.1=k)=vs.any λkv=>decide (kv.1=k):=by unfold KV at r;induction r with|nil=>rfl|cons h t ih=>rw[yT,yT,ih,h.1]
theorem KV.QE(r:KV kvs vs)(k:κ)(ry:RelV y u): KV (kvs.map λkv=>if kv.1=k then (kv.1,y) else kv) (vs.map λkv=>if kv.1=k then (kv.1,u) else kv):=by unfold KV at r⊢;induction r with|nil=>exact .nil|@cons p q ps qs h t ih=>rw[zx,zx];refine .cons ?_ ih;obtain⟨h1,h2⟩:=h;by_cases e:p.1=k;rw[if_pos e,if_pos<|h1.symm.trans e];exact⟨h1,ry⟩;rw[if_neg e,if_neg λz=>e<|h1.trans z];exact⟨h1,h2⟩
theorem KV.put(r:KV kvs vs)(k:κ)(ry:RelV y u):KV (putK kvs k y) (stored vs k u):=by unfold putK stored;rw[r.any k];by_cases e:(vs.any λkv=>decide<|kv.1=k)=true;rw[if_pos e,if_pos e];exact r.QE k ry;rw[if_neg e,if_neg e];exact Paired.snoc r ⟨rfl,ry⟩
theorem KV.drop(r:KV kvs vs)(k:κ):KV (pE kvs k) (without vs k):=by unfold KV at r⊢;unfold pE without;induction r with|nil=>exact .nil|@cons p q ps qs h t ih=>obtain⟨h1,h2⟩:=h;rw[yN,yN];by_cases e:p.1=k;have a:¬decide (p.1≠k)=true:=(by simp[e]);have b:¬decide (q.1≠k)=true:=(by simp[h1.symm.trans e]);rw[if_neg a,if_neg b];exact ih;have e':¬q.1=k:=λz=>e<|h1.trans z;have a:decide (p.1≠k)=true:=(by simp[e]);have b:decide (q.1≠k)=true:=(by simp[e']);rw[if_pos a,if_pos b];exact .cons ⟨h1,h2⟩ ih
theorem KV.length{kvs:List<|κ×V}{vs:List<|κ×Value}(r:KV kvs vs):kvs.length=vs.length:=yS r
theorem IJ(kvs:List<|κ×V)(k:κ):(pE kvs k).length<=kvs.length:=List.length_filter_le _ _
end
theorem kY(r:RelV (kV k) u):(aH P w).is k u=true:=by cases k with|inl i=>(obtain⟨t,e⟩:=(show ∃t,u=Value.int i t from r);subst e;exact yZ P w i t)|inr x=>obtain⟨t,e⟩:=(show ∃t,u=Value.str x t from r);subst e;exact jr P w x t
theorem u3:∀{ks:List Key}{us:fv},Vals (ks.map kV) us->ItemsAre (aH P w) ks us|[],_,r=>(by rw[yV]at r;cases r;exact .nil)|k::ks,_,r=>by rw[zx]at r;cases r with|cons h t=>exact .cons (kY h)<|u3 t
abbrev KT(H:Hp):List (List Key×V)->List (List Key×Addr×Value)->Prop:=Paired λp q=>p.1=q.1/\H q.2.1=some (.tup<|p.1.map kV)/\RelV p.2 q.2.2
theorem KT.val{H:Hp}{kvs:List<|List Key×V}{xs:List<|List Key×Addr×Value}(r:KT H kvs xs)(k:List Key):gq (gv kvs k) ((atKey xs k).map (·.2)):=by induction r with|nil=>exact True.intro|@cons p q ps qs h t ih=>obtain⟨h1,_,h2⟩:=h;by_cases e:p.1=k;have e':q.1=k:=h1.symm.trans e;have b:atKey (q::qs) k=some q.2:=(by simp[atKey,yc,e']);rw[rJ e,b];exact h2;have e':¬q.1=k:=λz=>e<|h1.trans z;have b:atKey (q::qs) k=atKey qs k:=(by simp[atKey,yc,e']);rw[rK e,b];exact ih
section
variable{P:Program}{w:World}{H:Hp}{h:Heap}{a:Addr}
theorem Ou(ok:lN P w H h)(e:Rd H a u):bt P w H h a u:=e.ok ok
theorem pG(ok:lN P w H h)(e:Rd H a<|.dK kvs):kvs.length<=sizeLine/\(a==sysModules)=false/\∃vs,KV kvs vs/\h.DictOf (aH P w) a vs:=show bt P w H h a (.dK kvs) from Ou ok e
theorem ED(ok:lN P w H h)(e:H a=some (.dK kvs)):kvs.length<=sizeLine/\(a==sysModules)=false/\∃vs,KV kvs vs/\h.DictOf (aH P w) a vs:=pG ok<|.inl e
theorem v8(ok:lN P w H h)(e:H a=some (.tup<|ks.map kV)):(tupleKind<|aH P w).is h ks a:=by obtain⟨_,aw,r,o,h1,h2,_,n,h3⟩:=(show bt P w H h a (.tup<|ks.map kV) from ok a _ e);exact{o,aw.toArray,n,h1,h2,h3,by simpa using u3 r}
theorem u4(ok:lN P w H h)(e:Rd H a<|.dT kvs):kvs.length<=sizeLine/\(a==sysModules)=false/\∃xs,KT H kvs xs/\h.DictOfH (tupleKind<|aH P w) a xs:=by exact False.elim<|show bt P w H h a (.dT kvs) from Ou ok e
end
def qq(H:Hp)(a:Addr)(y:V)(r:Option V):Prop:=(∃kvs k,Rd H a (.dK kvs)/\y=kV k/\r=gv kvs k)\/∃kvs k b,Rd H a (.dT kvs)/\y=.ref b/\H b=some (.tup<|k.map kV)/\r=gv kvs k
def IK(H:Hp)(a:Addr)(y v:V)(H':Hp):Prop:=(∃kvs k,H a=some (.dK kvs)/\y=kV k/\kvs.length<sizeLine/\H'=upd H a (.dK<|putK kvs k v))\/∃kvs k b,H a=some (.dT kvs)/\y=.ref b/\H b=some (.tup<|k.map kV)/\kvs.length<sizeLine/\H'=upd H a (.dT<|putK kvs k v)
theorem qq.k{H:Hp}{a:Addr}{kvs:ge}{k:Key}(e:H a=some (.dK kvs)):qq H a (kV k) (gv kvs k):=.inl {kvs,k,.inl e,rfl,rfl}
theorem IK.k{H:Hp}{a:Addr}{kvs:ge}{k:Key}{v:V}(e:H a=some (.dK kvs))(hl:kvs.length<sizeLine):IK H a (kV k) v (upd H a<|.dK<|putK kvs k v):=.inl ⟨kvs,k,e,rfl,hl,rfl⟩
section
variable{X:Cx}{pins:jp}{σ:St}{H:Hp}{s:Shared}{a:Addr}{y v:V}{u r:Value}{o:Option V}{A:Around}{E:li}
theorem Inv.big(I:Inv X pins σ H s):sysModules<s.heap.objs.size:=by have h:mainGlobals<s.heap.objs.size:=(I.mod.glob.keeps I.bk).lt;exact Nat.lt_trans (by decide) h
theorem Gn(hu:A.units+1<cLine)(I:Inv X pins σ H s)(g:qq H a y<|some v)(ry:RelV y u)(h:∀w' s',Inv X pins σ H s'->RelV v w'->Q w' s'): wpAny (model X.prog X.w) A (getItem (.ref a) u) Q E s:=by rcases g with⟨kvs,k,e,ey,l⟩|⟨kvs,k,b,e,ey,eb,l⟩;subst ey;obtain⟨z,hd,vs,rel,dd⟩:=pG I.aN e;obtain⟨w',hw,qk⟩:=gq.some_of (v:=v) (o:=valueAt vs k) (by rw[l];exact rel.val k);exact wpAny_getItem_of (kY ry) dd.mapOf hw<|h w' _ (I.tok _) qk;subst ey;cases (show u=Value.ref b from ry);obtain⟨z,hd,xs,rel,dd⟩:=u4 I.aN e;obtain⟨w',hw,qk⟩:=gq.some_of (v:=v) (o:=(atKey xs k).map (·.2)) (by rw[l];exact rel.val k);obtain⟨p,hp,iu⟩:=Option.map_eq_some_iff.mp hw;refine wpAny_getItem_heap (tupleKind_room_in1 hu) (v8 I.aN eb) dd hp ?_;rw[iu];exact h w' _ (I.tok _) qk
theorem Zt(hu:A.units+1<cLine)(I:Inv X pins σ H s)(g:qq H a y o)(ry:RelV y u)(h:∀s',Inv X pins σ H s'->Q (.bool o.isSome) s'): wpAny (model X.prog X.w) A (compareOp .In u<|.ref a) Q E s:=by rcases g with⟨kvs,k,e,ey,l⟩|⟨kvs,k,b,e,ey,eb,l⟩;subst ey;obtain⟨z,hd,vs,rel,dd⟩:=pG I.aN e;refine wpAny_in_of (kY ry) hd dd.mapOf ?_;rw[<-(rel.val k).oa,<-l];exact h _<|I.tok _;subst ey;cases (show u=Value.ref b from ry);obtain⟨z,hd,xs,rel,dd⟩:=u4 I.aN e;refine wpAny_in_heap (tupleKind_room_in1 hu) (v8 I.aN eb) hd dd ?_;have q:=(rel.val k).oa;rw[Option.isSome_map]at q;rw[<-q,<-l];exact h _<|I.tok _
theorem v9(I:Inv X pins σ H s)(mu:Ul<|H a)(hs:Heap.SameBut a s.heap h')(he:∃q,h'.get? a=some q)(new:bt X.prog X.w (upd H a ob) h' a ob): Inv X pins σ (upd H a ob) {s with heap:=h',toks:=t'}:=I.write (x:=a) (e:=a) mu (.inl rfl) (λb q hb z=>(hs.2 b hb).trans z) he new
theorem Co(z:kvs.length<=sizeLine)(hd:(a==sysModules)=false)(rel:KV kvs vs)(dd:h'.DictOf (aH P w) a vs): bt P w H' h' a (.dK kvs):=⟨z,hd,vs,rel,dd⟩
theorem Gq(hu:A.units+1<cLine)(I:Inv X pins σ H s)(g:IK H a y v H')(ry:RelV y u)(rv:RelV v r)(h:∀s',Inv X pins σ H' s'->Q () s'): wpAny (model X.prog X.w) A (setItem (.ref a) u r) Q E s:=by
 rcases g with⟨kvs,k,e,ey,l,eH⟩|⟨kvs,k,b,e,ey,eb,l,eH⟩;subst ey eH;obtain⟨z,hd,vs,rel,dd⟩:=ED I.aN e;have hz:vs.length<=sizeLine:=by rw[<-rel.length];exact z
 have hl:(putK kvs k v).length<=sizeLine:=by have:=pF kvs k v;lia
 refine wpAny_setItem_pairs (hsz:=hz) (kY ry) dd λh' Ov hs=>h _ ?_;have he:∃q,h'.get? a=some q:=by obtain⟨q,_,_,hq,_⟩:=Ov;exact⟨q,hq⟩
 exact v9 I (by rw[e];exact True.intro) hs he<|Co hl hd (rel.put k rv) Ov;exact False.elim<|I.aN _ _ e
end
section
variable{X:Cx}{pins:jp}{σ:St}{H:Hp}{s:Shared}{a:Addr}{kvs:ge}{k:Key}{u:Value}{A:Around}{E:li}
theorem U5(I:Inv X pins σ H s)(e:H a=some (.dK kvs))(ry:RelV (kV k) u)(l:gv kvs k=some v)(hm:more=[]\/∃x,more=[x])(h:∀w' s',Inv X pins σ (upd H a<|.dK<|pE kvs k) s'->RelV v w'->Q w' s'):wpAny (model X.prog X.w) A (call (.builtin "dict.pop")<|.ref a::u::more) Q E s:=by
 obtain⟨z,hd,vs,rel,dd⟩:=ED I.aN e;obtain⟨w',hw,qk⟩:=gq.some_of (v:=v) (o:=valueAt vs k) (by rw[<-l];exact rel.val k);have hp:(keyPart u).isSome=true:=by cases k with|inl i=>(obtain⟨t,q⟩:=(show ∃t,u=Value.int i t from ry);subst q;rfl)|inr x=>obtain⟨t,q⟩:=(show ∃t,u=Value.str x t from ry);subst q;rfl
 have ha:argsOk "dict.pop" {.ref a::u::more,[]}:=by rcases hm with q|⟨x,q⟩;subst q;exact PySem.F.args_dict_pop_2 _ _;subst q;exact PySem.F.args_dict_pop_3 _ _ _
 refine call_meetsIn PySem.F.slot_dict_pop dd.typeIs PySem.F.entry_dict_pop ha (meets_dict_pop_there (aH X.prog X.w) a (kY ry) more hm hp) {vs,w',dd,by rw[<-rel.length];exact z,hw,λh' Ov hs=>h w' _ ?_ qk};have he:∃q,h'.get? a=some q:=by obtain⟨q,_,_,hq,_⟩:=Ov;exact⟨q,hq⟩
 exact v9 I (by rw[e];exact True.intro) hs he<|Co (zJ (IJ kvs k) z) hd (rel.drop k) Ov
theorem U6(I:Inv X pins σ H s)(e:Rd H a<|.dK kvs)(h:∀t s',Inv X pins σ H s'->Q (.int kvs.length t) s'):wpAny (model X.prog X.w) A (call (.builtin "len") [.ref a]) Q E s:=by obtain⟨z,hd,vs,rel,dd⟩:=pG I.aN e;refine call_len_dict hd dd (by rw[<-rel.length];rw[yg]at z;lia) ?_;rw[<-rel.length];exact h _ _<|I.tok _
end
theorem z_(I:Inv X pins σ H s)(g:qq H a y o):s.TypeIs (.ref a) "dict":=by rcases g with⟨kvs,k,e,_,_⟩|⟨kvs,k,b,e,_,_,_⟩;obtain⟨_,_,vs,_,dd⟩:=pG I.aN e;exact dd.typeIs;obtain⟨_,_,xs,_,dd⟩:=u4 I.aN e;exact dd.typeIs
def U7(td ty tv:TE):TS:=λD σ H=>tv σ H λv H1=>td σ H1 λx H2=>ty σ H2 λy H3=>∃a H4,x=.ref a/\IK H3 a y v H4/\D.nx σ H4
section
variable{X:Cx}{o i value:Expr}{pos pos':Pos}{td ty tv:TE}
theorem Mf(hu:X.A.units+1<cLine)(ho:PE X o td)(hi:PE X i ty)(hv:PE X value tv)(hs:swapsWith value (some<|.Subscript o i pos') pos.line X.env=pure false): PS X (.Assign [.Subscript o i pos'] value pos) (U7 td ty tv):=by intro pins s σ H D I h;refine wpAny_Assign_Subscript (br (hv pins s σ H _ I h) λr s1 ⟨v,H1,I1,rv,q1⟩=>br (ho pins s1 σ H1 _ I1 q1) λu s2 ⟨x,H2,I2,rx,q2⟩=>br (hi pins s2 σ H2 _ I2 q2) λiv s3 ⟨y,H3,I3,ry,a,H4,ex,g,q3⟩=>?_) hs;subst ex;obtain rfl:u=Value.ref a:=rx;exact Gq hu I3 g ry rv λs4 I4=>⟨σ,H4,I4,q3⟩
end
theorem IL(h:Heap)(hb:sysModules<h.objs.size):bt P w H (h.push {cls:=.type "dict",data:=.dict #[]}) h.objs.size (.dK []):={zU _,beq_eq_false_iff_ne.mpr<|Ne.symm<|zD hb,[],.nil,Heap.DictOf.new h}
def QF:TE:=λ_ H Q=>∀p,H p=none->Q (.ref p) (upd H p<|.dK [])
section
variable{X:Cx}{pos:Pos}
theorem IM:PE X (.Dict [] [] pos) QF:=λpins s σ H Q I h=>wpAny_Dict_empty {.ref s.heap.objs.size,_,I.laid (a:=s.heap.objs.size) (o:=.dK []) (t':=s.toks) (λ_ _ q=>za _ q) (zq _)<|IL s.heap I.big,rfl,h _<|I.aN.fresh<|zq _}
end
def IP:List (TE×TE)->St->Hp->(List (V×V)->Hp->Prop)->Prop|[],_,H,Q=>Q [] H| (tk,tv)::r,σ,H,Q=>tk σ H λx H1=>tv σ H1 λy H2=>IP r σ H2 λps H3=>Q ((x,y)::ps) H3
abbrev VV:List (V×V)->List (Value×Value)->Prop:=Paired λp q=>RelV p.1 q.1/\RelV p.2 q.2
def PPs(X:Cx)(pos:Pos)(keys:List<|Option Expr)(values:mt)(trs:List<|TE×TE):Prop:=∀(pins:jp)(s:Shared)(σ:St)(H:Hp)(Q:List (V×V)->Hp->Prop),Inv X pins σ H s->IP trs σ H Q->wpAny (model X.prog X.w) X.A (evalPairs<|pairTrees keys values X.env pos) (λvs s'=>∃ps H',Inv X pins σ H' s'/\VV ps vs/\Q ps H') X.xe s
structure M1(X:Cx)(o:Expr)(m:Str)(apos:Pos)(e:Expr)(aQ:Pos):Prop where
 base:attributeBase o m X.env (eval o X.env)=eval o X.env
 HS:((backTo aQ<|starEach [e] X.env).all (λx=>!x.1)&&(backToKw aQ<|keywordEach [] X.env).all (λx=>x.1.isSome)
  && decide (([e]:mt).length+([]:tt).length+(if ([]:tt).isEmpty then 0 else 1)<30))=true
 line:(apos.endLine==aQ.line)=true
 trees:backTo aQ (starEach [e] X.env)=[(false,eval e X.env)]
structure M2(X:Cx)(o:Expr)(m:Str)(apos:Pos)(e f:Expr)(aQ:Pos):Prop where
 base:attributeBase o m X.env (eval o X.env)=eval o X.env
 HS:((backTo aQ<|starEach [e,f] X.env).all (λx=>!x.1)&&(backToKw aQ<|keywordEach [] X.env).all (λx=>x.1.isSome)
  && decide (([e,f]:mt).length+([]:tt).length+(if ([]:tt).isEmpty then 0 else 1)<30))=true
 line:(apos.endLine==aQ.line)=true
 trees:backTo aQ (starEach [e,f] X.env)=[(false,eval e X.env),(false,eval f X.env)]
def Tr(H:Hp)(a:Addr):Prop:=(∃kvs,Rd H a<|.dK kvs)\/∃kvs,Rd H a<|.dT kvs
theorem v_(I:Inv X pins σ H s)(d:Tr H a): s.TypeIs (.ref a) "dict"/\(∀b,Value.ref a=.ref b->∃ob,s.heap.get? b=some ob/\ob.dict=none)/\(a==sysModules)=false:=by rcases d with⟨kvs,e⟩|⟨kvs,e⟩;obtain⟨_,hd,vs,_,dd⟩:=pG I.aN e;refine{dd.typeIs,λb q=>?_,hd};cases q;obtain⟨ob,_,_,h1,h2,_⟩:=dd;exact⟨ob,h1,h2.2.1⟩;obtain⟨_,hd,xs,_,dd⟩:=u4 I.aN e;refine{dd.typeIs,λb q=>?_,hd};cases q;obtain⟨ob,_,_,h1,h2,_⟩:=dd;exact⟨ob,h1,h2.2.1⟩
section
variable{X:Cx}{pins:jp}{σ:St}{H:Hp}{s:Shared}{a:Addr}{y d:V}{u r:Value}{o:Option V}{A:Around}{E:li}
theorem QG(hu:A.units+1<cLine)(I:Inv X pins σ H s)(g:qq H a y o)(ry:RelV y u)(h:∀w' s',Inv X pins σ H s'->RelV (o.getD .av) w'->Q w' s'): wpAny (model X.prog X.w) A (call (.builtin "dict.get") [.ref a,u]) Q E s:=by rcases g with⟨kvs,k,e,ey,l⟩|⟨kvs,k,b,e,ey,eb,l⟩;subst ey;obtain⟨z,hd,vs,rel,dd⟩:=pG I.aN e;refine call_meetsIn yB dd.typeIs PySem.F.entry_dict_get (PySem.F.args_dict_get_2 _ _) (meets_dict_get (aH X.prog X.w) a (kY ry) hd) {_,dd.mapOf,h _ _ (I.tok _) ?_};rw[l];exact(rel.val k).getD rfl;subst ey;cases (show u=Value.ref b from ry);obtain⟨z,hd,xs,rel,dd⟩:=u4 I.aN e;refine call_meetsIn yB dd.typeIs PySem.F.entry_dict_get (PySem.F.args_dict_get_2 _ _) (meetsH_dict_get (tupleKind<|aH X.prog X.w) a b hd) {tupleKind_room_in1 hu,k,xs,v8 I.aN eb,dd,h _ _ (I.tok _) ?_};rw[l];exact(rel.val k).getD rfl
theorem QH(hu:A.units+1<cLine)(I:Inv X pins σ H s)(g:qq H a y o)(ry:RelV y u)(rd:RelV d r)(h:∀w' s',Inv X pins σ H s'->RelV (o.getD d) w'->Q w' s'): wpAny (model X.prog X.w) A (call (.builtin "dict.get") [.ref a,u,r]) Q E s:=by rcases g with⟨kvs,k,e,ey,l⟩|⟨kvs,k,b,e,ey,eb,l⟩;subst ey;obtain⟨z,hd,vs,rel,dd⟩:=pG I.aN e;refine call_meetsIn yB dd.typeIs PySem.F.entry_dict_get (PySem.F.args_dict_get_3 _ _ _) (meets_dict_get_default (aH X.prog X.w) a (kY ry) hd r) {_,dd.mapOf,h _ _ (I.tok _) ?_};rw[l];exact(rel.val k).getD rd;subst ey;cases (show u=Value.ref b from ry);obtain⟨z,hd,xs,rel,dd⟩:=u4 I.aN e;refine call_meetsIn yB dd.typeIs PySem.F.entry_dict_get (PySem.F.args_dict_get_3 _ _ _) (meetsH_dict_get_default (tupleKind<|aH X.prog X.w) a b hd r) {tupleKind_room_in1 hu,k,xs,v8 I.aN eb,dd,h _ _ (I.tok _) ?_};rw[l];exact(rel.val k).getD rd
end
def QI(td ty:TE):TE:=λσ H Q=>td σ H λx H1=>∃a,x=.ref a/\Tr H1 a/\ty σ H1 λy H2=>∃o,qq H2 a y o/\Q (o.getD .av) H2
def QJ(td ty tx:TE):TE:=λσ H Q=>td σ H λx H1=>∃a,x=.ref a/\Tr H1 a/\ty σ H1 λy H2=>tx σ H2 λz H3=>∃o,qq H3 a y o/\Q (o.getD z) H3
def QK(td ty:TE):TE:=λσ H Q=>td σ H λx H1=>∃a,x=.ref a/\Tr H1 a/\ty σ H1 λy H2=>∃kvs k v,H2 a=some (.dK kvs)/\y=kV k/\gv kvs k=some v/\Q v (upd H2 a<|.dK<|pE kvs k)
section
variable{X:Cx}{o e f:Expr}{apos aQ:Pos}{td ty tx:TE}
theorem IQ(hu:X.A.units+1<cLine)(ho:PE X o td)(he:PE X e ty)(m:M1 X o "get" apos e aQ):PE X (.Call (.Attribute o "get" apos) [e] [] aQ) (QI td ty):=by intro pins s σ H Q I h;refine wpAny_Call_method m.base m.HS m.line PySem.F.plainAttrs_dict yB PySem.F.type_dict_get<|br (ho pins s σ H _ I h) ?_;rintro u s1 ⟨x,H1,I1,rx,a,ex,d,q1⟩;subst ex;obtain rfl:u=Value.ref a:=rx;obtain⟨t1,t2,_⟩:=v_ I1 d;refine{t1,t2,?_};rw[m.trees];refine Calls.callWith_builtin rfl<|Calls.evalArgs_plain<|yG<|br (he pins s1 σ H1 _ I1 q1) λiv s2 ⟨y,H2,I2,ry,ov,g,q2⟩=>Calls.spliced_nil ?_;exact QG hu I2 g ry λw' s3 I3 qk=>{_,H2,I3,qk,q2}
theorem IS(hu:X.A.units+1<cLine)(ho:PE X o td)(he:PE X e ty)(hf:PE X f tx)(m:M2 X o "get" apos e f aQ):PE X (.Call (.Attribute o "get" apos) [e,f] [] aQ) (QJ td ty tx):=by intro pins s σ H Q I h;refine wpAny_Call_method m.base m.HS m.line PySem.F.plainAttrs_dict yB PySem.F.type_dict_get<|br (ho pins s σ H _ I h) ?_;rintro u s1 ⟨x,H1,I1,rx,a,ex,d,q1⟩;subst ex;obtain rfl:u=Value.ref a:=rx;obtain⟨t1,t2,_⟩:=v_ I1 d;refine{t1,t2,?_};rw[m.trees];refine Calls.callWith_builtin rfl<|Calls.evalArgs_plain<|yG<|br (he pins s1 σ H1 _ I1 q1) λiv s2 ⟨y,H2,I2,ry,q2⟩=>yG<|br (hf pins s2 σ H2 _ I2 q2) λfv s3 ⟨z,H3,I3,rz,ov,g,q3⟩=>Calls.spliced_nil ?_;exact QH hu I3 g ry rz λw' s4 I4 qk=>{_,H3,I4,qk,q3}
theorem IT(ho:PE X o td)(he:PE X e ty)(m:M1 X o "pop" apos e aQ):PE X (.Call (.Attribute o "pop" apos) [e] [] aQ) (QK td ty):=by intro pins s σ H Q I h;refine wpAny_Call_method m.base m.HS m.line PySem.F.plainAttrs_dict PySem.F.slot_dict_pop PySem.F.type_dict_pop<|br (ho pins s σ H _ I h) ?_;rintro u s1 ⟨x,H1,I1,rx,a,ex,d,q1⟩;subst ex;obtain rfl:u=Value.ref a:=rx;obtain⟨t1,t2,_⟩:=v_ I1 d;refine{t1,t2,?_};rw[m.trees];refine Calls.callWith_builtin rfl<|Calls.evalArgs_plain<|yG<|br (he pins s1 σ H1 _ I1 q1) λiv s2 ⟨y,H2,I2,ry,kvs,k,v,ea,ey,l,q2⟩=>Calls.spliced_nil ?_;subst ey;exact U5 I2 ea ry l (.inl rfl) λw' s3 I3 qk=>{v,_,I3,qk,q2}
end
end L2
namespace Att
open PySem PySem.W PySem.Calls PyProof.Rows
theorem qr{P:Params} : ∀(ns:ul)(vs:fv),WellAll P h vs (ns.map WData.int)->IntsAre vs ns:=by intro ns;induction ns with|nil=>(intro vs w;rw[yV]at w;cases w;exact .nil)|cons n ns ih=>intro vs w;rw[zx]at w;cases w with|cons a b=>cases a;exact .cons _ _<|ih _ b
theorem Gr{l:OpenLaw}{n:Nat}(hn:l.most=some n){P:Params}{h:Heap}{args:List WData}{vals:fv}(Mg:l.row.toRowW.claim.pre args=true)(Zu:WellAll P h vals args): ∃a vs ns,vals=[Value.ref a]/\args=[WData.list<|ns.map WData.int]/\h.get? a=some {cls:=.type "list",data:=.seq vs.toArray}/\IntsAre vs ns/\ns.length<=n:=by
 have hsh:WShape.hasAll [] args [.list .int]=true:=(pre_splitW Mg).1;have hc:l.pre.holds [] {args:=args}=true:=(pre_splitW Mg).2;obtain⟨d,r,rfl,h1,h2⟩:=hasAllW_cons hsh;obtain rfl:=hasAllW_nil h2;obtain⟨xs,rfl,h3⟩:=hasW_list h1;obtain⟨ns,rfl⟩:=items_int h3;have hlen:ns.length<=n:=by unfold OpenLaw.pre at hc;have h4:(WTm.not<|.lt (.lit<|.int (n:Int))<|.len<|.arg 0).holds [] {args:=[.list<|ns.map .int]}=true:=(by have h4:=(holds_andW hc).1;rw[hn]at h4;exact h4);have h5:=condW_of h4<|w_not<|w_lt w_lit<|w_len_list<|w_arg rfl;rw[zb]at h5;refine Nat.le_of_not_lt λq=>?_;have q':(n:Int)<((ns.length:Nat):Int):=(by lia);first| (rw[zu q']at h5;exact absurd h5<|by decide)| (simp at h5;lia)
 cases Zu with|cons w1 w2=>cases w2;cases w1 with|list ho Zv=>exact{_,_,ns,rfl,rfl,ho,qr ns _ Zv,hlen}
theorem Gu(l:OpenLaw)(args:List WData):l.row.toRowW.claim.post args (.bool true) args=true:=postW_of (r:=l.row.toRowW) (X:=(true==true)) (show WShape.has [] (.bool true) .bool=true by first|rfl|decide|simp[WShape.has,WShape.arms,WShape.armsAll]) (show(WTm.eq .res<|.lit<|.bool true).value [] {args:=args,res:=some<|.bool true,after:=args}=some (.bool<|true==true) from w_eq_bool (w_res rfl) w_lit) rfl
theorem Ab{l:OpenLaw}{n:Nat}{q:Program}{loose:lc}{XP:(Str->Option Value)->Heap->Prop}{YP:World->Heap->Prop}{d:DefRec}(hn:l.most=some n)(Zw:d.params.defaults=[])(call:∀(w:World)(dw ba:Shared)(mg mb:Str->Option Value)(fa:Addr)(o:Obj)(pm cd doc:Value)(a:Addr)(vs:fv)(ns:ul),Ground q loose [] XP w dw mg mb ba.heap->YP w ba.heap->ba.heap.get? fa=some o->o.data=.func (docDef d.name d.params d.body d.scope pm cd doc)->ba.heap.CodeRec cd d.name->mg d.name=some (.ref fa)->ba.heap.get? a=some {cls:=.type "list",data:=.seq vs.toArray}->IntsAre vs ns->ns.length<=n->ba.gens=#[]->codeAny (model l.prog w) callerA (.call (.ref fa) {[.ref a],[]}) (λr s'=>r=.ok (.ret<|.bool true)/\OldK ba.heap s'.heap/\s'.os=ba.os/\AllBare s'.gens) ba): WalkO q loose XP YP l.row.toRowW d [] (λf vs=>PySem.call f vs):=by intro w dw ba mg mb G Y fa o pm cd doc dV kV ho hd tZ hD QL hg args vals as Mg adY hrd Zu hlo;obtain rfl:dV=.none:=Dflts.none hD Zw;obtain rfl:kV=.none:=Dflts.noKw hD;obtain⟨a,vs,ns,rfl,rfl,QM,hints,hlen⟩:=Gr hn Mg Zu;refine enter_call<|yW (call w dw ba mg mb fa o pm cd doc a vs ns G Y ho (fd_plain hd) tZ QL QM hints hlen hg) λr s' hq=>?_;obtain⟨rfl,h2,h3,h4⟩:=hq;exact{.inl {.bool true,.bool true,[],rfl,λ_=>rfl,.bool true,Gu l _,λ_=>{List.Pairwise.nil,λ_ hm=>(nomatch hm)}},h2,h3,h4}
end Att
namespace L2
open PySem PySem.Spec PyProof.Rows
theorem u5:∀{vs:fv}{ns:ul},IntsAre vs ns->Vals (ns.map V.int) vs|_,_,.nil=>.nil|_,_,.cons n t h=>.cons ⟨t,rfl⟩<|u5 h
def inClass(s:Stmt)(j:Nat):Stmt:=match s with|.ClassDef _ _ _ body _ _ _ _ _ _ _=>body.getD j (.Pass {0,0,0,0})|_=>.Pass {0,0,0,0}
def bc(s:Stmt):Arguments:=match s with|.FunctionDef _ a _ _ _ _ _ _ _ _=>a|_=>{posonlyargs:=[],args:=[],vararg:=none,kwonlyargs:=[],kw_defaults:=[],kwarg:=none,defaults:=[]}
def aZ(s:Stmt):pc:=match s with|.FunctionDef _ _ b _ _ _ _ _ _ _=>b|_=>[]
def ai(s:Stmt):Scope:=match s with|.FunctionDef _ _ _ _ _ _ sc _ _ _=>sc|_=>{kind:=.function,names:=[],isGenerator:=false,isCoroutine:=false}
abbrev X0:Cb:=λ_ _ _ _ _ _=>False
abbrev E0:XK:=λ_ _ _=>False
structure Fun(K:Frag)(x qual:Str)(st:Stmt)(f:Addr)(fd:FuncData):Prop where
 ex:∃(oc:Value)(od:re)(kV doc pm:Value)(an:re)(gy ct:Value)(Qt:ut),
  fd=fnOf x qual (bc st) (aZ st) (ai st) .none kV doc pm an gy ct/\K.lookup f=some {oc,od,.func fd,Qt}/\codeIn K gy qual=true
 kp:keepIn K (.ref f)=true
theorem kj(h:n<=1000):n<sizeLine:=Nat.lt_of_le_of_lt h<|by decide
section
variable{X:Cx}
theorem Gv:eN X (.builtin "len") (λxs H Q=>∃a kvs,xs=[V.ref a]/\H a=some (.dK kvs)/\Q (.int kvs.length) H):=by intro pins s σ H xs us Q I r h;obtain⟨a,kvs,rfl,ha,q⟩:=h;obtain⟨u,rfl,ru⟩:=vals1 r;cases ru;exact U6 I (.inl ha) λt s' I'=>{.int kvs.length,H,I',⟨t,rfl⟩,q}
end
theorem aX{A B:Prop}(h:B):if false=true then A else B:=by rw[if_neg zd];exact h
theorem dJ{A B:Prop}(h:A):if true=true then A else B:=by rw[if_pos rfl];exact h
section
variable{κ:Type}[DecidableEq κ]
theorem mF:∀{l:List κ}{k:κ},l.Nodup->¬k∈l->(l++[k]).Nodup|[],k,_,_=>by simp|a::r,k,h,hk=>by obtain⟨h1,h2⟩:=ym.mp h;show(a::(r++[k])).Nodup;refine ym.mpr {λm=>?_,mF h2 λm=>hk<|zk.mpr<|Or.inr m};rcases zP.mp m with q|q;exact h1 q;exact hk<|zk.mpr<|Or.inl (zK.mp q).symm
end
end L2
set_option maxHeartbeats 4000000
namespace L2
open PySem PySem.Spec PyProof.Rows
section
variable{X:Cx}
noncomputable def HU(i j:Str):Bool:=!decide (j.cps.toList<i.cps.toList)
noncomputable def nU(i j:Str):Bool:=decide<|i.cps.toList<j.cps.toList
def Zx(g:Str->Str->Bool):R2:=λx y H Q=>∃i j,x=.str i/\y=.str j/\Q (.bl<|g i j) H
theorem Gw:iB X (compareOp .LtE) (Zx HU):=by intro pins s σ H x y v u Q I rx ry h;obtain⟨i,j,rfl,rfl,q⟩:=h;obtain⟨t,rfl⟩:=rx;obtain⟨t',rfl⟩:=ry;exact P.le_str<|aJ I q rfl
theorem Gx:iB X (compareOp .GtE) (Zx λi j=>HU j i):=by intro pins s σ H x y v u Q I rx ry h;obtain⟨i,j,rfl,rfl,q⟩:=h;obtain⟨t,rfl⟩:=rx;obtain⟨t',rfl⟩:=ry;exact P.ge_str<|aJ I q rfl
theorem Gy:iB X (compareOp .Gt) (Zx λi j=>nU j i):=by intro pins s σ H x y v u Q I rx ry h;obtain⟨i,j,rfl,rfl,q⟩:=h;obtain⟨t,rfl⟩:=rx;obtain⟨t',rfl⟩:=ry;exact P.gt_str<|aJ I q rfl
def Ox(_ j:Int):Prop:=0<j/\j.natAbs.log2<9000
theorem IU:iB X (binaryOp .FloorDiv) (rI Ox λi j=>.int<|i/j):=XU λi j _ _ _ _ _ hc q=>by
 have hj:j≠0:=by have:=hc.1;omega
 exact floordiv_int hj (by rw[Int.fdiv_eq_ediv_of_nonneg _<|by have:=hc.1;omega];exact q)<|.inl<|PyProof.noPylong_of_log2 hc.2
end
noncomputable def Zy(x:Str):It:={λi _=>i<x.cps.size,λi H v H'=>H'=H/\∃c,x.cps[i]?=some c/\v=.str ⟨#[c]⟩,λi _=>x.cps.size<=i}
theorem Ac{P:Program}{w:World}{K:Frag}{tg:Expr}{T:String}(hT:["enumerate","zip","dict_itemiterator","dict_reverseitemiterator","odict_iterator","itertools.zip_longest","itertools.pairwise"].contains T=false)(it:Addr)(x:Str)(t:Tok)
  (W:∀A':Around,A'.handled=none->Walks P w A' it [it] [it] x.cps.size (SignAt x) (λi h=>h.IsStrIter it T x t i))
  (Gz:∀(A:Around)(s:Shared)(E:li)(i:Nat)(Q:Option Value->Shared->Prop),A.handled=none->s.heap.IsStrIter it T x t i->x.cps[i]?=none->(∀h',Heap.ExtBut it s.heap h'->Q none {s with heap:=h'})->wpAny (model P w) A (pyNext<|.ref it) Q E s)
  (U8:∀(A:Around)(s:Shared)(E:li)(i:Nat)(Q:li),s.heap.IsStrIter it T x t i->Q (.ref it) s->wpAny (model P w) A (pyIter<|.ref it) Q E s):
  Turn P w K tg (Zy x) [it] it (λi h=>h.IsStrIter it T x t i) where
 mem:=by simp
 obj:=λi h st b hb=>by
  have e:b=it:=by simpa using hb
  subst e
  obtain⟨o,e,c,d⟩:=st
  exact{o,e,λv z=>by rw[d]at z;cases z}
 keep:=λi h h' st k=>by
  obtain⟨o,e,c,d⟩:=st
  exact{o,k it (by simp) o e,c,d}
 item:=by
  intro X hP hw hK hc i pins s σ H E I hf st hg
  subst hP hw hK
  obtain⟨f0,f1,f2,f3,f4,f5⟩:=hf it<|by simp
  refine(W X.A<|I.ok.hd hc).item i s _ _ hg st λv h' tk hv eY kk=>?_
  obtain⟨c,u,Mh,rfl⟩:=hv
  have I1:Inv X pins σ H {s with heap:=h',toks:=tk}:=I.turned (λb o hb e=>kk b o (by simpa using hb) e) f0 f1 f3 f4 f5
  obtain⟨o,e,c',d⟩:=id eY
  exact{_,rfl,uT (s:={s with heap:=h',toks:=tk}) e c' d hT {.str ⟨#[c]⟩,H,I1,⟨u,rfl⟩,⟨rfl,c,Mh,rfl⟩,eY,λb hb=>(hf b hb).1}}
 done:=by
  intro X hP hw hK hc i pins s σ H E I hf st hg
  subst hP hw hK
  obtain⟨f0,f1,f2,f3,f4,f5⟩:=hf it<|by simp
  have hg:x.cps.size<=i:=hg
  exact Gz X.A s E i _ (I.ok.hd hc) st (by simp;exact hg) λh' eb=>{rfl,I.turned (t':=s.toks) (λb o hb e=>eb b o hb e) f0 f1 f3 f4 f5}
 self:=λA' i s Q E st h=>U8 A' s E i Q st h
section
variable{X:Cx}{tg:Expr}
def Zz(tl:TE):TI:=λσ H R=>tl σ H λx H1=>∃z,x=.str z/\R (Zy z) H1
theorem QN(hl:PE X l tl):PI X tg l (Zz tl):=by
 intro pins s σ H R I h;refine br (hl pins s σ H _ I h) ?_;rintro v s1 ⟨x,H1,I1,r1,q1⟩;obtain⟨z,e,q⟩:=q1;subst e;obtain⟨t,rfl⟩:=r1;have fin:∀(T:String)(_:Turn X.prog X.w X.K tg (Zy z) [s1.heap.objs.size] s1.heap.objs.size (λi h=>h.IsStrIter s1.heap.objs.size T z t i)),Y3 X pins σ tg R (.ref s1.heap.objs.size) {s1 with heap:=s1.heap.push {cls:=.type T,data:=.fields #[.str z t,.int 0 0]}}:=λT tn=>by refine{s1.heap.objs.size,[s1.heap.objs.size],_,_,H1,rfl,I1.kept (t':=s1.toks) λb o e=>za _ e,tn,{_,zm _ rfl,rfl,rfl},λb hb=>?_,q};have e:b=s1.heap.objs.size:=(by simpa using hb);subst e;exact I1.qm (zq _)<|I1.aN.fresh<|zq _
 cases ha:z.cps.all (·<128);exact wpAny_pyIter_wide ha<|fin _<|Ac (by decide) _ z t (λA' hA=>Walks.strWide hA _ z t) (λA s E i Q hh st hx hQ=>wpAny_pyNext_wide_end hh st hx hQ) λA s E i Q st hq=>wpAny_pyIter_striter_wide st hq;exact wpAny_pyIter_ascii ha<|fin _<|Ac (by decide) _ z t (λA' hA=>Walks.strAscii hA _ z t) (λA s E i Q hh st hx hQ=>wpAny_pyNext_ascii_end hh st hx hQ) λA s E i Q st hq=>wpAny_pyIter_striter_ascii st hq
end
noncomputable def clOf(cells:u8)(names:List<|Str×NameKind):u8:=names.foldl (λcs p=>if p.2==.free then match cells.lookup p.1 with|some a=>(p.1,a)::cs|none=>cs else cs) []
theorem rL(cells:u8):∀(names:List (Str×NameKind))(cs:u8),(∀x c,cs.lookup x=some c->cells.lookup x=some c)->∀x c,(names.foldl (λcs p=>if p.2==.free then match cells.lookup p.1 with|some a=>(p.1,a)::cs|none=>cs else cs) cs).lookup x=some c->cells.lookup x=some c|[],cs,h=>h| (n,k)::r,cs,h=>by rw[yQ];refine rL cells r _ λx c e=>?_;dsimp only at e;split at e;split at e;rename_i a ha;rw[yh]at e;split at e;rename_i hx;have:=LawfulBEq.eq_of_beq hx;cases e;rw[this];exact ha;exact h x c e;exact h x c e;exact h x c e
theorem u6(cells:u8):∀(names:List (Str×NameKind))(cs:u8)(x:Str)(c:Addr),(∀y c,cs.lookup y=some c->cells.lookup y=some c)->cs.lookup x=some c->(names.foldl (λcs p=>if p.2==.free then match cells.lookup p.1 with|some a=>(p.1,a)::cs|none=>cs else cs) cs).lookup x=some c
 |[],cs,x,c,_,h=>h
 | (n,k)::r,cs,x,c,hs,h=>by
  rw[yQ];have X1:∀y c,(if (k==NameKind.free)=true then match cells.lookup n with|some a=>(n,a)::cs|none=>cs else cs).lookup y=some c->cells.lookup y=some c:=by intro y c e;split at e;split at e;rename_i a ha;rw[yh]at e;split at e;rename_i hx;have:=LawfulBEq.eq_of_beq hx;cases e;rw[this];exact ha;exact hs y c e;exact hs y c e;exact hs y c e
  refine u6 cells r _ x c X1 ?_;dsimp only;split;split;rename_i a ha;rw[yh];split;rename_i hx;have:=LawfulBEq.eq_of_beq hx;rw[this]at h;have:=hs _ _ h;rw[ha]at this;exact this;exact h;exact h;exact h
theorem jw(cells:u8):∀(names:List (Str×NameKind))(cs:u8)(x:Str)(c:Addr),(∀y c,cs.lookup y=some c->cells.lookup y=some c)->(x,NameKind.free)∈names->cells.lookup x=some c->(names.foldl (λcs p=>if p.2==.free then match cells.lookup p.1 with|some a=>(p.1,a)::cs|none=>cs else cs) cs).lookup x=some c
 |[],cs,x,c,_,h,_=>nomatch h
 | (n,k)::r,cs,x,c,hs,h,hc=>by
  rw[yQ];have X1:∀y c,(if (k==NameKind.free)=true then match cells.lookup n with|some a=>(n,a)::cs|none=>cs else cs).lookup y=some c->cells.lookup y=some c:=by intro y c e;split at e;split at e;rename_i a ha;rw[yh]at e;split at e;rename_i hx;have:=LawfulBEq.eq_of_beq hx;cases e;rw[this];exact ha;exact hs y c e;exact hs y c e;exact hs y c e
  rcases zk.mp h with e|h;cases e;refine u6 cells r _ _ c X1 ?_;dsimp only;rw[if_pos<|show(NameKind.free==NameKind.free)=true by decide,hc];simp[yh];exact jw cells r _ x c X1 h hc
theorem gL{scope:Scope}{env:Env}(h:∀x∈scope.names,x.2=.free->∃c,env.cells.lookup x.1=some c):closureFor scope env=pure (clOf env.cells scope.names):=by
 have go:∀(names:List (Str×NameKind))(cs:u8),(∀x∈names,x.2=.free->∃c,env.cells.lookup x.1=some c)->(forIn names cs λx r=>match x with|(name,kind)=>if (kind==NameKind.free)=true then do let a <-cellOf env name;pure (ForInStep.yield<|(name,a)::r) else pure (ForInStep.yield r):Sem (List<|Str×Addr))=pure (names.foldl (λcs p=>if p.2==.free then match env.cells.lookup p.1 with|some a=>(p.1,a)::cs|none=>cs else cs) cs):=by intro names;induction names with|nil=>intro cs _;rfl|cons p r ih=>intro cs hp;obtain⟨n,k⟩:=p;rw[List.forIn_cons,yQ];by_cases hk:k=.free;subst hk;obtain⟨c,hc⟩:=hp _ zj rfl;have hc:env.cells.lookup n=some c:=hc;have e1:cellOf env n=pure c:=(by unfold cellOf;rw[hc]);have ef:(NameKind.free==NameKind.free)=true:=(by decide);dsimp only;rw[if_pos ef,if_pos ef,e1,hc];exact ih _ λx hx=>hp x<|zf _ hx;have IV:(k==NameKind.free)=false:=(by simpa using hk);dsimp only;rw[IV,if_neg zd,if_neg zd];exact ih _ λx hx=>hp x<|zf _ hx
 have e:=go scope.names [] h;have e2:closureFor scope env=(forIn scope.names [] (λx r=>match x with|(name,kind)=>if (kind==NameKind.free)=true then do let a <-cellOf env name;pure (ForInStep.yield<|(name,a)::r) else pure (ForInStep.yield r)):Sem (List<|Str×Addr)) >>=λcs=>pure cs:=rfl;rw[e2,e];rfl
theorem jx{env:Env}{names:List<|Str×NameKind}{x:Str} : (names.map λ(n,k)=>if (k==NameKind.free&&env.scope.kind==.function&&env.kindOf n==some .cell) then (n,NameKind.cell) else (n,k)).lookup x=(names.lookup x).map λk=>if (k==NameKind.free&&env.scope.kind==.function&&env.kindOf x==some .cell) then NameKind.cell else k:=by induction names with|nil=>rfl|cons p r ih=>obtain⟨n,k⟩:=p;rw[zx,yh];by_cases hc:(k==NameKind.free&&env.scope.kind==.function&&env.kindOf n==some .cell)=true;dsimp only;rw[if_pos hc,yh];(cases hx:x==n with|true=>have:=LawfulBEq.eq_of_beq hx;subst this;dsimp only[Option.map];rw[if_pos hc]|false=>exact ih);dsimp only;rw[if_neg hc,yh];cases hx:x==n with|true=>have:=LawfulBEq.eq_of_beq hx;subst this;dsimp only[Option.map];rw[if_neg hc]|false=>exact ih
noncomputable def gz(X:Cx)(N:lc)(scope:Scope)(C:Addr)(s:Shared)(H:Hp)(ex:io)(pn:jp):Cx:={X with N:=N,dw:=s,vX:=H,env:=compEnvC scope (clOf X.env.cells scope.names) C X.env,outer:=X.stack,ex:=ex,fn:=λ_=>false,pn:=pn,xe:=λ_ _=>False}
noncomputable def pick(σ:St)(src:List<|Option Nat):St:=src.map λo=>match o with|some j=>(σ[j]?).join|none=>none
structure bj(X:Cx)(N:lc)(src:v0)(scope:Scope):Prop where
 kind:scope.kind=.function
 gM:∀y∈scope.names,y.2≠.cell
 loc:∀y∈scope.names,y.2=.local->scope.names.lookup y.1=some .local
 BN:∀y∈scope.names,y.2=.free->X.env.kindOf y.1=some .cell\/X.env.kindOf y.1=some .free
 len:src.length=N.length
 src:∀(i j:Nat)(x:Str),src[i]?=some (some j)->N[i]?=some x->X.N[j]?=some x/\scope.names.lookup x=some .free/\PH X.env.scope x
def Ext(σ aA:St):Prop:=aA.length=σ.length/\∀(j:Nat) v,σ[j]?=some (some v)->aA[j]?=some (some v)
def Cp(g:TG)(src:List<|Option Nat):Prop:=∀x σ H Q,g x (pick σ src) H Q->g x (pick σ src) H λaA H'=>Ext (pick σ src) aA/\Q aA H'
def IW(wi:TI)(src:List<|Option Nat)(g:TG)(tc:TT)(te:TE):TE:=λσ H Q=>wi σ H λJ H1=>∃W:Nat->Nat->List V->Hp->Prop,(∃m,W 0 m [] H1)/\∀i m out H',W i m out H'->(J.stop i H'/\∀D,H' D=none->Q (.ref D) (upd H' D<|.lst out))\/(J.go i H'/\out.length<sizeLine/\∀x H2,J.UB i H' x H2->g x (pick σ src) H2 λgu H3=>tc gu H3 λb H4=>if b=true then te gu H4 λv H5=>∃m',m'<m/\W (i+1) m' (out++[v]) H5 else ∃m',m'<m/\W (i+1) m' out H4)
section
variable{X:Cx}{N:lc}{src:v0}{scope:Scope}{tg iter elt:Expr}{ifs:mt}{pos:Pos}{wi:TI}{g:TG}{tc:TT}{te:TE}
def Ts(X:Cx)(ifs:mt)(t:TT):Prop:=∀(pins:jp)(s:Shared)(σ:St)(H:Hp)(Q:Bool->Hp->Prop),Inv X pins σ H s->t σ H Q->wpAny (model X.prog X.w) X.A (forIn ifs true λc r=>if r=true then do let ok <-isTrue c X.env (eval c X.env);pure (ForInStep.yield ok) else pure (ForInStep.yield r)) (TP X pins σ Q) X.xe s
def U9:TT:=λ_ H Q=>Q true H
theorem Mi:Ts X [] U9:=λpins s σ H Q I h=>wpAny_tests_nil ⟨H,I,h⟩
theorem Mj{t:TT}(h:PT X c t):Ts X [c] t:=λpins s σ H Q I hw=>wpAny_tests_one<|h pins s σ H Q I hw
theorem kI(Tu:∀x s',EE x s'->notedBy (model prog w) A env (λe s'=>R (.error e) s') x s')(I:Nat->Shared->Prop)
  (turn:∀n s,I n s->wpAny (model prog w) A (pyNext it) (λr ba=>match r with
   |none=>R (.ok .next) ba
   |some v=>wpAny (model prog w) A (letOwnedTupleGo target it v) (λ_ Oy=>wpAny (model prog w) A (assign target env v) (λ_ bQ =>
     wpAny (model prog w) A (forIn ifs true λc r=>if r=true then do let ok <-isTrue c env (eval c env);pure (ForInStep.yield ok) else pure (ForInStep.yield r)) (λok BX =>
      if ok=true then wpAny (model prog w) A (eval elt env) (λx Ad =>
       wpAny (model prog w) A (call (.builtin "list.append") [acc,x]) (λ_ U_=>∃m,m<n/\I m U_) EE Ad) EE BX
      else ∃m,m<n/\I m BX) EE bQ) EE Oy) EE ba) EE s)
  (n:Nat) (h:I n s):
  codeAny (model prog w) A (.compLoop (.ListComp elt [{target,iter,ifs,0}] scope pos) 0 it acc env) R s:=by
 refine codeAny_loop rfl I (λn s hI=>?_) n h
 show wpAny _ A ((compTurn (.ListComp elt [{target,iter,ifs,0}] scope pos) 0 it acc env).onRaise λx=>do noteFrame x env;theTreesLotGoes x) _ _ s
 refine wpAny_noted ?_
 rw[compTurn_list]
 refine zc<|wpAny_standAt<|zc<|yK (turn n s hI) (λr ba h₁=>?_) Tu
 cases r with
 |none=>exact zo h₁
 |some v =>
  refine zc<|yK h₁ (λ_ Oy Va=>?_) Tu
  refine zc<|yK Va (λ_ bQ ZA=>zc<|yK ZA (λok BX Vb=>?_) Tu) Tu
  cases ok with
  |false=>exact zo ⟨rfl,Vb⟩
  |true =>
   exact zc<|zc<|yK Vb (λx Ad ZC=>zc<|yK ZC (λ_ U_ ZD=>zo<|zo ⟨rfl,ZD⟩) Tu) Tu
def CompEnd(X:Cx)(pins:jp)(σ:St)(Q:VK)(D C:Addr)(s':Shared):Prop:=∃H' m,Inv X pins σ H' s'/\Q (.ref D) H'/\s'.heap.Ns C m/\H' C=none/\C≠X.env.locals/\X.dw.heap.objs.size<=C/\(∀x c,X.env.cells.lookup x=some c->c≠C)/\(∀p∈X.pn++pins,p.1≠C)
theorem u7{pins:jp}{bQ:Shared}{σ:St}{jk:Hp}{Q:VK}{it:Addr}{fp:io}{tn:Nat->Heap->Prop}{J:It}{E:li}(S:bj X N src scope)(hc:X.calm=true)(hg:∀C s H ex pn,PG (gz X N scope C s H ex pn) tg g)(hx:Cp g src)(hi:∀C s H ex pn,Ts (gz X N scope C s H ex pn) ifs tc)(he:∀C s H ex pn,PE (gz X N scope C s H ex pn) elt te)(I:Inv X pins σ jk bQ)(T:Turn X.prog X.w X.K tg J fp it tn)(st:tn 0 bQ.heap)(ff:∀b∈fp,ug X pins jk b)(W:Nat->Nat->List V->Hp->Prop)(w0:∃m,W 0 m [] jk)(turn:∀i m out H',W i m out H'->(J.stop i H'/\∀D,H' D=none->Q (.ref D) (upd H' D<|.lst out))\/(J.go i H'/\out.length<sizeLine/\∀x H2,J.UB i H' x H2->g x (pick σ src) H2 λgu H3=>tc gu H3 λb H4=>if b=true then te gu H4 λv H5=>∃m',m'<m/\W (i+1) m' (out++[v]) H5 else ∃m',m'<m/\W (i+1) m' out H4)){RR:Value->Addr->Result->Shared->Prop}(hRR:∀D C s',CompEnd X pins σ Q D C s'->RR (.ref D) C (.ok .next) s'): wpAny (model X.prog X.w) X.A (newList []) (λacc BX=>wpAny (model X.prog X.w) X.A (newFunctionEnv scope X.env.globals (clOf X.env.cells scope.names) [] X.env.qual none .none<|some X.env) (λVc Ad=>codeAny (model X.prog X.w) X.A (.compStart (.ListComp elt [{tg,iter,ifs,0}] scope pos) 0 (.ref it) acc {Vc with scope:=relabel scope X.env}) (RR acc Vc.locals) Ad) E BX) E bQ:=by
 refine yj<|wpAny_newFunctionEnv S.gM (by intro y hy;simp at hy) (λh₁ wa rM=>?_) S.kind;dsimp only at wa rM⊢;generalize ZE:bQ.heap.push {cls:=.type "list",dict:=none,data:=.seq ([]:fv).toArray}=G2 at wa rM⊢;have hC:G2.objs.size=bQ.heap.objs.size+1:=by rw[<-ZE,yd]
 have Tv:bQ.heap.objs.size≠G2.objs.size:=by rw[hC];exact zD<|Nat.lt_succ_self _
 have Ml:bQ.heap.objs.size<=G2.objs.size:=by rw[hC];exact yM _
 have old:∀b o,bQ.heap.get? b=some o->h₁.get? b=some o:=λb o e=>rM.extBut b o (zD<|zr (zw e) Ml)<|za _<|ZE ▸ za _ e;have rN:h₁.get? bQ.heap.objs.size=some {cls:=.type "list",dict:=none,data:=.seq ([]:fv).toArray}:=rM.extBut _ _ Tv<|za _<|ZE ▸ zm _ rfl;generalize hCC:G2.objs.size=C at hC Tv Ml wa rM⊢;have mG:bQ.heap.objs.size<=C:=Ml;generalize hD:bQ.heap.objs.size=D at hC Tv Ml rN⊢;have i6:∀x c,(clOf X.env.cells scope.names).lookup x=some c->X.env.cells.lookup x=some c:=rL X.env.cells scope.names [] (by intro x c h;simp at h);have IX:∀x c,X.env.cells.lookup x=some c->c<bQ.heap.objs.size:=λx c e=>by obtain⟨v,q⟩:=I.cell x c e;exact q.lt
 have QO:∀b∈fp,b<bQ.heap.objs.size:=λb hb=>by obtain⟨o,e,_⟩:=T.obj _ _ st b hb;exact zw e
 have ok:(gz X N scope C bQ jk fp<|X.pn++pins).Ok:=by refine{I.ok.mod,S.kind,I.ok.glob,I.ok.blt,mG,λx y c h1 h2=>I.ok.inj x y c (i6 _ _ h1)<|i6 _ _ h2,λx hk=>?_,λx c h=>(nomatch h),I.ok.hd,I.ok.frames,.inl rfl,λb hb=>{?_,λx c h=>?_},I.bs,zJ I.ok.LQ I.sz,λb o e hb=>?_,λb hb hf=>?_,I.stack,I.qI};have hk:(relabel scope X.env).names.lookup x=some .cell\/(relabel scope X.env).names.lookup x=some .free:=hk;unfold relabel at hk;dsimp only at hk;rw[jx]at hk;(cases hl:scope.names.lookup x with|none=>(rw[hl]at hk;rcases hk with z|z<;>cases z)|some k=>rw[hl]at hk;have hm:=yn hl;have Vd:k=.free:=(by by_cases Vd:k=.free;exact Vd;exfalso;have e1:(k==NameKind.free)=false:=(by simpa using Vd);simp only[Option.map,e1,zZ,yt,if_false]at hk;rcases hk with z|z;exact S.gM _ hm<|zS z;exact Vd<|zS z);subst Vd;obtain⟨c,Mh⟩:=I.ok.has x<|S.BN _ hm rfl;exact{c,jw X.env.cells scope.names [] x c (by intro x c h;simp at h) hm Mh});exact zD<|zr (QO b hb) mG;exact(ff b hb).2.2.2.2.1 x c<|i6 _ _ h;have q:b∈X.ex\/X.dw.heap.objs.size<=b:=(ff b hb).2.2.2.1;rcases q with q|q;exact I.ok.PJ b o e q;exact absurd (zr (zw e)<|zJ I.ok.LQ q)<|yD _;rcases zk.mp (I.nZ b hf) with z|z;exact(ff b hb).2.1 z;exact(ff b hb).2.2.1 z
 have Ve:∀p∈X.pn++pins,p.1∉nY X.stack:=λp hp z=>by obtain⟨_,_,ne,nf,_⟩:=I.pin p hp;rcases zk.mp (I.nZ _ z) with q|q;exact ne q;exact nf q
 have IY:∀p∈X.pn++pins,p.1<bQ.heap.objs.size:=λp hp=>zw (I.pin p hp).1;have Vf:∀b∈nY X.stack,b<bQ.heap.objs.size:=λb hb=>by rcases zk.mp (I.nZ b hb) with z|z;rw[z];exact I.lt;obtain⟨_,o,ho,_⟩:=I.ok.qj.mem z;exact zr (zw ho) I.sz
 have ZF:∀(i:Nat)(x:Str)(v:V),N[i]?=some x->(pick σ src)[i]?=some (some v)->∃u c,RelV v u/\(clOf X.env.cells scope.names).lookup x=some c/\bQ.heap.IsCell c (some u)/\scope.names.lookup x=some .free:=λi x v e1 e2=>by unfold pick at e2;rw[zi]at e2;cases es:src[i]? with|none=>(rw[es]at e2;cases e2)|some o=>rw[es]at e2;cases o with|none=>(cases e2)|some j=>have e3:(σ[j]?).join=some v:=zS e2;have e4:σ[j]?=some (some v):=(by cases q:σ[j]? with|none=>(rw[q]at e3;cases e3)|some z=>rw[q]at e3;exact congrArg some e3);obtain⟨a1,a2,a3⟩:=S.src i j x es e1;obtain⟨m0,_,hl⟩:=I.loc;obtain⟨u,r,l⟩:=hl j x v a1 e4 a3;have hm:=yn a2;have hk:=S.BN _ hm rfl;rcases l with⟨k,_⟩|⟨_,c,Mh,z⟩;rcases hk with hk|hk<;>(rw[k]at hk;cases hk);exact{u,c,r,jw X.env.cells scope.names [] x c (by intro x c h;simp at h) hm Mh,z,a2}
 have kinds:∀x,scope.names.lookup x=some .free->(compEnvC scope (clOf X.env.cells scope.names) C X.env).kindOf x=some .cell\/(compEnvC scope (clOf X.env.cells scope.names) C X.env).kindOf x=some .free:=λx hx=>by show(relabel scope X.env).names.lookup x=some .cell\/(relabel scope X.env).names.lookup x=some .free;unfold relabel;dsimp only;rw[jx,hx];dsimp only[Option.map];split;exact .inl rfl;exact .inr rfl
 have Ic:Inv (gz X N scope C bQ jk fp<|X.pn++pins) [] (pick σ src) jk {bQ with heap:=h₁,toks:=bQ.toks+([]:pi).length}:=by refine{ok,rfl,I.bare,Un.kept old,{_,wa,λi x v e1 e2 e3=>?_},λx c e=>?_,I.aN.fresh mG,λx c e=>I.gw x c<|i6 x c e,λp hp=>?_,I.aN.kept old,?_};obtain⟨u,c,r,e5,⟨o,ho,hd⟩,hf⟩:=ZF i x v e1 e2;exact{u,r,.inr {kinds x hf,c,e5,{o,old _ _ ho,hd}}};obtain⟨v,o,ho,hd⟩:=I.cell x c<|i6 x c e;exact{v,o,old _ _ ho,hd};have hp:p∈X.pn++pins:=(by simpa [gz]using hp);obtain⟨e,n,_,_,d⟩:=I.pin p hp;exact{old _ _ e,n,zD<|zr (IY p hp) mG,Ve p hp,d};show(pick σ src).length=N.length;unfold pick;rw[zb,S.len]
 have Ae:bQ.heap.objs.size<=D:=Nat.le_of_eq hD;have QP:D∉nY X.stack:=λz=>absurd (zr (Vf D z) Ae)<|yD _;have Oz:D∉fp:=λz=>absurd (zr (QO D z) Ae)<|yD _;have qm:∀{pl:jp}{H':Hp},(∀b∈fp,H' b=none)->(∀p∈pl,p.1∉fp)->∀b∈fp,ug (gz X N scope C bQ jk fp<|X.pn++pins) pl H' b:=λ{pl H'} hn dG b hb=>by obtain⟨f0,f1,f2,f3,f4,f5⟩:=ff b hb;refine{hn b hb,zD<|zr (QO b hb) mG,λz=>?_,.inl hb,λx c e=>f4 x c<|i6 x c e,λp hp=>?_};rcases zk.mp (I.nZ b z) with q|q;exact f1 q;exact f2 q;have hp:p∈(X.pn++pins)++pl:=hp;rcases zP.mp hp with hp|hp;exact f5 p hp;exact λz=>dG p hp<|z ▸ hb
 have back:∀{s':Shared}{H':Hp}{out:dL}{aw:fv}{nn:Nat}{aA:St},Inv (gz X N scope C bQ jk fp<|X.pn++pins) [] aA H' s'->H' D=none->out.length<=sizeLine->Vals out aw->s'.heap.get? D=some {cls:=.type "list",data:=.seq aw.toArray nn}->(∀D,H' D=none->Q (.ref D) (upd H' D<|.lst out))->CompEnd X pins σ Q D C s':=λ{s' H' out aw nn aA} I' hn hl hv ho q=>by obtain⟨m,hm,_⟩:=I'.loc;have un:Un (nY X.stack) fp jk H' bQ.heap s'.heap:=I'.base;have neD:∀b o,bQ.heap.get? b=some o->b≠D:=λb o e=>zD<|zr (zw e) Ae;have fD:jk D=none:=I.aN.fresh Ae;refine{upd H' D<|.lst out,m,?_,q D hn,hm,by rw[ax<|Ne.symm Tv];exact I'.free,yr<|zr I.lt mG,zJ I.sz mG,λx c e=>zD<|zr (IX x c e) mG,λp hp=>zD<|zr (IY p hp) mG};refine I.Ut (ch:=fp) I'.os {un.keep,un.slot,λb o e n hb=>?_,un.there,λb xs e=>?_,λb o u e=>?_,λb ps e=>?_} (λb o e=>?_) I'.bare λb hb=>?_;rw[ax<|neD b o e];exact un.free b o e n hb;rw[ax<|aE e fD];exact un.mz b xs e;rw[ax<|aE e fD];exact un.lO b o u e;rw[ax<|aE e fD];exact un.lP b ps e;by_cases hb:b=D;subst hb;rw[aG]at e;cases e;exact⟨hl,aw,nn,hv,ho⟩;rw[ax hb]at e;refine(I'.aN b o e).qh (λc v _ q=>q) (λc q=>?_) λc xs q=>?_;rw[ax<|aE q hn];exact q;rw[ax<|aE q hn];exact q;obtain⟨f0,f1,f2,f3,f4,f5⟩:=ff b hb;exact⟨f3,f1,f4,f5⟩
 obtain⟨m0,w0⟩:=w0;have loop:∀Ad:Shared,Ad={bQ with heap:=h₁,toks:=bQ.toks+([]:pi).length}->codeAny (model X.prog X.w) X.A (.compLoop (.ListComp elt [{tg,iter,ifs,0}] scope pos) 0 (.ref it) (.ref D)<|compEnvC scope (clOf X.env.cells scope.names) C X.env) (RR (.ref D) C) Ad:=by rintro Ad rfl;refine kI (EE:=λ_ _=>False) (λ_ _ f=>f.elim) (λn s'=>∃i out aw nn H',Inv (gz X N scope C bQ jk fp<|X.pn++pins) [] (pick σ src) H' s'/\H' D=none/\out.length<=sizeLine/\Vals out aw/\s'.heap.get? D=some {cls:=.type "list",data:=.seq aw.toArray nn}/\tn i s'.heap/\(∀b∈fp,H' b=none)/\W i n out H') ?_ m0 {0,[],[],0,jk,Ic,I.aN.fresh Ae,zU _,.nil,rN,T.keep _ _ _ st λb hb o e=>old b o e,λb hb=>(ff b hb).1,w0};rintro n s3 ⟨i,out,aw,nn,H3,I3,hD3,ZG,X2,ho3,Oi,UH,w3⟩;have QQ:∀(aw:fv) (nn:Nat) (v:Option Value),({cls:=.type "list",data:=.seq aw.toArray nn} : Obj).data≠.cell v:=λ_ _ _ z=>nomatch z;have I3p:Inv (gz X N scope C bQ jk fp<|X.pn++pins) [(D,{cls:=.type "list",data:=.seq aw.toArray nn})] (pick σ src) H3 s3:=I3.mB λp hp=>(by have e:p=(D,{cls:=.type "list",data:=.seq aw.toArray nn}):=(by simpa using hp);subst e;exact{ho3,hD3,Tv,QP,QQ aw nn});have ZH:∀p∈[((D,{cls:=.type "list",data:=.seq aw.toArray nn}):Addr×Obj)],p.1∉fp:=λp hp=>(by have e:p=(D,{cls:=.type "list",data:=.seq aw.toArray nn}):=(by simpa using hp);subst e;exact Oz);rcases turn i n out H3 w3 with⟨stop,qn⟩|⟨go,dY,step⟩;refine br (T.done (gz X N scope C bQ jk fp<|X.pn++pins) rfl rfl rfl hc i _ s3 _ H3 _ I3p (qm UH ZH) Oi stop) ?_;rintro r s4 ⟨hr,I4⟩;subst hr;have p4:=(I4.pin (D,{cls:=.type "list",data:=.seq aw.toArray nn})<|zH _<|by simp).1;exact hRR D C s4<|back (I4.mB (pins':=[]) λp hp=>nomatch hp) hD3 ZG X2 p4 qn;refine br (T.item (gz X N scope C bQ jk fp<|X.pn++pins) rfl rfl rfl hc i _ s3 _ H3 _ I3p (qm UH ZH) Oi go) ?_;rintro r s4 ⟨u,hr,h4⟩;subst hr;refine br h4 ?_;rintro _ s5 ⟨x,H5,I5,r5,y5,LC,Y6⟩;have Y7:=I5.pinned (qm Y6 ZH)<|T.obj _ _ LC;refine br (hg _ _ _ _ _ _ s5 _ H5 x u _ Y7 r5<|hx x σ H5 _<|step x H5 y5) ?_;rintro _ s6 ⟨UI,H6,I6,e6,q6⟩;have fin:∀{s7:Shared}{H7:Hp},Inv (gz X N scope C bQ jk fp<|X.pn++pins) ([(D,{cls:=.type "list",data:=.seq aw.toArray nn})]++rD fp s5.heap) UI H7 s7->Inv (gz X N scope C bQ jk fp<|X.pn++pins) [] (pick σ src) H7 s7/\H7 D=none/\s7.heap.get? D=some {cls:=.type "list",data:=.seq aw.toArray nn}/\tn (i+1) s7.heap/\∀b∈fp,H7 b=none:=λ{s7 H7} I7=>(by have pD:=I7.pin (D,{cls:=.type "list",data:=.seq aw.toArray nn})<|zH _ (by simp);refine{(I7.mB (pins':=[]) λp hp=>nomatch hp).weak e6.1.symm e6.2,pD.2.1,pD.1,T.keep _ _ _ LC λb hb o e=>(I7.pin (b,o)<|zH _<|zH _<|iz hb e).1,λb hb=>?_};obtain⟨o,e,d⟩:=T.obj _ _ LC b hb;exact(I7.pin (b,o)<|zH _<|zH _<|iz hb e).2.1);refine br (hi _ _ _ _ _ _ s6 UI H6 _ I6 q6) ?_;rintro b s7 ⟨H7,I7,q7⟩;cases b with|false=>(rw[if_neg zd]at q7⊢;obtain⟨m',hm,w7⟩:=q7;obtain⟨J7,d7,o7,t7,f7⟩:=fin I7;exact{m',hm,i+1,out,aw,nn,H7,J7,d7,ZG,X2,o7,t7,f7,w7})|true=>rw[if_pos rfl]at q7⊢;refine br (he _ _ _ _ _ _ s7 UI H7 _ I7 q7) ?_;rintro v s8 ⟨y,H8,I8,r8,m',hm,w8⟩;obtain⟨J8,d8,o8,t8,f8⟩:=fin I8;have hsz:aw.toArray.size<=sizeLine:=(by rw[zp,<-X2.length];exact ZG);refine wpAny_list_append_plain (items:=aw.toArray) (hsz:=hsz) ⟨nn,o8⟩ ?_;rintro h9 ⟨n9,e9⟩ sb;have J9:Inv (gz X N scope C bQ jk fp<|X.pn++pins) [] (pick σ src) H8 {s8 with heap:=h9}:=J8.turned (t':=s8.toks) (it:=D) (λb o hb e=>(sb.2 b hb).trans e) d8 Tv (.inr Ae) (λx c e=>zD<|zr (IX x c<|i6 x c e) Ae) λp hp=>(by have hp:p∈X.pn++pins:=(by simpa [gz]using hp);exact zD<|zr (IY p hp) Ae);refine{m',hm,i+1,out++[y],aw++[v],n9,H8,J9,d8,?_,X2.append<|.cons r8 .nil,?_,T.keep _ _ _ t8 λb hb o e=>(sb.2 b λz=>Oz<|z ▸ hb).trans e,f8,w8};rw[zE];exact dY;rw[e9];simp
 exact codeAny_compStart_list (loop _ rfl)<|T.self _ _ _ _ _ (T.keep _ _ _ st λb hb o e=>old b o e)<|loop _ rfl
theorem Mm(S:bj X N src scope)(hc:X.calm=true)(hit:PI X tg iter wi)(hg:∀C s H ex pn,PG (gz X N scope C s H ex pn) tg g)(hx:Cp g src)(hi:∀C s H ex pn,Ts (gz X N scope C s H ex pn) ifs tc)(he:∀C s H ex pn,PE (gz X N scope C s H ex pn) elt te)(hs:autoParam (∀x,foldedSetIterable iter X.env x=pure x) qQ0):PE X (.ListComp elt [{tg,iter,ifs,0}] scope pos) (IW wi src g tc te):=by intro pins s σ H Q I h;rw[eval_ListComp];have BO:closureFor scope X.env=pure (clOf X.env.cells scope.names):=gL λy hy hf=>I.ok.has y.1<|S.BN y hy hf;refine wpAny_comprehension_free (use:=none) rfl hs BO S.kind S.loc<|br (hit pins s σ H _ I h) λv s1 h1=>br h1 λXT s2 h2=>?_;obtain⟨it,fp,tn,J,H2,e,I2,T,Oh,f2,W,w0,turn⟩:=h2;subst e;refine u7 (RR:=λacc C=>compPost (model X.prog X.w) X.A X.xe none (EP X pins σ Q) acc C) S hc hg hx hi he I2 T Oh f2 W w0 turn ?_;rintro D C s' ⟨H',m,I',q,hm,hn,h1,h2,h3,h4⟩;exact{m,hm,λh' sb=>{.ref D,H',I'.turned (t':=s'.toks) (it:=C) (λb o hb e=>(sb.2 b hb).trans e) hn h1 (.inr h2) h3 h4,rfl,q}}
theorem Cq{i:Nat}{x:Str}{pos' GA:Pos}(hN:X.N.Nodup)(Vh:X.N[i]?=some x)(uk:X.env.scope.names.lookup x=some .local)(S:bj X N src scope)(hc:X.calm=true)(hit:PI X tg iter wi)(hg:∀C s H ex pn,PG (gz X N scope C s H ex pn) tg g)(hx:Cp g src)(hi:∀C s H ex pn,Ts (gz X N scope C s H ex pn) ifs tc)(he:∀C s H ex pn,PE (gz X N scope C s H ex pn) elt te)(Vi:autoParam (swapsWith (.ListComp elt [{tg,iter,ifs,0}] scope pos) (some<|.Name x pos') GA.line X.env=pure true) qQJ)(hs:autoParam (∀x,foldedSetIterable iter X.env x=pure x) qQ0):PS X (.Assign [.Name x pos'] (.ListComp elt [{tg,iter,ifs,0}] scope pos) GA) (P6 (IW wi src g tc te)<|i5 i):=by
 intro pins s σ H D I h;rw[exec_Assign_Name_used _ _ _ _ Vi];refine zc<|wpAny_standAt<|zc ?_;have BO:closureFor scope X.env=pure (clOf X.env.cells scope.names):=gL λy hy hf=>I.ok.has y.1<|S.BN y hy hf;show wpAny _ X.A (do let _ <-comprehension (.ListComp elt [⟨tg,iter,ifs,0⟩] scope pos) scope X.env _ (newList []) false (eval iter X.env) (some (assign (.Name x pos') X.env))) _ _ s;refine zc<|yK (wpAny_comprehension_free (use:=some<|assign (.Name x pos') X.env) (Q:=λ_ s'=>∃aA H',Inv X pins aA H' s'/\D.nx aA H') rfl hs BO S.kind S.loc<|br (hit pins s σ H _ I h) λv s1 h1=>br h1 λXT s2 h2=>?_) (λ_ s' hq=>zo<|zo hq) λ_ _ e=>e;obtain⟨it,fp,tn,J,H2,e,I2,T,Oh,f2,W,w0,turn⟩:=h2;subst e;refine u7 (Q:=λv H1=>D.nx (σ.set i<|some v) H1) (RR:=λacc C=>compPost (model X.prog X.w) X.A X.xe (some<|assign (.Name x pos') X.env) (λ_ s'=>∃aA H',Inv X pins aA H' s'/\D.nx aA H') acc C) S hc hg hx hi he I2 T Oh f2 W w0 turn ?_;rintro D' C s' ⟨H',m,I',q,hm,hn,h1,h2,h3,h4⟩;show wpAny _ X.A (assign (.Name x pos') X.env<|.ref D') _ _ _;refine wpAny_assign_Name<|uS I' hN Vh (.inl uk) (v:=.ref D') rfl (λCc I'' ⟨a,sb,ha⟩=>?_)<|.inr uk;have hCa:C≠a:=by rcases ha with ha|ha;rw[ha];exact h1;exact Ne.symm<|h3 _ _ ha
 refine{m,hm.sameBut sb hCa,λh'' LD=>{_,H',I''.turned (t':=Cc.toks) (it:=C) (λb o hb e=>(LD.2 b hb).trans e) hn h1 (.inr h2) h3 h4,q}}
end
theorem og{σ:St}{src:List<|Option Nat}{i:Nat}(h:src[i]?=some none):(pick σ src)[i]?=some none:=by unfold pick;rw[zi,h];rfl
theorem Ext.set(h:σ0[i]?=some none)(e:Ext σ0 σ):Ext σ0 (σ.set i<|some v):=by
 refine{by rw[List.length_set];exact e.1,λj w hj=>?_};have:i≠j:=by rintro rfl;rw[h]at hj;cases hj
 rw[List.getElem?_set_ne this];exact e.2 j w hj
theorem Ext.refl(σ:St):Ext σ σ:={rfl,λ_ _ h=>h}
theorem EF{src:List<|Option Nat}{i:Nat}(h:src[i]?=some none):Cp (i5 i) src:=λx σ H Q q=>{(Ext.refl _).set<|og h,q}
theorem mH{K:Frag}{n:Nat}{src:List<|Option Nat}{i j:Nat}(h:src[i]?=some none)(h':src[j]?=some none):Cp (LX K n<|rB (i5 i)<|rB (i5 j) LW) src:=λx σ H Q q=>by obtain⟨a,xs,e1,hs,hl,v,r,e2,v2,r2,e3,e4,q⟩:=q;exact{a,xs,e1,hs,hl,v,r,e2,v2,r2,e3,e4,((Ext.refl _).set<|og h).set<|og h',q}
theorem all_bools{xs:dL}{aw:fv}{bs:wf}(hv:Vals xs aw)(hb:xs=bs.map V.bl):∀(i:Nat)(v:Value),aw.toArray[i]?=some v->v=Value.bool ((bs[i]?).getD false):=by
 subst hb;intro i v h;have h':aw[i]?=some v:=by simpa using h
 have hl:=hv.length;rw[zb]at hl;have hi:i<aw.length:=(zg.mp h').1;have hb:bs[i]?=some (bs[i]'(by lia)):=by simp
 obtain⟨u,hu,r⟩:=hv.get (i:=i) (x:=V.bl<|bs[i]'(by lia)) (by rw[zi,hb];rfl);rw[h']at hu;cases hu;rw[hb];exact r
theorem range_all{bs:wf} : (List.range bs.length).all (λi=>(bs[i]?).getD false)=bs.all id:=by rw[yk,z0,z0];constructor;intro h b hb;obtain⟨i,hi,rfl⟩:=List.mem_iff_getElem.mp hb;have:=h i<|zT.mpr hi;simpa [hi]using this;intro h i hi;have hi:=zT.mp hi;simpa [hi]using h _ (List.getElem_mem hi)
theorem range_any{bs:wf} : (List.range bs.length).any (λi=>(bs[i]?).getD false)=bs.any id:=by rw[yk,yx,yx];constructor;rintro⟨i,hi,h⟩;have hi:=zT.mp hi;exact{bs[i],List.getElem_mem hi,by simpa [hi]using h};rintro⟨b,hb,h⟩;obtain⟨i,hi,rfl⟩:=List.mem_iff_getElem.mp hb;exact{i,zT.mpr hi,by simpa [hi]using h}
section
variable{X:Cx}
theorem um(hc:X.calm=true):eN X (.builtin "all") (λxs H Q=>∃(a:Addr)(bs:wf),xs=[.ref a]/\jq X.K H a (bs.map V.bl)/\Q (.bl<|bs.all id) H):=by
 intro pins s σ H xs us Q I r h;obtain⟨a,bs,rfl,hq,q⟩:=h;obtain⟨u,rfl,ru⟩:=vals1 r;cases ru;obtain⟨aw,rv,p,hz⟩:=I.list hq;have hl:=rv.length;rw[zb]at hl;refine call_all_walk<|wpAny_pyIter_list p.isList ?_;refine{s.heap.objs.size,_,_,_,_,_,λi=>(bs[i]?).getD false,rfl,Walks.list (A:=X.A.in1) (I.ok.hd hc) s.heap.objs.size a (zD p.lt) aw.toArray,{{_,zm _ rfl,rfl,rfl},p.isList.at λo e=>za _ e},?_,λh' tk hk=>?_};intro i v s' Q' E' hv hQ;rw[all_bools rv rfl i v hv];exact yz hQ;have e:aw.toArray.size=bs.length:=by rw[zp,<-hl]
 rw[e,range_all];exact{.bl<|bs.all id,H,I.kept (h':=h') (t':=tk) λb o e=>hk b o (by simpa using zD (zw e))<|za _ e,rfl,q}
theorem uo(hc:X.calm=true):eN X (.builtin "any") (λxs H Q=>∃(a:Addr)(bs:wf),xs=[.ref a]/\jq X.K H a (bs.map V.bl)/\Q (.bl<|bs.any id) H):=by
 intro pins s σ H xs us Q I r h;obtain⟨a,bs,rfl,hq,q⟩:=h;obtain⟨u,rfl,ru⟩:=vals1 r;cases ru;obtain⟨aw,rv,p,hz⟩:=I.list hq;have hl:=rv.length;rw[zb]at hl;refine call_any_walk<|wpAny_pyIter_list p.isList ?_;refine{s.heap.objs.size,_,_,_,_,_,λi=>(bs[i]?).getD false,rfl,Walks.list (A:=X.A.in1) (I.ok.hd hc) s.heap.objs.size a (zD p.lt) aw.toArray,{{_,zm _ rfl,rfl,rfl},p.isList.at λo e=>za _ e},?_,λh' tk hk=>?_};intro i v s' Q' E' hv hQ;rw[all_bools rv rfl i v hv];exact yz hQ;have e:aw.toArray.size=bs.length:=by rw[zp,<-hl]
 rw[e,range_any];exact{.bl<|bs.any id,H,I.kept (h':=h') (t':=tk) λb o e=>hk b o (by simpa using zD (zw e))<|za _ e,rfl,q}
end
noncomputable def ownOf:HO->Option Addr|.ins _ dx _=>some dx|.lM _ u=>ownOf u|_=>none
structure Fg(H H' G:Hp):Prop where
 sub:∀b o,G b=some o->H' b=some o
 dom:∀b o,H b=some o->∃o',G b=some o'
 own:∀a o dx,G a=some o->ownOf o=some dx->(∃o',H a=some o'/\ownOf o'=some dx)\/∃o',G dx=some o'
theorem aD:bootBuiltins "len"= some (.builtin "len"):=PySem.boot_len
theorem e_:bootBuiltins "all"= some (.builtin "all"):=boot_all
theorem IZ:bootBuiltins "any"= some (.builtin "any"):=boot_any
theorem au:bootBuiltins "isinstance"= some (.builtin "isinstance"):=boot_isinstance
theorem rO:bootBuiltins "int"= some (.type "int"):=PyProof.Rows.boot_int
theorem Mn:bootBuiltins "bool"= some (.type "bool"):=PyProof.Rows.boot_bool
theorem jy:bootBuiltins "str"= some (.type "str"):=PyProof.Rows.boot_str
theorem bf:bootBuiltins "tuple"= some (.type "tuple"):=PyProof.Rows.boot_tuple
theorem Mp:bootBuiltins "dict"= some (.type "dict"):=PyProof.Rows.boot_dict
theorem QR:bootBuiltins "set"= some (.type "set"):=PyProof.Rows.boot_set
set_option genInjectivity true in
set_option genSizeOfSpec true in
inductive Kd where
 |av|bl|int|str|lst|tup|dM
 deriving DecidableEq
noncomputable def Kd.name:Kd->String|.av=>"NoneType" |.bl=>"bool" |.int=>"int" |.str=>"str" |.lst=>"list" |.tup=>"tuple" |.dM=>"dict"
inductive rP(H:Hp):V->Kd->Prop where
 |av:rP H .av .av
 |bl (b:Bool):rP H (.bl b) .bl
 |int (i:Int):rP H (.int i) .int
 |str (x:Str):rP H (.str x) .str
 |lst {a:Addr}{xs:dL} (e:H a=some (.lst xs)):rP H (.ref a) .lst
 |tup {a:Addr}{xs:dL} (e:H a=some (.tup xs)):rP H (.ref a) .tup
 |dM {a:Addr}{kvs:ge} (e:H a=some (.dK kvs)):rP H (.ref a) .dM
theorem rP.ty{K:Frag}{H:Hp}{x:V}{k:Kd}(h:rP H x k):n8 K H x (.type k.name):=by cases h with|av=>exact .av|bl b=>exact .bl b|int i=>exact .int i|str x=>exact .str x|lst e=>exact .lst e|tup e=>exact .tup e|dM e=>exact .dK e
noncomputable def Af(T:String):Option (Kd->Bool):=if T ="int" then some λk=>match k with|.int=>true|.bl=>true|_=>false else if T ="bool" then some λk=>match k with|.bl=>true|_=>false else if T ="str" then some λk=>match k with|.str=>true|_=>false else if T ="tuple" then some λk=>match k with|.tup=>true|_=>false else if T ="list" then some λk=>match k with|.lst=>true|_=>false else if T ="dict" then some λk=>match k with|.dM=>true|_=>false else none
theorem I0{K:Frag}{T:String}{g:Kd->Bool}(h:Af T=some g)(k:Kd):kitOne K (.type k.name) (.type T)=some (g k):=by unfold Af at h;split at h;rename_i e;subst e;cases h;cases k<;>rfl;split at h;rename_i e;subst e;cases h;cases k<;>rfl;split at h;rename_i e;subst e;cases h;cases k<;>rfl;split at h;rename_i e;subst e;cases h;cases k<;>rfl;split at h;rename_i e;subst e;cases h;cases k<;>rfl;split at h;rename_i e;subst e;cases h;cases k<;>rfl;cases h
section
variable{X:Cx}
theorem I9:eN X (.builtin "isinstance") (λxs H Q=>∃x T k g,xs=[x,.ty T]/\Af T=some g/\rP H x k/\Q (.bl<|g k) H):=by intro pins s σ H xs us Q I r h;obtain⟨x,T,k,g,rfl,hg,hk,q⟩:=h;obtain⟨v,w',rfl,rv,qk⟩:=vals2 r;cases qk;exact Gi I rv hk.ty (I0 hg k) λtk=>{.bl<|g k,H,I.tok tk,rfl,q}
end
mutual
def Dt(K:Frag)(H:Hp):PyData->V->Prop|.none,v=>v=.av|.bool b,v=>v=.bl b|.int i,v=>v=.int i|.str z,v=>v=.str z|.list ds,v=>∃a xs,v=.ref a/\jq K H a xs/\DtAll K H ds xs|.tuple ds,v=>∃a xs,v=.ref a/\i4 K H a xs/\DtAll K H ds xs|.dict _,_=>False
def DtAll(K:Frag)(H:Hp):List PyData->List V->Prop|[],xs=>xs=[]|d::ds,xs=>∃y ys,xs=y::ys/\Dt K H d y/\DtAll K H ds ys
end
section
variable{X:Cx}{pins:jp}{σ:St}{H:Hp}{s:Shared}
mutual
theorem Inv.reads(I:Inv X pins σ H s):∀(d:PyData){x:V}{u:Value},Dt X.K H d x->RelV x u->∃as,Reads s.heap u d as
 |.none,x,u,h,r=>by
  have h:x=.av:=by simpa only[Dt]using h
  subst h;cases r;exact{_,.none}
 |.bool b,x,u,h,r=>by
  have h:x=.bl b:=by simpa only[Dt]using h
  subst h;cases r;exact{_,.bool b}
 |.int i,x,u,h,r=>by
  have h:x=.int i:=by simpa only[Dt]using h
  subst h;obtain⟨t,rfl⟩:=r;exact{_,.int i t}
 |.str z,x,u,h,r=>by
  have h:x=.str z:=by simpa only[Dt]using h
  subst h;obtain⟨t,rfl⟩:=r;exact{_,.str z t}
 |.list ds,x,u,h,r=>by
  have h:∃a xs,x=.ref a/\jq X.K H a xs/\DtAll X.K H ds xs:=by simpa only[Dt]using h
  obtain⟨a,xs,rfl,hq,hd⟩:=h;cases r;obtain⟨aw,rv,p,_⟩:=I.list hq;obtain⟨as,ra⟩:=Inv.readsAll I ds hd rv;obtain⟨o,e,c,n,d⟩:=p.isList;exact{_,.list e c d<|by simpa using ra}
 |.tuple ds,x,u,h,r=>by
  have h:∃a xs,x=.ref a/\i4 X.K H a xs/\DtAll X.K H ds xs:=by simpa only[Dt]using h
  obtain⟨a,xs,rfl,hq,hd⟩:=h;cases r;obtain⟨aw,rv,p,_⟩:=I.tuple hq;obtain⟨as,ra⟩:=Inv.readsAll I ds hd rv;obtain⟨o,e,c,n,d⟩:=p;exact{_,.tuple e c d<|by simpa using ra}
 |.dict _,x,u,h,r=>by
  have h:False:=by simpa only[Dt]using h
  exact h.elim
theorem Inv.readsAll(I:Inv X pins σ H s):∀(ds:wl){xs:List V}{us:fv},DtAll X.K H ds xs->Vals xs us->∃as,ReadsAll s.heap us ds as
 |[],xs,us,h,r=>by
  have h:xs=[]:=by simpa only[DtAll]using h
  subst h;cases r;exact{_,.nil}
 |d::ds,xs,us,h,r=>by
  have h:∃y ys,xs=y::ys/\Dt X.K H d y/\DtAll X.K H ds ys:=by simpa only[DtAll]using h
  obtain⟨y,ys,rfl,h1,h2⟩:=h;cases r with|cons r1 r2=>obtain⟨as,ra⟩:=Inv.reads I d h1 r1;obtain⟨bs,rb⟩:=Inv.readsAll I ds h2 r2;exact{_,.cons ra rb}
end
end
def Vj(K:Frag)(neg:Bool):R2:=λx y H Q=>∃d e,Dt K H d x/\Dt K H e y/\d.canLay0=true/\e.canLay0=true/\(d.depth<=64\/e.depth<=64)/\Q (.bl<|if neg then !PyData.eqv d e else PyData.eqv d e) H
section
variable{X:Cx}
theorem I_(hu:X.A.units+64<cLine):iB X (compareOp .Eq) (Vj X.K false):=by intro pins s σ H x y v u Q I rx ry h;obtain⟨d,e,hd,he,cd,ce,dp,q⟩:=h;obtain⟨as,ra⟩:=I.reads d hd rx;obtain⟨bs,rb⟩:=I.reads e he ry;exact SeqAt.compareEq_reads ra rb cd ce (by rcases dp with dp|dp<;>lia)<|aJ I q rfl
theorem Ja(hu:X.A.units+64<cLine):iB X (compareOp .NotEq) (Vj X.K true):=by intro pins s σ H x y v u Q I rx ry h;obtain⟨d,e,hd,he,cd,ce,dp,q⟩:=h;obtain⟨as,ra⟩:=I.reads d hd rx;obtain⟨bs,rb⟩:=I.reads e he ry;exact SeqAt.compareNe_reads ra rb cd ce (by rcases dp with dp|dp<;>lia)<|aJ I q rfl
end
theorem kl(a b:Nat):HU ⟨#[a]⟩ ⟨#[b]⟩=decide (a<=b):=by
 unfold HU;have e:([b]<[a])↔b<a:=by rw[List.cons_lt_cons_iff];constructor;rintro (h|⟨_,h⟩);exact h;exact absurd h<|List.not_lt_nil _;exact .inl
 rw[yk];show(!decide ([b]<[a]))=true↔_;rw[Bool.not_eq_true',yq,e,decide_eq_true_iff];lia
def chkC(sc:Scope)(N0 N:lc)(src:List<|Option Nat)(scope:Scope):Bool :=
 decide (scope.kind=.function)&&(scope.names.all (λy=>decide (y.2≠.cell)&&(decide (y.2≠.local)||decide (scope.names.lookup y.1=some .local))&&(decide (y.2≠.free)||(decide (sc.names.lookup y.1=some .cell)||decide (sc.names.lookup y.1=some .free)))) &&
  (decide (src.length=N.length)&&(List.range src.length).all λi=>match src[i]?,N[i]? with
   |some (some j),some x=>decide (N0[j]?=some x)&&(decide (scope.names.lookup x=some .free)&&(decide (sc.names.lookup x=some .cell)||decide (sc.names.lookup x=some .free)))
   |_,_=>true))
theorem Vk(sc:Scope)(N0:lc)(hs:X.env.scope=sc)(hN:X.N=N0)(h:chkC sc N0 N src scope=true):bj X N src scope:=by unfold chkC at h;simp only[zI,zR,z0,Bool.or_eq_true]at h;obtain⟨h1,h2,h3,h4⟩:=h;refine{h1,λy hy=>(h2 y hy).1.1,λy hy e=>?_,λy hy e=>?_,h3,λi j x e1 e2=>?_};rcases (h2 y hy).1.2 with z|z;exact absurd e z;exact z;rcases (h2 y hy).2 with z|z;exact absurd e z;show X.env.scope.names.lookup y.1=some .cell\/X.env.scope.names.lookup y.1=some .free;rw[hs];exact z;have hi:i<src.length:=(zg.mp e1).1;have q:=h4 i<|zT.mpr hi;rw[e1,e2]at q;simp only[zI,zR,Bool.or_eq_true]at q;refine{by rw[hN];exact q.1,q.2.1,?_};unfold PH;rw[hs];exact .inr q.2.2
theorem qQ(h0:0<=i)(h1:i<l.length):∃v,gZ l i=some v/\l[i.toNat]?=some v:=by
 obtain⟨j,rfl⟩:=Int.eq_ofNat_of_zero_le h0;have hj:j<l.length:=by lia
 exact{l[j],bu<|by simp[hj],by simp[hj]}
theorem bS{c:Bool}{A B:Prop}(h:c=true->A)(h':c=false->B):if c=true then A else B:=by cases c with|true=>exact h rfl|false=>exact h' rfl
theorem nt(h:(!b)=true):b=false:=by cases b<;>simp_all
theorem nf(h:(!b)=false):b=true:=by cases b<;>simp_all
noncomputable def Cr:Kd->Bool|.int=>true|.bl=>true|_=>false
noncomputable def wb:Kd->Bool|.bl=>true|_=>false
noncomputable def Cs:Kd->Bool|.str=>true|_=>false
noncomputable def rQ:Kd->Bool|.tup=>true|_=>false
theorem Mq:Af "int"= some Cr:=if_pos rfl
theorem Jb:Af "bool"= some wb:=(if_neg<|by decide).trans<|if_pos rfl
theorem cP:Af "str"= some Cs:=(if_neg<|by decide).trans<|(if_neg<|by decide).trans<|if_pos rfl
theorem aY:Af "tuple"= some rQ:=(if_neg<|by decide).trans<|(if_neg<|by decide).trans<|(if_neg<|by decide).trans<|if_pos rfl
theorem len_pos{z:Str}(h:1<=z.cps.size):∃c r,z.cps.toList=c::r:=by cases e:z.cps.toList with|nil=>have:z.cps.toList.length=0:=(by rw[e];rfl);rw[ya]at this;lia|cons c r=>exact⟨c,r,rfl⟩
theorem at0(e:l=c::r):gZ l 0=some c:=by
 have:l[0]?=some c:=by rw[e];rfl
 exact bu (j:=0) this
def isPlain:Expr->Bool|.Starred _ _=>false|_=>true
theorem Ct(h:isPlain e=true):starEach (e::es) env=(false,eval e env)::starEach es env:=by cases e<;>first|rfl|exact absurd h zd
theorem ZI{t:TA}(ha:PE X e te)(hr:PA X es t)(hp:autoParam (isPlain e=true) qQJ):PA X (e::es) (Oq te t):=L9 ha hr<|Ct hp
end L2
namespace HT
open PySem PyProof.Rows
open PySem.SeqAt
open PySem.AutoSeq1 (wpAny_loadPart')
open PySem.MeetsSeq PySem.MeetsSeq2 PySem.MeetsSeq3
end HT
namespace L2
open PySem PySem.Spec PyProof.Rows
def Jc(c:Value)(e:Addr)(h:Heap):Prop:=∃o vs,h.get? e=some o/\o.data=.fields vs/\vs[2]?=some c
section
variable{M:Model}{A:Around}{E:li}{s:Shared}{base:Heap}{env:Env}{outer:j4}{L e:Addr}{a0 c fl:Value}
theorem Vl(x6:A.frames=some (env::outer))(hl:s.heap.FunFrames base<|env::outer)(hf:env.frame=some L)(he:s.heap.get? e=some oe)(HV:base.StaysIn s.heap)(u9:base.get? e=none)(hd:oe.data=.fields vs)(h0:vs[0]?=some a0)(h2:vs[2]?=some c)(h:∀h',Heap.NotedW base (env::outer) e oe.cls a0 (rawInt L) s.heap h'->Jc c e h'->Q () {s with heap:=h'}): wpAny M A (do let x <-frameOf env;let y <-entryPlaceOf L nx;let z <-EntryCells.newEntry head x .none (rawInt L) .none y;setField (.ref e) 1 z) Q E s:=by
 have hsz:1<vs.size:=by have:=(Array.getElem?_eq_some_iff.mp h2).1;lia
 have nfr:e∉(env::outer).filterMap (·.frame):=λm=>by obtain⟨_,o,q,n⟩:=hl.mem m;rw[he]at q;cases q;exact n vs hd
 refine zc<|wpAny_frameOf_fun x6 hl hf λg sg=>?_;refine zc<|wpAny_entryPlaceOf λpl dG=>?_;unfold EntryCells.newEntry newFields;refine zc<|yj ?_<|dG.sizeOk5 _ _ _ _ _;have g1:g.get? e=some oe:=(sg.2.1 e nfr).trans he;have kg:base.StaysIn g:=λb o q=>(sg.2.1 b λm=>by rw[(hl.mem m).1]at q;cases q).trans<|HV b o q;have t3:((([head,.ref L,.none,rawInt L,.none]++(if pl.isEmpty then List.replicate 6 Value.none else pl)).toArray:im))[3]?=some (rawInt L):=by rcases dG with rfl|⟨_,_,_,_,_,_,_,rfl⟩<;>simp
 generalize htb:(([head,.ref L,.none,rawInt L,.none]++(if pl.isEmpty then List.replicate 6 Value.none else pl)).toArray:im)=ts at t3;have g2:=za (h:=g) {cls:=.type "traceback",dict:=none,data:=.fields ts} g1;refine yU g2 hd hsz<|h _ ?_ ?_;have ne:g.objs.size≠e:=yr<|zw g1;have d3:=yC hd (·.setIfInBounds 1 (Value.ref g.objs.size));have e3:=yA (Obj.mapFields (·.setIfInBounds 1 (Value.ref g.objs.size))) g2<|Obj.isFreed_of_fields d3;have T3:=(yw (g.push {cls:=.type "traceback",dict:=none,data:=.fields ts}) (Obj.mapFields (·.setIfInBounds 1 (Value.ref g.objs.size)))<|Ne.symm ne).trans<|zm g rfl;have keep:∀b o,b≠e->g.get? b=some o->((g.push {cls:=.type "traceback",dict:=none,data:=.fields ts}).update e (Obj.mapFields (·.setIfInBounds 1 (Value.ref g.objs.size)))).get? b=some o:=λb o n q=>by rw[yw _ _<|Ne.symm n];exact za _ q
 have Ag:∀b o,s.heap.get? b=some o->(∀vs,o.data≠.fields vs)->b≠e:=λb o q n z=>by rw[z,he]at q;cases q;exact n vs hd
 refine{λb o q=>keep b o (λz=>by rw[z,u9]at q;cases q)<|kg b o q,hl.of_keeps λb o q n=>?_,?_,λb o q n=>?_};obtain⟨sl,z⟩:=sg.2.2 b o q;exact{_,keep b _ (Ag b o q n) z,rfl};exact{_,_,g.objs.size,_,_,e3,{Obj.cls_mapFields _ _,by rw[Array.getElem?_setIfInBounds_ne<|by decide];exact h0},d3,by simp[hsz],kg.fresh,ne,T3,rfl,t3};obtain⟨sl,z⟩:=sg.2.2 b o q;exact{sl,keep b _ (Ag b o q n) z};have d3:=yC hd (·.setIfInBounds 1 (Value.ref g.objs.size));exact{_,_,yA (Obj.mapFields (·.setIfInBounds 1 (Value.ref g.objs.size))) g2<|Obj.isFreed_of_fields d3,d3,by rw[Array.getElem?_setIfInBounds_ne<|by decide];exact h2}
theorem setC(HV:base.StaysIn s.heap)(u9:base.get? e=none)(hl:s.heap.FunFrames base l)(ht:s.heap.TracedAtW base e cls a0 fl)(hc:Jc c e s.heap)(h:∀h',Heap.FlyingW base l e cls a0 h'->s.heap.UpToSlots h'->Jc c e h'->Q () {s with heap:=h'}):wpAny M A (setFlight (.ref e) none) Q E s:=by
 obtain⟨o,vs,T,oT,ts,q,hk,hd,q1,nT,ne,qT,dT,q3⟩:=ht;obtain⟨o',ZJ,q',BW,q2⟩:=hc;rw[q]at q';cases q';rw[hd]at BW;cases BW;have hs3:3<ts.size:=(Array.getElem?_eq_some_iff.mp q3).1;have Mr:∀b,b≠T->(s.heap.update T (Obj.mapFields (·.setIfInBounds 3 ((none:re).elim Value.none λf=>rawInt f)))).get? b=s.heap.get? b:=λb n=>yw _ _<|Ne.symm n;have Ag:∀b o,s.heap.get? b=some o->(∀vs,o.data≠.fields vs)->b≠T:=λb o z n w=>by rw[w,qT]at z;cases z;exact n ts dT
 have qe:=(Mr e<|Ne.symm ne).trans q;unfold setFlight;refine zc<|yb q hd q1 ?_;rw[if_pos<|show(Value.ref T != Value.none)=true by simp];refine yU qT dT hs3<|h _ {λb o z=>(Mr b λw=>by rw[w,nT]at z;cases z).trans<|HV b o z,u9,hl.of_keeps λb o z n=>{o,(Mr b<|Ag b o z n).trans z,rfl},?_} (λb o z n=>{o.slots,(Mr b<|Ag b o z n).trans z}) ⟨o,vs,qe,hd,q2⟩;exact{o,vs,T,_,_,qe,hk,hd,q1,nT,ne,yA _ qT<|Obj.isFreed_of_fields<|yC dT _,yC dT _,by simp[hs3]}
theorem Vm(x6:A.frames=some (env::outer))(hf:env.frame=some L)(HV:base.StaysIn s.heap)(u9:base.get? e=none)(hl:s.heap.FunFrames base<|env::outer)(ht:s.heap.TracedAtW base e cls a0 fl)(hc:Jc c e s.heap)(h:∀h',Heap.HeldW base (env::outer) e cls a0 L h'->s.heap.UpToSlots h'->Jc c e h'->Q () {s with heap:=h'}):wpAny M A (noteFrame (.ref e) env) Q E s:=by
 by_cases Vn:fl=rawInt L;subst Vn;exact wpAny_noteFrame_againW hf ht<|h s.heap ⟨HV,u9,hl,ht⟩ (.refl _) hc;obtain⟨o,vs,T,oT,ts,q,⟨hk,h0⟩,hd,q1,nT,ne,qT,dT,q3⟩:=ht;obtain⟨o',ZJ,q',BW,q2⟩:=hc;rw[q]at q';cases q';rw[hd]at BW;cases BW;subst hk;have Mr:∀b,b≠T->(s.heap.update T (Obj.mapFields (·.setIfInBounds 3 Value.none))).get? b=s.heap.get? b:=λb n=>yw _ _<|Ne.symm n;have Ag:∀b o,s.heap.get? b=some o->(∀vs,o.data≠.fields vs)->b≠T:=λb o z n w=>by rw[w,qT]at z;cases z;exact n ts dT
 unfold noteFrame;simp only[hf];refine zc<|yb q hd q1 ?_;rw[if_pos<|show(Value.ref T != Value.none)=true by simp];refine zc<|yb qT dT q3 ?_;rw[if_neg<|show ¬((fl==rawInt L)=true) by simpa using Vn];refine zc<|yU qT dT (Array.getElem?_eq_some_iff.mp q3).1 ?_;refine Vl x6 (hl.of_keeps λb o z n=>{o,(Mr b<|Ag b o z n).trans z,rfl}) hf ((Mr e<|Ne.symm ne).trans q) (λb o z=>(Mr b λw=>by rw[w,nT]at z;cases z).trans<|HV b o z) u9 hd h0 q2 λh' x y=>?_;obtain⟨x1,x2,x3,x4⟩:=x;exact h h' ⟨x1,u9,x2,x3⟩ (λb o z n=>x4 b o ((Mr b<|Ag b o z n).trans z) n) y
theorem QS(x6:A.frames=some (env::outer))(hf:env.frame=some L)(HV:base.StaysIn s.heap)(u9:base.get? e=none)(hl:s.heap.FunFrames base<|env::outer)(he:s.heap.get? e=some oe)(hd:oe.data=.fields vs)(h0:vs[0]?=some a0)(h1:vs[1]?=some .none)(h2:vs[2]?=some c)(h:∀h',Heap.HeldW base (env::outer) e oe.cls a0 L h'->s.heap.UpToSlots h'->Jc c e h'->Q () {s with heap:=h'}):wpAny M A (noteFrame (.ref e) env) Q E s:=by unfold noteFrame;simp only[hf];refine zc<|yb he hd h1 ?_;rw[if_neg<|by decide];refine Vl x6 hl hf he HV u9 hd h0 h2 λh' x y=>?_;obtain⟨x1,x2,x3,x4⟩:=x;exact h h' ⟨x1,u9,x2,x3⟩ x4 y
theorem QT(x6:A.frames=some (env::outer))(hf:env.frame=some L)(HV:base.StaysIn s.heap)(u9:base.get? e=none)(hl:s.heap.FunFrames base<|env::outer)(ht:s.heap.TracedAtW base e cls a0 fl)(hc:Jc c e s.heap)(h:∀h',Heap.FlyingW base outer e cls a0 h'->s.heap.UpToSlots h'->Jc c e h'->Q () {s with heap:=h'}):wpAny M A (leaving env<|.ref e) Q E s:=by unfold leaving;refine zc<|Vm x6 hf HV u9 hl ht hc λh' x u y=>?_;obtain⟨x1,x2,x3,x4⟩:=x;refine setC x1 x2 x3 x4 y λh2 z u2 y2=>?_;obtain⟨z1,z2,⟨_,_,z3⟩,z4⟩:=z;exact h h2 ⟨z1,z2,z3,z4⟩ (u.trans u2) y2
theorem Ms(x6:A.frames=some (env::outer))(hf:env.frame=some L)(HV:base.StaysIn s.heap)(u9:base.get? e=none)(hl:s.heap.FunFrames base<|env::outer)(he:s.heap.get? e=some oe)(hd:oe.data=.fields vs)(h0:vs[0]?=some a0)(h1:vs[1]?=some .none)(h2:vs[2]?=some c)(h:∀h',Heap.FlyingW base outer e oe.cls a0 h'->s.heap.UpToSlots h'->Jc c e h'->Q () {s with heap:=h'}):wpAny M A (leaving env<|.ref e) Q E s:=by unfold leaving;refine zc<|QS x6 hf HV u9 hl he hd h0 h1 h2 λh' x u y=>?_;obtain⟨x1,x2,x3,x4⟩:=x;refine setC x1 x2 x3 x4 y λh2 z u2 y2=>?_;obtain⟨z1,z2,⟨_,_,z3⟩,z4⟩:=z;exact h h2 ⟨z1,z2,z3,z4⟩ (u.trans u2) y2
end
theorem bt.get(x:bt P w H h a o):∃u,h.get? a=some u:=by cases o with|lst xs=>(obtain⟨_,_,_,_,e⟩:=x;exact{_,e})|tup xs=>(obtain⟨_,_,_,ob,e,_⟩:=x;exact{_,e})|dK kvs=>(obtain⟨_,_,_,_,o,_,_,e,_⟩:=x;exact{_,e})|dT kvs=>exact False.elim x|set S n=>(obtain⟨o,_,_,_,e,_⟩:=x;exact{_,e})|ins C dx fs=>(obtain⟨_,_,_,e,_⟩:=x;exact{_,e})|own y=>(obtain⟨_,e⟩:=x;exact{_,e})|xd fs=>(obtain⟨_,⟨_,_,_,e,_⟩,_⟩:=x;exact{_,e})|XM lo hi=>(obtain⟨_,_,_,e⟩:=x;exact{_,e})|lM ob u=>(obtain⟨e,_⟩:=x;exact{_,e})|qH ps=>exact{_,show h.get? a=some _ from x}|met f y=>exact{_,show h.get? a=some _ from x}|ext φ=>obtain⟨_,e,_⟩:=x;exact e
structure ZK(P:Program)(w:World)(mg:Str->Option Value)(outer:j4)(H H':Hp)(h0:Heap)(a:Addr)(cls a0:Value)(B h:Heap):Prop where
 fl:Heap.FlyingW B outer a cls a0 h
 aN:lN P w H' B
 keep:∀b o,h0.get? b=some o->H b=none->b∉nY outer->B.get? b=some o
 there:∀b o,h0.get? b=some o->b∉nY outer->∃o',B.get? b=some o'
 slot:∀b o,h0.get? b=some o->b∈nY outer->∃sl,h.get? b=some {o with slots:=sl}
 free:∀b o,h0.get? b=some o->H b=none->H' b=none
 mz:∀b xs,H b=some (.tup xs)->H' b=some (.tup xs)
 lO:∀b o u,H b=some (.lM o u)->H' b=some (.lM o u)
 lP:∀b ps,H b=some (.qH ps)->∃more,H' b=some (.qH<|ps++more)
 cx:Jc .none a h\/mg "NoMark"= some cls
def fH(P:Program)(w:World)(mg:Str->Option Value):Cb:=λouter H s E e s'=>∃a cls a0 B H',e=.ref a/\s'.os=s.os/\AllBare s'.gens/\ZK P w mg outer H H' s.heap a cls a0 B s'.heap/\E cls none H'
structure cZ(X:Cx)(E:XK):Prop where
 ex:X.ex=[]
 st:X.stack=X.env::X.outer
 fr:X.env.frame=some X.env.locals
 xe:∀e s',wpAny (model X.prog X.w) X.A (leaving X.env e) (λ_ Cc=>fH X.prog X.w X.mg X.outer X.vX X.dw E e Cc) (λe' Cc=>fH X.prog X.w X.mg X.outer X.vX X.dw E e' Cc) s'->X.xe e s'
theorem u_{P:Program}{w:World}{K:Frag}{mg:Str->Option Value}{base:Heap}{N:lc}{qual:Str}{scope:Scope}{f:Addr}{cd:Value}{A:Around}{outer:j4}{s:Shared}{H:Hp}{E:XK} : cZ (kH (fH P w mg) P w K mg base N qual scope f cd A outer s H E) E:={rfl,rfl,rfl,λ_ _ h=>h}
section
variable{X:Cx}{pins:jp}{σ:St}{H H':Hp}{s:Shared}{E E':XK}
theorem cZ.mem(L:cZ X E):b∈nY X.stack↔b=X.env.locals\/b∈X.fs:=by unfold Cx.fs nY;rw[L.st,List.filterMap_cons,L.fr];exact zk
theorem cZ.FV(L:cZ X E)(I:Inv X pins σ H s)(e:X.dw.heap.get? b=some o)(h:b∉X.fs):b∉nY X.stack:=λz=>by rcases L.mem.mp z with z|z;have:=zw e;have h2:=I.ok.above;rw[z]at this;exact absurd (zr this h2)<|yD _;exact h z
theorem cZ.fly(L:cZ X E)(I:Inv X pins σ H s)(F:ZK X.prog X.w X.mg X.stack H H' s.heap a cls a0 B h)(f2:Heap.FlyingW B X.outer a cls a0 h2)(u2:h.UpToSlots h2)(c2:Jc .none a h2\/X.mg "NoMark"= some cls):
  ZK X.prog X.w X.mg X.outer X.vX H' X.dw.heap a cls a0 B h2 where
 cx:=c2
 fl:=f2
 aN:=F.aN
 keep:=λb o e n hf=>F.keep b o (I.base.keep b o e n hf<|by rw[L.ex];simp) (I.base.free b o e n<|by rw[L.ex];simp)<|L.FV I e hf
 there:=λb o e hf=>by
  obtain⟨o',q⟩:=I.base.there b o e<|by rw[L.ex];simp
  exact F.there b o' q<|L.FV I e hf
 slot:=λb o e hf=>by
  obtain⟨sl,q⟩:=I.base.slot b o e (I.ok.PK b hf) hf<|by rw[L.ex];simp
  obtain⟨sl1,q1⟩:=F.slot b _ q<|L.mem.mpr<|.inr hf
  obtain⟨_,o2,q2,hd⟩:=F.fl.2.2.1.mem<|L.mem.mpr<|.inr hf
  obtain⟨Vo,q3⟩:=u2 b o2 q2 hd
  rw[q1]at q2;cases q2
  exact⟨Vo,q3⟩
 free:=λb o e n=>by
  obtain⟨o',q⟩:=I.base.there b o e<|by rw[L.ex];simp
  exact F.free b o' q<|I.base.free b o e n<|by rw[L.ex];simp
 mz:=λb xs e=>F.mz b xs<|I.base.mz b xs e
 lO:=λb o u e=>F.lO b o u<|I.base.lO b o u e
 lP:=λb ps e=>by
  obtain⟨m1,q1⟩:=I.base.lP b ps e
  obtain⟨m2,q2⟩:=F.lP b _ q1
  exact{m1++m2,by rw[q2,Array.append_assoc]}
theorem Vp(L:cZ X E)(hE:∀c d H',E' c d H'->E c d H'):Passes (fH X.prog X.w X.mg) X E':=λpins σ H s e s' I h=>by
 obtain⟨a,cls,a0,B,H',rfl,os,bare,F,q⟩:=h;refine L.xe _ _ ?_;have x6:X.A.frames=some (X.env::X.outer):=by rw[I.ok.frames,L.st]
 have fl:Heap.FlyingW B (X.env::X.outer) a cls a0 s'.heap:=by rw[<-L.st];exact F.fl
 rcases F.cx with hc|hc;obtain⟨f1,f2,f3,f4⟩:=fl;exact QT x6 L.fr f1 f2 f3 f4.at hc λh2 f2 u2 c2=>{a,cls,a0,B,H',rfl,os.trans I.os,bare,L.fly I F f2 u2<|.inl c2,hE _ _ _ q};exact wpAny_leaves_onW x6 L.fr fl λh2 f2 u2=>{a,cls,a0,B,H',rfl,os.trans I.os,bare,L.fly I F f2 u2<|.inr hc,hE _ _ _ q}
theorem QU(I:Inv X pins σ H s):lN X.prog X.w H (hideAll s.heap<|nY X.stack):=λa o e=>(I.aN a o e).qh (λb u hb q=>hideAll_get _ q λz=>by have n:=I.qI b z;rcases hb with rfl|hb;rw[e]at n;cases n;rw[hb]at n;cases n) (λ_ q=>q) λ_ _ q=>q
theorem Cu(L:cZ X E)(I:Inv X pins σ H s)(hk:∀b o,s.heap.get? b=some o->h'.get? b=some o)(hn:s.heap.get? a=none)(he:h'.get? a=some oe)(hd:oe.data=.fields vs)(h0:vs[0]?=some a0)(h1:vs[1]?=some .none)(h2:vs[2]?=some c)(hc:c=.none\/X.mg "NoMark"= some oe.cls)(hE:E oe.cls none H):X.xe (.ref a) {s with heap:=h'}:=by
 refine L.xe _ _ ?_;have x6:X.A.frames=some (X.env::X.outer):=by rw[I.ok.frames,L.st]
 have Tw:∀env∈X.stack,∀b,env.frame=some b->b∈nY X.stack:=λenv he b hb=>List.mem_filterMap.mpr ⟨env,he,hb⟩;have ff:s.heap.FunFrames (hideAll s.heap<|nY X.stack) (X.env::X.outer):=by rw[<-L.st];exact PySem.W.funFrames_hide I.stack Tw
 have hb:(hideAll s.heap<|nY X.stack).get? a=none:=by cases z:(hideAll s.heap<|nY X.stack).get? a with|none=>rfl|some o=>have:=of_hideAll _ z;rw[hn]at this;cases this
 refine Ms (base:=hideAll s.heap<|nY X.stack) x6 L.fr (λb o q=>hk b o<|of_hideAll _ q) hb (ff.of_keeps λb o q _=>{o,hk b o q,rfl}) he hd h0 h1 h2 λh2 x1 x4 c2=>?_;refine{a,oe.cls,a0,_,H,rfl,I.os,I.bare,{x1,QU I,λb o e n hf=>?_,λb o e hf=>?_,λb o e hf=>?_,λb o e n=>I.base.free b o e n<|by rw[L.ex];simp,I.base.mz,I.base.lO,I.base.lP,?_},hE};exact hideAll_get _ (I.base.keep b o e n hf<|by rw[L.ex];simp)<|L.FV I e hf;obtain⟨o',q⟩:=I.base.there b o e (by rw[L.ex];simp);exact{o',hideAll_get _ q<|L.FV I e hf};obtain⟨sl,q⟩:=I.base.slot b o e (I.ok.PK b hf) hf (by rw[L.ex];simp);obtain⟨_,o2,q2,hd⟩:=I.qj.mem hf;obtain⟨Vo,q3⟩:=x4 b o2 (hk _ _ q2) hd;rw[q]at q2;cases q2;exact⟨Vo,q3⟩;rcases hc with rfl|hc;exact .inl c2;exact .inr hc
theorem pH(L:cZ X E)(I:Inv X pins σ H s)(hx:Heap.MadeExcOf s.heap h' a cls args)(hE:E cls none H):X.xe (.ref a) {s with heap:=h'}:=by obtain⟨t,he,_,_⟩:=hx.there;exact Cu L I (λb o q=>hx.keeps b o q) hx.new he rfl rfl rfl rfl (.inl rfl) hE
end
abbrev oh:List Value:=[.type "ValueError",.type "Exception",.type "BaseException",.type "object"]
structure XC(K:Frag)(C:Addr):Prop where
 q:excIn K C oh "ValueError.__new__"= true
def ZL(h:Heap)(C:Addr)(bm:fv):Prop:=∃N nm q bs hdct sn sub ab col dd k0 k1 k2 k3 k5 mN,h.get? C=some (excClassObj nm q C N bs bm hdct sn sub ab col dd k0 k1 k2 k3 k5 "ValueError.__new__")/\h.Ns N mN/\mN "__init__"= none/\OwnTail h oh bm
theorem XC.at{K:Frag}{C:Addr}{h:Heap}(x:XC K C)(X:K.In h):∃bm,ZL h C bm:=by have q:=x.q;unfold excIn at q;split at q;rename_i dd cd sl ho;split at q;rename_i C' bm' k0 k1 k2 k3 n k5 hm hs;simp only[zI,beq_iff_eq,Bool.not_eq_true']at q;obtain⟨⟨⟨⟨⟨q1,q2⟩,Vq⟩,ht⟩,aN⟩,X3⟩:=q;subst q1;subst q2;obtain⟨nm,bs,mro,ns,qn,hd,sn,sub,ab,col,del⟩:=cd;dsimp only at hm Vq aN X3;subst hm;subst Vq;obtain⟨sl⟩:=sl;dsimp only at hs;subst hs;exact{bm',ns,nm,qn,bs,hd,sn,sub,ab,col,dd,k0,k1,k2,k3,k5,_,X _ _ ho,.of_isNs<|PySem.W.isNs_of_in X aN,PySem.W.nsMap_none_of_in X aN X3,PySem.W.tail_of_in X ht};cases q;cases q
def ZM(a:Addr)(cls:Value):HO:=.ext λh=>∃o vs,h.get? a=some o/\o.cls=cls/\o.data=.fields vs
abbrev TX:=(St->XK)->TS
noncomputable def Ends.less(D:Ends)(i:Nat):Ends:={nx:=λσ H=>D.nx (σ.set i none) H,rt:=D.rt,bk:=λσ H=>D.bk (σ.set i none) H,ct:=λσ H=>D.ct (σ.set i none) H}
structure XA(K:Frag)(C:Addr):Prop where
 ga:findIn K (.ref C) "__getattribute__"= some (some<|.builtin "BaseException.__getattribute__")
 gh:findIn K (.ref C) "__getattr__"= some none
 cl:findIn K (.ref C) "__class__"= some (some<|.builtin "object.__class__")
section
variable{X:Cx}
theorem OA(L:cZ X E):Passes (fH X.prog X.w X.mg) X E:=Vp L λ_ _ _ h=>h
end
noncomputable def i7(l:lc):lc:=l.foldl (λc x=>if x∈c then c else c++[x]) []
theorem Ah(l:lc)(x:Str):i7 (l++[x])=if x∈i7 l then i7 l else i7 l++[x]:=by unfold i7;rw[List.foldl_append];rfl
theorem Mt:∀(l:lc),(i7 l).length<=l.length:=λl=>by
 have all:∀(r c:lc),(r.foldl (λc x=>if x∈c then c else c++[x]) c).length<=c.length+r.length:=by intro r;induction r with|nil=>intro c;simp|cons x r ih=>intro c;rw[yQ];refine zJ (ih _) ?_;split<;>simp<;>try lia
 simpa [i7]using all l []
section
variable{prog:Program}{w:World}{A:Around}{R:Result->Shared->Prop}{I:Addr}{fp wr:io}{G:Array GenState->Array GenState->Prop}{n:Nat}{P:Nat->Value->Prop}{St:Nat->Shared->Prop}
theorem Je(W:WalksS prog w A.in1 I fp wr G n P St)(S:Addr)(hSf:S∉fp)(xs:lc)(hx:xs.length=n)(QV:∀i v,P i v->∃x t,xs[i]?=some x/\v=.str x t)(hb:n+1<scanBound): ∀(k i:Nat)(s:Shared),i+k=n->St i s->s.heap.SetOf (strKind prog w) S (λy=>decide<|y∈i7 (xs.take i)) (i7<|xs.take i).length->(∀s',Moved (S::wr) G s s'->s'.heap.SetOf (strKind prog w) S (λy=>decide<|y∈i7 xs) (i7 xs).length->R (.ok<|.ret .none) s')->codeAny (model prog w) A (.builtin "set.update.loop" {[.ref S,.ref I],[]}) R s:=by have nw:S∉wr:=λh=>hSf<|W.sub _ h;have up:∀b∈wr,b∈S::wr:=λb hb=>zf _ hb;have mv:∀{i:Nat}{s s':Shared},Moved wr G s s'->s.heap.SetOf (strKind prog w) S (λy=>decide<|y∈i7 (xs.take i)) (i7<|xs.take i).length->s'.heap.SetOf (strKind prog w) S (λy=>decide<|y∈i7 (xs.take i)) (i7<|xs.take i).length:=λhm ⟨o,es,ep,tb,ho,rest⟩=>{o,es,ep,tb,hm.heap S _ nw ho,rest};intro k;induction k with|zero=>intro i s hk uf hS hR;have e:i=n:=(by lia);subst e;refine yR F.entry_set_update_loop ?_;rw[Around.under_plainId F.plain_set_update_loop _];show wpAny _ A.in1 (pyNext (.ref I) >>=_) _ _ s;refine zc<|W.done s _ _ uf λs' hm=>?_;show wpAny _ A.in1 (ret Value.none) _ _ s';have q:=mv hm hS;rw[<-hx,yI]at q;exact zo (hR s' (hm.mono up) q)|succ k ih=>intro i s hk uf hS hR;have lt:i<n:=(by lia);refine yR F.entry_set_update_loop ?_;rw[Around.under_plainId F.plain_set_update_loop _];show wpAny _ A.in1 (pyNext (.ref I) >>=_) _ _ s;refine zc<|W.item i s _ _ lt uf λv s' hP QW hm=>?_;obtain⟨x,t,ex,rfl⟩:=QV i v hP;have q:=mv hm hS;show wpAny _ A.in1 (holding [Value.str x t] (setAdd S<|.str x t) >>=_) _ _ s';refine zc<|yJ ?_;unfold setAdd;refine yJ ?_;refine zc<|(strKind prog w).pyHash (k:=x) (strKind_is _ _ _ _) ?_;have room:(i7<|xs.take i).length+1<scanBound:=(by have:=Mt<|xs.take i;rw[yi]at this;lia);refine wpAny_setAddHashed_of (knd:=strKind prog w) (s:={s' with toks:=s'.toks+1}) (strKind_is _ _ _ _) rfl q room λh' Mu q2=>?_;have tk:xs.take (i+1)=xs.take i++[x]:=(by rw[List.take_succ,ex];rfl);have qi:h'.SetOf (strKind prog w) S (λy=>decide<|y∈i7 (xs.take<|i+1)) (i7<|xs.take<|i+1).length:=(by refine SetOf_congr q2 (λy=>?_) ?_;rw[tk,Ah];by_cases h:x∈i7 (xs.take i);rw[if_pos h];by_cases hy:y=x;subst hy;simp[h];simp[hy];rw[if_neg h];simp;rw[tk,Ah];by_cases h:x∈i7 (xs.take i);rw[if_pos h,if_pos<|by simpa using h];rw[if_neg h,if_neg<|by simpa using h];simp);refine zo {plainId_quiet F.plain_set_update_loop _,ih (i+1) _ (by lia) (W.frame _ s' _ _ QW (yM _) λb hb o e=>?_) qi λCc QX ZQ=>?_};rw[Mu.2 b (λh:b=S=>hSf<|by rw[<-h];exact hb)];exact e;refine hR Cc (Moved.trans W.gtrans ((hm.mono up).then_heap (yM _) λb o hb e=>?_) QX) ZQ;rw[Mu.2 b (λh:b=S=>hb<|by rw[h];exact zj)];exact e
theorem Ai(hh:A.handled=none)(hl:s.heap.IsList l items)(hx:xs.length=items.size)(hi:∀(i:Nat)(v:Value),items[i]?=some v->∃x t,xs[i]?=some x/\v=.str x t)(hb:items.size+1<scanBound)(h:∀(h':Heap)(tk:Nat),h'.SetOf (strKind prog w) s.heap.objs.size (λy=>decide<|y∈i7 xs) (i7 xs).length->(∀b o,b<s.heap.objs.size->s.heap.get? b=some o->h'.get? b=some o)->Q (.ref s.heap.objs.size) {s with heap:=h',toks:=tk}): wpAny (model prog w) A (call (.type "set") [.ref l]) Q E s:=by
 obtain⟨c,tl,m0⟩:=F.called_set.mro;have m1:=F.called_set.made;have m2:=F.called_set.sub;refine wpAny_call<|codeAny_of_tree ?_;show wpAny _ _ (callAny (.type "set") _) _ _ _;refine zo {Code.quiet_builtin _<|by trivial,yR F.entry_type_call ?_};rw[Around.under_plain (weight_type_call_type "set" [.ref l] []) rfl];have m3:=F.called_set.notType;have m4:=F.called_set.canCreate;have m5:=F.typeCall_set_1<|.ref l;repeat (any_goals (first|assumption|wp_step))
 refine yW (code_set_new_1 (.ref l) (E:=E) (Q₁:=λob s1=>∃led:Bool,ob=.ref s.heap.objs.size/\s1={s with heap:=s.heap.push {cls:=.type "set",dict:=none,data:=.set #[] 0 (.fresh 0 0 led)}}) λled=>⟨led,rfl,rfl⟩) λr s1 hr=>?_
 cases r with
 |error e=>exact hr
 |ok fl =>
  cases fl with
  |ret ob =>
   obtain⟨led,rfl,rfl⟩:=hr;generalize hO:({cls:=.type "set",dict:=none,data:=.set #[] 0 (.fresh 0 0 led)} : Obj)=O;have gS:(s.heap.push O).get? s.heap.objs.size=some O:=zm _ (by rw[<-hO];rfl);have tS:Shared.TypeIs {s with heap:=s.heap.push O} (.ref s.heap.objs.size) "set":={_,gS,by rw[<-hO]};have i1:=F.called_set.init.lookup;have i2:=F.called_set.init.bind<|.ref s.heap.objs.size;(repeat (any_goals (first|assumption|wp_step)));refine yW (codeAny_call_builtin (R:=wants (λr s2=>r=.none/\∃h' tk,s2={s with heap:=h',toks:=tk}/\h'.SetOf (strKind prog w) s.heap.objs.size (λy=>decide<|y∈i7 xs) (i7 xs).length/\(∀b o,b<s.heap.objs.size->s.heap.get? b=some o->h'.get? b=some o)) E) F.called_set.init.plain F.entry_set_init<|check_set_init_1 tS ?_) λr2 s2 ZR=>?_
   ·obtain⟨ol,gl,cl,nl,dl⟩:=hl;obtain⟨ad6,Vs,ach,QY⟩:=ol;simp only at cl dl;subst cl;subst dl;have Vt:(s.heap.push O).get? l=some {cls:=.type "list",dict:=Vs,data:=.seq items nl,slots:=QY}:=za _ gl;have j1:=F.sub_list_set;have j2:=F.sub_list_frozenset;have j3:(Value.type "list"== Value.type "dict")=false:=(by decide);have il:(s.heap.push O).IsList l items:={_,Vt,rfl,nl,rfl};subst hO;unfold Builtin.«set.__init__» noKeywords Builtin.Frozenset.updateFrom;generalize hPI:pyIter=PI;wp_walk;subst hPI;refine wpAny_pyIter_list il ?_;refine zc<|wpAny_runValue ?_;have ll:l<s.heap.objs.size:=zw gl;have h3:A.in1.in1.in1.handled=none:=(by simp[hh]);have ne:l≠(s.heap.push {cls:=.type "set",dict:=none,data:=.set #[] 0 (.fresh 0 0 led)}).objs.size:=(by rw[yd];exact zD<|Nat.lt_succ_of_lt ll);have nf:s.heap.objs.size∉[(s.heap.push {cls:=.type "set",dict:=none,data:=.set #[] 0 (.fresh 0 0 led)}).objs.size,l]:=(by rw[yd];simp only[zk,zK,zO,or_false,not_or];exact{zD<|Nat.lt_succ_self _,yr ll});refine Je ((Walks.list h3 _ l ne items).toS) s.heap.objs.size nf xs hx hi hb (items.size-0) 0 _ (by lia) {{_,zm _ rfl,rfl,rfl},(il.push _)} ?hS0 ?hR
    case hS0 =>
     have gg:=za {cls:=.type "list_iterator",data:=.fields #[.ref l,.int 0 0]} gS
     exact SetOf_congr ((setObjOf_fresh (knd:=strKind prog w) led).setOf gg<|by unfold scanBound;lia) (λ_=>rfl) rfl
    case hR =>
     intro s' hm q
     obtain⟨h',g',d',Tx,UT⟩:=s'
     have eg:g'=s.gens:=hm.gens;have ed:d'=s.drawn:=hm.drawn;have eo:UT=s.os:=hm.os
     subst eg;subst ed;subst eo
     show wpAny _ _ _ _ _ _;refine zo ?_;show wpAny _ _ (ret Value.none) _ _ _
     refine zo {rfl,h',Tx,rfl,q,λb o hb e=>?_}
     have b2:b≠(s.heap.push {cls:=.type "set",dict:=none,data:=.set #[] 0 (.fresh 0 0 led)}).objs.size:=by rw[yd];exact zD<|Nat.lt_succ_of_lt hb
     refine hm.heap b o ?_<|za _<|za _ e
     simp only[zk,zK,zO,or_false,not_or];exact{zD hb,b2}
   {cases r2 with|error e=>exact ZR|ok f2=>cases f2 with|ret r=>(obtain⟨rfl,h',tk,rfl,q,k'⟩:=ZR;(repeat (any_goals (first|assumption|wp_step)));exact h _ _ q k')|_=>exact ZR.elim}
  |_=>exact hr.elim
end
noncomputable def QZ(P:Program)(w:World)(a:Addr)(xs:lc):HO:=.ext λh=>h.SetOf (strKind P w) a (λy=>decide<|y∈i7 xs) (i7 xs).length
theorem Mv(q:h.SetOf (strKind P w) a (λy=>decide<|y∈i7 xs) (i7 xs).length):bt P w H h a (QZ P w a xs):=by obtain⟨o,es,ep,t,ho,rest⟩:=id q;exact{q,⟨o,ho⟩,by rintro h1 h2 ⟨o,es,ep,t,ho,rest⟩ k;exact{o,es,ep,t,k _ ho,rest}}
theorem Aj:∀{xs:lc}{aw:fv},Vals (xs.map V.str) aw->∀(i:Nat)(v:Value),aw[i]?=some v->∃x t,xs[i]?=some x/\v=.str x t|[],_,.nil,i,v,e=>by simp at e|x::xs,_,.cons r rs,0,v,e=>(by obtain⟨t,q⟩:=r;simp at e;exact{x,t,rfl,by rw[<-e];exact q})|x::xs,_,.cons r rs,i+1,v,e=>by obtain⟨y,t,e1,e2⟩:=Aj rs i v (by simpa using e);exact{y,t,by simpa using e1,e2}
section
variable{X:Cx}
theorem GB{P:Program}{w:World}{K:Frag}(hP:X.prog=P)(hw:X.w=w)(hK:X.K=K)(hc:X.calm=true): eN X (.type "set") (λvs H Q=>∃p xs,vs=[.ref p]/\jq K H p (xs.map V.str)/\xs.length<4000/\∀l,H l=none->Q (.ref l) (upd H l<|QZ P w l xs)):=by
 subst hP;subst hw;subst hK;intro pins s σ H vs us Q I r h;obtain⟨p,xs,rfl,hq,hz,q⟩:=h;obtain⟨u,rfl,rx⟩:=vals1 r;cases rx;obtain⟨aw,r',pl,_⟩:=I.list hq;have hlen:xs.length=aw.toArray.size:=by have:=r'.length;simpa using this
 refine Ai (I.ok.hd hc) pl.isList hlen (λi v e=>Aj r' i v<|by simpa using e) (by rw[<-hlen];unfold scanBound;lia) λh' tk qs kp=>?_;refine{.ref s.heap.objs.size,_,I.laid (t':=tk) (λb o e=>kp b o (zw e) e) (zq _)<|Mv qs,rfl,q _<|I.aN.fresh<|zq _}
theorem GC(hP:X.prog=P)(hw:X.w=w):eN X (.builtin "len") (λvs H Q=>∃a xs,vs=[.ref a]/\H a=some (QZ P w a xs)/\Q (.int (i7 xs).length) H):=by subst hP;subst hw;intro pins s σ H vs us Q I r h;obtain⟨a,xs,rfl,ha,q⟩:=h;obtain⟨u,rfl,rx⟩:=vals1 r;cases rx;obtain⟨⟨o,es,ep,t,ho,hex,hd,Vu,Q0,hb,hf,hn⟩,_⟩:=I.aN a _ ha;refine call_len_set ho hex hd hf (by unfold scanBound at hb;lia) ?_;exact{.int (i7 xs).length,H,I.tok _,{_,by rw[hn]},q}
end
theorem vd(l:lc):(i7 l).length=l.length↔l.Nodup:=by
 have all:∀(r c:lc),c.Nodup->((r.foldl (λc x=>if x∈c then c else c++[x]) c).length=c.length+r.length↔(c++r).Nodup):=by intro r;induction r with|nil=>intro c hc;simpa using hc|cons x r ih=>intro c hc;rw[yQ];by_cases h:x∈c;{rw[if_pos h];have le:(r.foldl (λc x=>if x∈c then c else c++[x]) c).length<=c.length+r.length:=(by have all2:∀(r c:lc),(r.foldl (λc x=>if x∈c then c else c++[x]) c).length<=c.length+r.length:=(by intro r;induction r with|nil=>intro c;simp|cons x r ih=>intro c;rw[yQ];refine zJ (ih _) ?_;split<;>simp<;>try lia);exact all2 r c);refine{λe=>by simp at e;lia,λe=>?_};exact absurd rfl<|(List.nodup_append.mp e).2.2 x h x<|by simp};rw[if_neg h];have PN:(c++[x]).Nodup:=mF hc h;have:=ih (c++[x]) PN;simp only[zE,zQ,List.length_nil,List.append_assoc,List.singleton_append]at this⊢;rw[<-this];constructor<;>intro e<;>lia
 simpa [i7]using all l [] List.nodup_nil
theorem i8:entryFor table "dict.update.loop"= some Builtin.«dict.update.loop»:=entryFor_of_tree<|by kernel_rfl
theorem dj:plainId "dict.update.loop"= true:=by trivial
theorem uq:typeLookup (.type "tuple") "keys"= pure none:=by rw[typeLookup_type,builtinLookup_eq_fast];kernel_rfl
section
variable{prog:Program}{w:World}{A:Around}{E:li}{s:Shared}
theorem ur(hx:s.heap.get? a=some o)(hc:o.cls=.type "tuple")(Vv:o.data=.seq xs k)(hd:o.dict=none)(hA:A.handled=none)(h:∀h' tk,(∀b ob,s.heap.get? b=some ob->h'.get? b=some ob)->Q none {s with heap:=h',toks:=tk}):wpAny (model prog w) A (getAttr? (.ref a) "keys") Q E s:=by
 obtain⟨c,dM,dat,sl⟩:=o;simp only at hc Vv hd;subst hc Vv hd;obtain⟨hp,g,d,tk,os⟩:=s;have hT:∀Tx,(⟨hp,g,d,Tx,os⟩:Shared).TypeIs (.ref a) "tuple":=λ_=>{_,hx,rfl};have f1:=sub_AttributeError;have f3:=F.slot_tuple_getattribute.lookup;have f4:=F.slot_tuple_getattribute.bind<|.ref a;have f5:=am_tuple_getattr_none;unfold getAttr? getAttrBy? getAttrBy;repeat (any_goals (first|assumption|exact hT _|((with_reducible show wpAny _ _ (call (Value.builtin "tuple.__getattribute__") _ _) _ _ _);refine call_meets F.slot_tuple_getattribute (hT _) am_entry_tuple_getattribute (F.args_tuple_getattribute_2 _ _) (meets_getattribute_miss_tuple a xs k sl "keys" _ uq (by trivial)<|by size_fits) {hx,hA,λh' Tx e FW=>?_})|wp_step))
 obtain⟨t',u',he⟩:=FW.there;show wpAny _ _ (getattributeRaised _ _ _ _ _ _ _) _ _ _;unfold getattributeRaised;repeat (any_goals (first|assumption|wp_step))
 exact h _ _ FW.keeps
end
section
variable{prog:Program}{w:World}{A:Around}{R:Result->Shared->Prop}{I:Addr}{fp wr:io}{G:Array GenState->Array GenState->Prop}{n:Nat}{P:Nat->Value->Prop}{St:Nat->Shared->Prop}
theorem GF(W:WalksS prog w A.in1 I fp wr G n P St)(D:Addr)(hDf:D∉fp)(kvs:wn)(hx:kvs.length=n)(base:Heap)(QV:∀i v,P i v->∃(b:Addr) (k:Key) (key val:Value) (o:Obj) (m:Nat),kvs[i]?=some (k,val)/\v=.ref b/\(aH prog w).is k key=true/\base.get? b=some o/\o.cls=.type "tuple"/\o.data=.seq #[key,val] m/\b≠D/\b∉wr)(hb:n<=sizeLine): ∀(k i:Nat) (s:Shared) (c:Int) (t:Tok),i+k=n->St i s->s.heap.DictOf (aH prog w) D (merged []<|kvs.take i)->(∀b o,base.get? b=some o->b≠D->b∉wr->s.heap.get? b=some o)->(∀s',Moved (D::wr) G s s'->s'.heap.DictOf (aH prog w) D (merged [] kvs)->R (.ok<|.ret .none) s')->codeAny (model prog w) A (.builtin "dict.update.loop" {[.ref D,.ref I,.int c t,.none],[]}) R s:=by have nw:D∉wr:=λh=>hDf<|W.sub _ h;have up:∀b∈wr,b∈D::wr:=λb hb=>zf _ hb;intro k;induction k with|zero=>(intro i s c t hk uf hS hB hR;have e:i=n:=(by lia);subst e;refine yR i8 ?_;rw[Around.under_plainId dj _];show wpAny _ A.in1 (pyNext (.ref I) >>=_) _ _ s;refine zc<|W.done s _ _ uf λs' hm=>?_;show wpAny _ A.in1 (Builtin.Dict.addKeywords D [] >>=_) _ _ s';have q:s'.heap.DictOf (aH prog w) D (merged []<|kvs.take i):=(by obtain⟨o,es,ep,ho,rest⟩:=hS;exact{o,es,ep,hm.heap D _ nw ho,rest});rw[<-hx,yI]at q;exact zc<|zo<|zo<|hR s' (hm.mono up) q)|succ k ih=>intro i s c t hk uf hS hB hR;have lt:i<n:=(by lia);refine yR i8 ?_;rw[Around.under_plainId dj _];show wpAny _ A.in1 (pyNext (.ref I) >>=_) _ _ s;refine zc<|W.item i s _ _ lt uf λv s' hP QW hm=>?_;obtain⟨b,ky,key,val,o,m,ek,rfl,Qm,ho,hc,hd,hbD,hbw⟩:=QV i v hP;have q:s'.heap.DictOf (aH prog w) D (merged []<|kvs.take i):=(by obtain⟨o,es,ep,ho,rest⟩:=hS;exact{o,es,ep,hm.heap D _ nw ho,rest});have hb':s'.heap.get? b=some o:=hm.heap b o hbw<|hB b o ho hbD hbw;have room:(merged []<|kvs.take i).length<=sizeLine:=(by have:=merged_length_le ([]:wn)<|kvs.take i;rw[yi]at this;simp at this;lia);have tk:merged [] (kvs.take<|i+1)=stored (merged []<|kvs.take i) ky val:=merged_take_succ [] kvs i (ky,val) ek;refine zc<|yJ<|zc<|wpAny_tryCatch ?_;unfold Builtin.Dict.pairItems;refine zc<|wpAny_typeOf (T:="tuple") ⟨o,hb',hc⟩ ?_;show wpAny _ A.in1 (seqItems? (.ref b) >>=_) _ _ s';refine zc<|wpAny_seqItems hb' hd<|zo ?_;show wpAny _ A.in1 (holding [key,val]<|dictSet D key val) _ _ s';refine yJ<|wpAny_dictSet_pairs Qm q (λh' q2 Mu=>?_) room;rw[<-tk]at q2;refine zo {plainId_quiet dj _,ih (i+1) _ _ _ (by lia) (W.frame _ s' _ _ QW (yM _) λb hb o e=>?_) q2 (λb o e h1 h2=>?_) λCc QX ZQ=>?_};rw[Mu.2 b (λh:b=D=>hDf<|by rw[<-h];exact hb)];exact e;rw[Mu.2 b h1];exact hm.heap b o h2<|hB b o e h1 h2;refine hR Cc (Moved.trans W.gtrans ((hm.mono up).then_heap (yM _) λb o hb e=>?_) QX) ZQ;rw[Mu.2 b (λh:b=D=>hb<|by rw[h];exact zj)];exact e
theorem uu(hh:A.handled=none)(gl:s.heap.get? l=some ol)(cl:ol.cls=.type "tuple")(dl:ol.data=.seq items m)(nl:ol.dict=none)(hx:kvs.length=items.size)(hi:∀(i:Nat) (v:Value),items[i]?=some v->∃(b:Addr) (k:Key) (key val:Value) (o:Obj) (m:Nat),kvs[i]?=some (k,val)/\v=.ref b/\(aH prog w).is k key=true/\s.heap.get? b=some o/\o.cls=.type "tuple"/\o.data=.seq #[key,val] m)(hb:items.size<=sizeLine)(h:∀(h':Heap) (tk:Nat),h'.DictOf (aH prog w) s.heap.objs.size (merged [] kvs)->(∀b o,s.heap.get? b=some o->h'.get? b=some o)->Q (.ref s.heap.objs.size) {s with heap:=h',toks:=tk}): wpAny (model prog w) A (call (.type "dict") [.ref l]) Q E s:=by
 refine callType_codes (Q₁:=λobj ba=>obj=.ref s.heap.objs.size/\ba={s with heap:=s.heap.push {cls:=.type "dict",data:=.dict #[]}}) F.kt_called_dict (F.kt_typeCall_dict_1 _) F.entry_dict_init (kt_code_dict_new _ ⟨rfl,rfl⟩) ?_;rintro obj ba ⟨rfl,rfl⟩;have Q1:(s.heap.push {cls:=.type "dict",data:=.dict #[]}).DictOf (aH prog w) s.heap.objs.size []:=Heap.DictOf.new s.heap;have Vt:(s.heap.push {cls:=.type "dict",data:=.dict #[]}).get? l=some ol:=za _ gl;refine{Q1.typeIs,F.args_dict_init_2 _ _,?_};unfold Builtin.«dict.__init__»;refine zc ?_;unfold Builtin.Dict.selfAndRest;refine zc<|wpAny_notOrdered_dict Q1.typeIs ?_;show wpAny _ _ (pure (s.heap.objs.size,[Value.ref l])) _ _ _;refine zo ?_;show wpAny _ _ (Builtin.Dict.updateFrom "dict.__init__" s.heap.objs.size (.ref l) [] .none) _ _ _;unfold Builtin.Dict.updateFrom;refine zc<|wpAny_typeOf (T:="tuple") ⟨ol,Vt,cl⟩ ?_;rw[if_pos<|by decide];have h3:A.in1.in1.handled=none:=by simp[hh]
 refine zc<|ur Vt cl dl nl h3 λh1 tk1 X4=>?_;have g1:h1.get? l=some ol:=X4 _ _ Vt;have d1:h1.DictOf (aH prog w) s.heap.objs.size []:=by obtain⟨o,es,ep,ho,rest⟩:=Q1;exact{o,es,ep,X4 _ _ ho,rest}
 have lD:s.heap.objs.size<h1.objs.size:=by obtain⟨o,es,ep,ho,rest⟩:=d1;exact zw ho
 have ll:l<s.heap.objs.size:=zw gl;show wpAny _ _ (rule _ >>=_) _ _ _;refine zc<|yX ?_;have it1:h1.IsTuple l items:=⟨ol,g1,cl,m,dl⟩;refine zc<|wpAny_pyIter_tuple (s:=⟨h1,s.gens,s.drawn,tk1,s.os⟩) it1 ?_;have ne:l≠h1.objs.size:=zD<|Nat.lt_trans ll lD;have nf:s.heap.objs.size∉[h1.objs.size,l]:=by simp only[zk,zK,zO,or_false,not_or];exact{zD lD,yr ll}
 refine zo {plainId_quiet dj _,?_};refine GF ((Walks.tuple h3 _ l ne items).toS) s.heap.objs.size nf kvs hx s.heap (λi v e=>?_) hb (items.size-0) 0 _ _ _ (by lia) {{_,zm _ rfl,rfl,rfl},it1.push _} ?hS0 ?hB ?hR;obtain⟨b,k,key,val,o,m',e1,e2,e3,e4,e5,e6⟩:=hi i v e;have lb:=zw e4;exact{b,k,key,val,o,m',e1,e2,e3,e4,e5,e6,zD lb,by simp;exact zD<|Nat.lt_trans lb lD};case hS0=>exact d1.push _
 case hB=>exact λb o e GG ZS=>za _<|X4 _ _<|za _ e
 case hR =>
  intro s' hm q
  obtain⟨h',g',d',Tx,UT⟩:=s'
  have eg:g'=s.gens:=hm.gens;have ed:d'=s.drawn:=hm.drawn;have eo:UT=s.os:=hm.os
  subst eg;subst ed;subst eo
  refine{rfl,h h' Tx q λb o e=>?_}
  have lb:=zw e
  refine hm.heap b o ?_<|za _<|X4 _ _<|za _ e
  simp only[zk,zK,zO,or_false,not_or];exact{zD lb,zD<|Nat.lt_trans lb lD}
end
noncomputable def EG(l:ii):ge:=l.foldl (λc p=>putK c (.inr p.1) p.2) []
def Prs(H:Hp)(ps:dL)(kvs:ii):Prop:=kvs.length=ps.length/\∀(i:Nat)(x:V)(p:Str×V),ps[i]?=some x->kvs[i]?=some p->∃b,x=.ref b/\H b=some (.tup [.str p.1,p.2])
section
variable{X:Cx}
theorem Cv(hc:X.calm=true):eN X (.type "dict") (λvs H Q=>∃p ps kvs,vs=[.ref p]/\H p=some (.tup ps)/\Prs H ps kvs/\∀l,H l=none->Q (.ref l) (upd H l<|.dK<|EG kvs)):=by
 intro pins s σ H vs us Q I r h;obtain⟨p,ps,kvs,rfl,hp,⟨hl,hq⟩,q⟩:=h;obtain⟨u,rfl,rx⟩:=vals1 r;cases rx;obtain⟨hz,aw,rv,ol,gl,cl,nl,m,dl⟩:=(show bt X.prog X.w H s.heap p (.tup ps) from I.aN p _ hp);have hlen:=rv.length;have each:∀(i:Nat)(x:V)(pr:Str×V),ps[i]?=some x->kvs[i]?=some pr->∃(b:Addr)(key val:Value)(o:Obj)(m:Nat),aw[i]?=some (.ref b)/\(aH X.prog X.w).is (.inr pr.1) key=true/\RelV pr.2 val/\s.heap.get? b=some o/\o.cls=.type "tuple"/\o.data=.seq #[key,val] m:=by intro i x pr e1 e2;obtain⟨b,rfl,hb⟩:=hq i x pr e1 e2;obtain⟨u,e3,ru⟩:=rv.get e1;cases ru;obtain⟨_,it2,r2,o,go,co,no,m2,do2⟩:=(show bt X.prog X.w H s.heap b (.tup [.str pr.1,pr.2]) from I.aN b _ hb);obtain⟨k',v',rfl,⟨tk,rfl⟩,rv'⟩:=r2.two;exact{b,_,v',o,m2,e3,jr _ _ _ _,rv',go,co,by simpa using do2}
 have kv:∃vals:wn,KV (kvs.map λp=>((.inr p.1:Key),p.2)) vals/\∀(i:Nat)(x:V),ps[i]?=some x->∃(b:Addr)(k:Key)(key val:Value)(o:Obj)(m:Nat),vals[i]?=some (k,val)/\aw[i]?=some (.ref b)/\(aH X.prog X.w).is k key=true/\s.heap.get? b=some o/\o.cls=.type "tuple"/\o.data=.seq #[key,val] m:=by clear hp q rv dl hz;induction kvs generalizing ps aw with|nil=>refine{[],.nil,λi x e=>?_};have:ps=[]:=List.eq_nil_of_length_eq_zero (by simpa using hl.symm);subst this;simp at e|cons pr r ih=>cases ps with|nil=>simp at hl|cons y ys=>cases aw with|nil=>simp at hlen|cons w0 ws=>obtain⟨b,key,val,o,m,e1,e2,e3,e4,e5,e6⟩:=each 0 y pr rfl rfl;obtain⟨vals,k1,k2⟩:=ih ys (by simpa using hl) (λi x p a b=>hq (i+1) x p (by simpa using a)<|by simpa using b) ws (by simpa using hlen) (λi x p a b=>by simpa using each (i+1) x p (by simpa using a) (by simpa using b));refine{(.inr pr.1,val)::vals,.cons ⟨rfl,e3⟩ k1,λi x e=>?_};cases i with|zero=>exact{b,.inr pr.1,key,val,o,m,rfl,e1,e2,e4,e5,e6}|succ i=>simpa using k2 i x (by simpa using e)
 obtain⟨vals,kv1,kv2⟩:=kv;have lv:vals.length=aw.length:=by have:=kv1.length;rw[zb]at this;lia
 refine uu (kvs:=vals) (I.ok.hd hc) gl cl dl nl (by simpa using lv) (λi v e=>?_) (by simp;lia) λh' tk qs kp=>?_;have e':aw[i]?=some v:=by simpa using e
 have hi:i<aw.length:=(zg.mp e').1;obtain⟨b,k,key,val,o,m',e1,e2,e3,e4,e5,e6⟩:=kv2 i (ps[i]'(by lia))<|ze _;rw[e']at e2;exact{b,k,key,val,o,m',e1,zS e2,e3,e4,e5,e6};have rel:KV (EG kvs) (merged [] vals):=by have all:∀(l:ii)(vl:wn)(c:ge)(cv:wn),KV (l.map λp=>((.inr p.1:Key),p.2)) vl->KV c cv->KV (l.foldl (λc p=>putK c (.inr p.1) p.2) c) (merged cv vl):=(by intro l;induction l with|nil=>(intro vl c cv h1 h2;cases h1;exact h2)|cons p r ih=>intro vl c cv h1 h2;cases h1 with|@cons _ q _ qs r1 r2=>obtain⟨k,v⟩:=q;obtain⟨rfl,rv⟩:=r1;exact ih qs _ _ r2<|h2.put _ rv);exact all kvs vals [] [] kv1 .nil
 have big:=I.big;refine{.ref s.heap.objs.size,_,I.laid (t':=tk) (λb o e=>kp b o e) (zq _) (o:=.dK<|EG kvs) {?_,?_,_,rel,qs},rfl,q _<|I.aN.fresh<|zq _};have e1:=rel.length;have e2:=merged_length_le ([]:wn) vals;simp at e2;lia;simp;exact yr big
theorem smz(h:n<=1000):n<=sizeLine:=yL<|kj h
end
abbrev mI(h:Heap)(T:Addr)(arr:Array Value):Prop:=h.get? T=some {cls:=.type "tuple",data:=.seq arr}
theorem wc(hs:Heap.ExtBut b h h')(n:a≠b)(x:h.IsTupleIter a l i):h'.IsTupleIter a l i:=x.extBut hs n
theorem OB{h h':Heap}{a l:Addr}{i:Nat}(k:∀o,h.get? a=some o->h'.get? a=some o)(x:h.IsTupleIter a l i):h'.IsTupleIter a l i:=by obtain⟨o,e,r⟩:=x;exact{o,k o e,r}
section
variable{prog:Program}{w:World}{A:Around}{E:li}{s:Shared}
theorem ZT(h:n<=3):n<=sizeLine:=smz<|zJ h<|by decide
theorem GH(hT:mI s.heap T arr)(hz:arr.size<=3)(h:∀h',mI h' T (arr.setIfInBounds k x)->Heap.SameBut T s.heap h'->Q () {s with heap:=h'}):wpAny (model prog w) A (updateSeq T (·.setIfInBounds k x)) Q E s:=by refine wpAny_updateSeq hT rfl (h _ ?_<|yE ..) (hz:=ZT hz) (_hz':=by have:=ZT hz;simp;lia);show Heap.get? _ _=_;rw[yA _ hT rfl];simp[Obj.mapSeq]
theorem Cy(hit:s.heap.IsTupleIter it l i)(hl:s.heap.IsTuple l items)(hx:items[i]?=some x)(hQ:∀h',h'.IsTupleIter it l (i+1)->Heap.SameBut it s.heap h'->Q x {s with heap:=h'}): wpAny (model prog w) A (Builtin.SmallTypes.nextOf<|.ref it) Q E s:=by obtain⟨o,ho,hc,hd⟩:=id hit;obtain⟨ol,Q2,_,nl,Mw⟩:=hl;unfold Builtin.SmallTypes.nextOf;refine zc<|wpAny_callSpecial?_slot (name:=Str.ofString "__next__") hit.typeIs F.slot_tuple_iterator_next<|yH F.slot_tuple_iterator_next hit.typeIs F.entry_tuple_iterator_next ?_<|F.args_tuple_iterator_next_1 _;show wpAny _ _ (field (.ref it) 0 >>=_) _ _ s;refine zc<|yb ho hd (x:=.ref l) rfl ?_;show wpAny _ _ (if (Value.ref l==Value.none)=true then _ else _) _ _ s;rw[if_neg<|show ¬((Value.ref l==Value.none)=true) from zd];show wpAny _ _ (field (.ref it) 1 >>=_) _ _ s;refine zc<|yb ho hd (x:=.int i 0) rfl ?_;show wpAny _ _ (seqItems? (.ref l) >>=_) _ _ s;refine zc<|wpAny_seqItems Q2 Mw ?_;simp only[Int.toNat_natCast,hx];refine zc<|yU ho hd (by simp)<|zo {x,rfl,zo<|hQ _ {_,yA _ ho<|Obj.isFreed_of_fields<|yC hd _,(Obj.cls_mapFields ..).trans hc,by rw[yC hd];simp[rawInt]}<|yE ..}
theorem rR(hh:A.handled=none)(hit:s.heap.IsTupleIter it l i)(hl:s.heap.IsTuple l items)(hx:items[i]?=none)(hE:∀h' e,Heap.ExtBut it s.heap h'->(∃o,h'.get? e=some o/\o.cls=.type "StopIteration")->E (.ref e) {s with heap:=h'}):wpAny (model prog w) A (Builtin.SmallTypes.nextOf<|.ref it) Q E s:=by
 obtain⟨o,ho,hc,hd⟩:=id hit;obtain⟨ol,Q2,_,nl,Mw⟩:=hl;unfold Builtin.SmallTypes.nextOf;refine zc<|wpAny_callSpecial?_slot (name:=Str.ofString "__next__") hit.typeIs F.slot_tuple_iterator_next<|yH F.slot_tuple_iterator_next hit.typeIs F.entry_tuple_iterator_next ?_<|F.args_tuple_iterator_next_1 _;show wpAny _ _ (field (.ref it) 0 >>=_) _ _ s;refine zc<|yb ho hd (x:=.ref l) rfl ?_;show wpAny _ _ (if (Value.ref l==Value.none)=true then _ else _) _ _ s;rw[if_neg<|show ¬((Value.ref l==Value.none)=true) from zd];show wpAny _ _ (field (.ref it) 1 >>=_) _ _ s;refine zc<|yb ho hd (x:=.int i 0) rfl ?_;show wpAny _ _ (seqItems? (.ref l) >>=_) _ _ s;refine zc<|wpAny_seqItems Q2 Mw ?_;simp only[Int.toNat_natCast,hx];refine zc<|yX<|zc<|yU ho hd (by simp) ?_;show wpAny _ _ (newExc (.type "StopIteration") [] >>=_) _ _ _;refine zc ?_;simp only[newExc,newTuple];refine zc<|yj ?_ (by size_fits);refine zc (m:=firstArgMember _ _)<|yY (a:=Value.none) (by first|rfl|(simp only[firstArgMember];rfl)) ?_;refine yj ?_ (by size_fits);simp only[raiseNew];refine zc<|wpAny_handled ?_;first|rw[show A.in1.handled=none from hh]|rw[hh]
 refine zc<|zo<|wpAny_throw<|hE _ _ (((yE ..).extBut.push _).push _) {_,zm _ rfl,rfl}
end
def ZS2(n l0 l1:Nat)(i:Nat)(h:Heap):Prop:=IsZip h (n+4) (n+2) (n+3) .none/\mI h (n+2) #[.ref n,.ref<|n+1]/\(∃arr:im,arr.size=2/\mI h (n+3) arr)/\h.IsTupleIter n l0 i/\h.IsTupleIter (n+1) l1 i
section
variable{X:Cx}{pins:jp}{σ:St}{H:Hp}{s:Shared}{h':Heap}
theorem Inv.Mx(I:Inv X pins σ H s)(wr:io)(hw:∀b∈wr,ug X pins H b)(k:∀b o,b∉wr->s.heap.get? b=some o->h'.get? b=some o):Inv X pins σ H {s with heap:=h',toks:=t'}:=by refine I.step (g':=s.gens) (d':=s.drawn) (ch:=wr) (λb hb=>by obtain⟨_,a,_,c,d,e⟩:=hw b hb;exact⟨c,a,d,e⟩) (λb o _ _ hc e _=>k b o hc e) (λb o _ _ hc e _=>{o.slots,k b o hc e}) (λ_ _ _ _ n=>n) (λb o hc e=>{o,k b o hc e}) (λ_ _ e=>e) (λ_ _ _ e=>e) (λb ps e=>{#[],by rw[e];simp}) (λm hm=>?_) (λb u e=>?_) I.bare;obtain⟨o,es,ep,ho,r⟩:=hm;exact{o,es,ep,k _ o (λz=>(hw _ z).2.1 rfl) ho,r};refine(I.aN b u e).qh (λc v hc q=>k c v (λz=>?_) q) (λ_ q=>q) λ_ _ q=>q;have n:=(hw c z).1;rcases hc with rfl|hc;rw[n]at e;cases e;rw[n]at hc;cases hc
theorem Inv.Mz(I:Inv X pins σ H s)(wr:io)(hw:∀b∈wr,ug X pins H b)(k:∀b o,b∉wr->s.heap.get? b=some o->h'.get? b=some o)(hT:s.heap.get? T=none)(new:bt X.prog X.w (upd H T o) h' T o): Inv X pins σ (upd H T o) {s with heap:=h',toks:=t'}:=by
 have fr:H T=none:=by cases q:H T with|none=>rfl|some u=>obtain⟨z,e⟩:=(I.aN T u q).get;rw[hT]at e;cases e
 have ne:∀b u,H b=some u->b≠T:=λb u e z=>by rw[z,fr]at e;cases e
 refine I.step (g':=s.gens) (d':=s.drawn) (ch:=wr) (λb hb=>by obtain⟨_,a,_,c,d,e⟩:=hw b hb;exact⟨c,a,d,e⟩) (λb o _ _ hc e _=>k b o hc e) (λb o _ _ hc e _=>{o.slots,k b o hc e}) (λb ob _ e n=>?_) (λb o hc e=>{o,k b o hc e}) (λb xs e=>by rw[ax<|ne b _ e];exact e) (λb ob u e=>by rw[ax<|ne b _ e];exact e) (λb ps e=>{#[],by rw[ax<|ne b _ e,e];simp}) (λm hm=>?_) (λb u e=>?_) I.bare;have:b≠T:=λz=>by rw[z,hT]at e;cases e
 rw[ax this];exact n;obtain⟨o,es,ep,ho,r⟩:=hm;exact{o,es,ep,k _ o (λz=>(hw _ z).2.1 rfl) ho,r};by_cases hb:b=T;subst hb;rw[aG]at e;cases e;exact new;rw[ax hb]at e;refine(I.aN b u e).qh (λc v hc q=>k c v (λz=>?_) q) (λc q=>by rw[ax<|ne c _ q];exact q) λc xs q=>by rw[ax<|ne c _ q];exact q
 have n:=(hw c z).1;rcases hc with rfl|hc;rw[n]at e;cases e;rw[n]at hc;cases hc
end
noncomputable abbrev MA(h:Heap)(l0:Addr):Heap:=(h).push {cls:=.type "tuple_iterator",data:=.fields #[.ref l0,.int 0 0]}
noncomputable abbrev MB(h:Heap)(l0 l1:Addr):Heap:=(MA h l0).push {cls:=.type "tuple_iterator",data:=.fields #[.ref l1,.int 0 0]}
noncomputable abbrev MC(h:Heap)(l0 l1:Addr):Heap:=(MB h l0 l1).push {cls:=.type "tuple",data:=.seq #[.ref h.objs.size,.ref (MA h l0).objs.size]}
noncomputable abbrev MD(h:Heap)(l0 l1:Addr):Heap:=(MC h l0 l1).push {cls:=.type "tuple",data:=.seq #[.none,.none]}
noncomputable abbrev CB(h:Heap)(l0 l1:Addr):Heap:=(MD h l0 l1).push {cls:=.type "zip",data:=.fields #[.none,.bool false,.bool false,.ref (MB h l0 l1).objs.size,.ref (MC h l0 l1).objs.size]}
theorem CC(l0 l1:Addr)(Cz CA:im):Meets (Builtin.«zip.__new__» {[.type "zip",.ref l0,.ref l1],[]}) (λ_ R s=>s.heap.IsTuple l0 Cz/\s.heap.IsTuple l1 CA/\R (.ok<|.ret<|.ref (MD s.heap l0 l1).objs.size) {s with heap:=CB s.heap l0 l1}):=.of_wp λprog w A R s h=>by obtain⟨hp,g,d,tk,os⟩:=s;obtain⟨t0,t1,h⟩:=h;have ZU:=sub_zip;have L0:Heap.IsTuple (Shared.heap ⟨hp,g,d,tk,os⟩) l0 Cz:=t0;have L1:Heap.IsTuple (Shared.heap {hp.push {cls:=.type "tuple_iterator",data:=.fields #[.ref l0,.int 0 0]},g,d,tk,os}) l1 CA:=Heap.IsTuple.push (t1) _;wp_walk using wpAny_pyIter_tuple L0,wpAny_pyIter_tuple L1;exact{_,rfl,h}
theorem CD(t0:s.heap.IsTuple l0 Cz)(t1:s.heap.IsTuple l1 CA)(h:∀h',ZS2 s.heap.objs.size l0 l1 0 h'->(∀c o,s.heap.get? c=some o->h'.get? c=some o)->Q (.ref<|s.heap.objs.size+4) {s with heap:=h'}):wpAny (model prog w) A (call (.type "zip") [.ref l0,.ref l1]) Q E s:=by
 refine callType_new F.called_zip (by decide) (F.typeCall_zip_2 _ _) (F.newCall_zip_2 _ _) (λobj=>F.args_object_init_3 obj _ _) F.entry_zip_new (CC l0 l1 Cz CA) {t0,t1,?_};have z1:(MA s.heap l0).objs.size=s.heap.objs.size+1:=yd ..;have z2:(MB s.heap l0 l1).objs.size=s.heap.objs.size+2:=by rw[yd,z1]
 have z3:(MC s.heap l0 l1).objs.size=s.heap.objs.size+3:=by rw[yd,z2]
 have z4:(MD s.heap l0 l1).objs.size=s.heap.objs.size+4:=by rw[yd,z3]
 have z5:(CB s.heap l0 l1).objs.size=s.heap.objs.size+5:=by rw[yd,z4]
 have g0:(CB s.heap l0 l1).get? (s.heap).objs.size=some _:=za _<|za _<|za _<|za _<|zm _ rfl;have g1:(CB s.heap l0 l1).get? (MA s.heap l0).objs.size=some _:=za _<|za _<|za _<|zm _ rfl;have g2:(CB s.heap l0 l1).get? (MB s.heap l0 l1).objs.size=some _:=za _<|za _<|zm _ rfl;have g3:(CB s.heap l0 l1).get? (MC s.heap l0 l1).objs.size=some _:=za _<|zm _ rfl;have g4:(CB s.heap l0 l1).get? (MD s.heap l0 l1).objs.size=some _:=zm _ rfl;show _/\_;rw[z2,z3,z4]at g4;rw[z3]at g3;rw[z1,z2]at g2;rw[z1]at g1;rw[z4];exact{{_,g4,rfl},h _ {g4,g2,!⟨g3⟩,{_,g0,rfl,rfl},{_,g1,rfl,rfl}} λc o x=>za _<|za _<|za _<|za _<|za _ x}
def ME(K:Frag):V->List V->Hp->VK->Prop:=λx vs H Q=>∃(a:Addr)(xs:dL)(y z:V)(j:Nat),x=.ref a/\vs=[y]/\jq K H a xs/\g6 y=true/\xs.all g6=true/\xs[j]?=some z/\eqV z y=true/\(∀m u,m<j->xs[m]?=some u->eqV u y=false)/\Q (.int j) H
theorem GI:Tq X "list.index" (ME X.K):=by
 intro pins s σ H x vs v us Q I rx rv h;obtain⟨a,xs,y,z,j,rfl,rfl,hq,fy,fx,hj,hit,Ma,q⟩:=h;cases rx;obtain⟨u,rfl,ru⟩:=rv.one;obtain⟨aw,r,p,hz⟩:=I.list hq;obtain⟨⟨cls,dd,data,sl⟩,ho,hc,n,hd⟩:=p.isList;simp only at hc hd;subst hc hd;have hl:=r.length;have dY:j<xs.length:=(zg.mp hj).1;have fl:∀(m:Nat)(w:V),xs[m]?=some w->g6 w=true:=λm w e=>z0.mp fx w<|zy e;have at':∀(m:Nat)(hm:m<aw.toArray.size)(w:V),xs[m]?=some w->IE y aw.toArray[m]=eqV w y:=λm hm w e=>by obtain⟨u',e',ru'⟩:=r.get e;have:aw.toArray[m]=u':=(by have:=zg.mp e';simpa using this.2);rw[this];exact Cf ru'<|fl m w e
 have hs:sizeLine=16777216:=yg;refine call_meets PySem.F.slot_list_index {_,ho,rfl} PySem.F.entry_list_index (PySem.F.args_list_index_2 _ _) (SeqAt.list_indexAt a aw.toArray n dd sl u (IE y) j (by simp;lia) (by lia) ?_ ?_) {ho,λw hw=>mD ru fy r fx w<|by simpa using hw,{.int j,H,I.tok _,{_,rfl},q}};rw[at' j _ z hj];exact hit;intro m hm hmj;have hmx:m<xs.length:=by lia
 rw[at' m hm _<|ze hmx];exact Ma m _ hmj<|ze hmx
def Vx:R2:=λx y H Q=>∃z n,x=.str z/\y=.int n/\MulOk z n/\Q (.str<|PySem.Txt.mul z n) H
theorem CF:iB X (binaryOp .Mult) Vx:=by intro pins s σ H x y v u Q I rx ry h;obtain⟨z,n,rfl,rfl,hm,q⟩:=h;obtain⟨t,rfl⟩:=rx;obtain⟨t',rfl⟩:=ry;exact SB.mul hm λt'' k=>{.str _,H,I.tok k,{_,rfl},q}
def LF(w:World)(K:Frag)(a:Addr)(kvs:ii):Prop:=(a==sysModules)=false/\∃(o:Obj)(es:Array DictEntry)(ep:Nat),K.lookup a=some o/\o.ExactDict/\o.data=.dict es ep/\Paired (λ(e:DictEntry)(kv:Str×V)=>e.hash=hashStr w kv.1/\(∃t,e.key=.str kv.1 t)/\RelV kv.2 e.val) es.toList kvs/\(kvs.map Prod.fst).Nodup
theorem rS(z:Str):∀kvs:ii,gv (kvs.map λp=>((.inr p.1:Key),p.2)) (.inr z)=kvs.lookup z
 |[]=>rfl
 | (x,v)::r=>by
  rw[zx,yh];by_cases e:z=x;subst e;rw[rJ rfl];simp;have e1:(z==x)=false:=by simpa using e
  rw[rK λq=>e (yP q).symm,e1];exact rS z r
section
variable{X:Cx}{pins:jp}{σ:St}{H:Hp}{s:Shared}{a:Addr}{kvs:ii}
theorem CG(I:Inv X pins σ H s)(d:LF X.w X.K a kvs):(a==sysModules)=false/\∃vs,KV (kvs.map λp=>((.inr p.1:Key),p.2)) vs/\s.heap.DictOf (aH X.prog X.w) a vs:=by
 obtain⟨ns,o,es,ep,hk,hx,hd,hp,hn⟩:=d;have all:∀(es:List DictEntry)(kvs:ii),Paired (λ(e:DictEntry)(kv:Str×V)=>e.hash=hashStr X.w kv.1/\(∃t,e.key=.str kv.1 t)/\RelV kv.2 e.val) es kvs->∃vs:wn,KV (kvs.map λp=>((.inr p.1:Key),p.2)) vs/\Pairs (aH X.prog X.w) es vs/\vs.map (·.1)=kvs.map (λp=>(.inr p.1:Key))/\∀e∈es,∃k,(aH X.prog X.w).is k e.key=true/\e.hash=(aH X.prog X.w).hash k:=by intro es kvs hp;induction hp with|nil=>exact{[],.nil,.nil,rfl,by simp}|@cons e kv XQ kvs' h t ih=>obtain⟨vs,k1,k2,k3,k4⟩:=ih;obtain⟨h1,⟨tk,h2⟩,h3⟩:=h;have hi:(aH X.prog X.w).is (.inr kv.1) e.key=true:=(by rw[h2];exact jr _ _ _ _);refine{(.inr kv.1,e.val)::vs,.cons ⟨rfl,h3⟩ k1,.cons hi rfl k2,by rw[zx,zx,k3],λe' he=>?_};rcases zk.mp he with rfl|he;exact{.inr kv.1,hi,h1};exact k4 e' he
 obtain⟨vs,k1,k2,k3,k4⟩:=all _ _ hp;refine{ns,vs,k1,o,es,ep,I.pj a o hk,hx,hd,λe he=>k4 e<|by simpa using he,k2,?_};rw[k3];have:(kvs.map λp=>(.inr p.1:Key))=(kvs.map Prod.fst).map Sum.inr:=by rw[zt];rfl
 rw[this];exact List.Pairwise.map _ (λx y h q=>h<|yP q) hn
theorem Jf{w:World}{K:Frag}(hw:X.w=w)(hK:X.K=K):iB X (compareOp .In) (λx y H Q=>∃z a kvs,x=.str z/\y=.ref a/\LF w K a kvs/\Q (.bl (kvs.lookup z).isSome) H):=by subst hw hK;intro pins s σ H x y v u Q I rx ry h;obtain⟨z,a,kvs,rfl,rfl,d,q⟩:=h;cases ry;obtain⟨ns,vs,rel,dd⟩:=CG I d;refine wpAny_in_of (kY (k:=.inr z) rx) ns dd.mapOf ?_;rw[<-(rel.val<|.inr z).oa,rS];exact{.bl _,H,I.tok _,rfl,q}
def Vy(w:World)(K:Frag):V->List V->Hp->VK->Prop:=λx vs H Q=>∃a z kvs,x=.ref a/\vs=[.str z]/\LF w K a kvs/\Q ((kvs.lookup z).getD .av) H
theorem MF{w:World}{K:Frag}(hw:X.w=w)(hK:X.K=K):Tq X "dict.get" (Vy w K):=by subst hw hK;intro pins s σ H x vs v us Q I rx rv h;obtain⟨a,z,kvs,rfl,rfl,d,q⟩:=h;cases rx;obtain⟨u,rfl,ru⟩:=rv.one;obtain⟨ns,vs,rel,dd⟩:=CG I d;refine call_meetsIn yB dd.typeIs PySem.F.entry_dict_get (PySem.F.args_dict_get_2 _ _) (meets_dict_get (aH X.prog X.w) a (kY (k:=.inr z) ru) ns) {_,dd.mapOf,_,H,I.tok _,?_,q};rw[<-rS];exact(rel.val<|.inr z).getD rfl
theorem Jg{w:World}{K:Frag}{o e:Expr}{apos aQ:Pos}{td ty:TE}(hw:X.w=w)(hK:X.K=K)(ho:PE X o td)(he:PE X e ty)(m:M1 X o "get" apos e aQ):PE X (.Call (.Attribute o "get" apos) [e] [] aQ) (λσ H Q=>td σ H λx H1=>∃a kvs,x=.ref a/\LF w K a kvs/\ty σ H1 λy H2=>∃z,y=.str z/\Q ((kvs.lookup z).getD .av) H2):=by subst hw hK;intro pins s σ H Q I h;refine wpAny_Call_method m.base m.HS m.line PySem.F.plainAttrs_dict yB PySem.F.type_dict_get<|br (ho pins s σ H _ I h) ?_;rintro u s1 ⟨x,H1,I1,rx,a,kvs,ex,d,q1⟩;subst ex;obtain rfl:u=Value.ref a:=rx;obtain⟨ns,vs,rel,dd⟩:=CG I1 d;obtain⟨ob,_,_,h1,h2,_⟩:=id dd;refine{dd.typeIs,λb q=>by cases q;exact⟨ob,h1,h2.2.1⟩,?_};rw[m.trees];refine Calls.callWith_builtin rfl<|Calls.evalArgs_plain<|yG<|br (he pins s1 σ H1 _ I1 q1) λiv s2 ⟨y,H2,I2,ry,z,ey,q2⟩=>Calls.spliced_nil ?_;subst ey;exact MF rfl rfl pins s2 σ H2 (.ref a) [.str z] _ [iv] Q I2 rfl (.cons ry .nil) ⟨a,z,kvs,rfl,rfl,d,q2⟩
end
theorem Jh:bootBuiltins "min"= some (.builtin "min"):=by trivial
def ZS3(n l0 l1 l2:Nat)(i:Nat)(h:Heap):Prop:=IsZip h (n+5) (n+3) (n+4) .none/\mI h (n+3) #[.ref n,.ref<|n+1,.ref<|n+2]/\(∃arr:im,arr.size=3/\mI h (n+4) arr)/\h.IsTupleIter n l0 i/\h.IsTupleIter (n+1) l1 i/\h.IsTupleIter (n+2) l2 i
noncomputable abbrev MG(h:Heap)(l0:Addr):Heap:=(h).push {cls:=.type "tuple_iterator",data:=.fields #[.ref l0,.int 0 0]}
noncomputable abbrev MH(h:Heap)(l0 l1:Addr):Heap:=(MG h l0).push {cls:=.type "tuple_iterator",data:=.fields #[.ref l1,.int 0 0]}
noncomputable abbrev MI(h:Heap)(l0 l1 l2:Addr):Heap:=(MH h l0 l1).push {cls:=.type "tuple_iterator",data:=.fields #[.ref l2,.int 0 0]}
noncomputable abbrev MJ(h:Heap)(l0 l1 l2:Addr):Heap:=(MI h l0 l1 l2).push {cls:=.type "tuple",data:=.seq #[.ref h.objs.size,.ref (MG h l0).objs.size,.ref (MH h l0 l1).objs.size]}
noncomputable abbrev MK(h:Heap)(l0 l1 l2:Addr):Heap:=(MJ h l0 l1 l2).push {cls:=.type "tuple",data:=.seq #[.none,.none,.none]}
noncomputable abbrev Al(h:Heap)(l0 l1 l2:Addr):Heap:=(MK h l0 l1 l2).push {cls:=.type "zip",data:=.fields #[.none,.bool false,.bool false,.ref (MI h l0 l1 l2).objs.size,.ref (MJ h l0 l1 l2).objs.size]}
theorem CH(l0 l1 l2:Addr)(Cz CA Tz:im):Meets (Builtin.«zip.__new__» {[.type "zip",.ref l0,.ref l1,.ref l2],[]}) (λ_ R s=>s.heap.IsTuple l0 Cz/\s.heap.IsTuple l1 CA/\s.heap.IsTuple l2 Tz/\R (.ok<|.ret<|.ref (MK s.heap l0 l1 l2).objs.size) {s with heap:=Al s.heap l0 l1 l2}):=.of_wp λprog w A R s h=>by obtain⟨hp,g,d,tk,os⟩:=s;obtain⟨t0,t1,t2,h⟩:=h;have ZU:=sub_zip;have L0:Heap.IsTuple (Shared.heap ⟨hp,g,d,tk,os⟩) l0 Cz:=t0;have L1:Heap.IsTuple (Shared.heap {hp.push {cls:=.type "tuple_iterator",data:=.fields #[.ref l0,.int 0 0]},g,d,tk,os}) l1 CA:=Heap.IsTuple.push (t1) _;have L2:Heap.IsTuple (Shared.heap {(hp.push {cls:=.type "tuple_iterator",data:=.fields #[.ref l0,.int 0 0]}).push {cls:=.type "tuple_iterator",data:=.fields #[.ref l1,.int 0 0]},g,d,tk,os}) l2 Tz:=Heap.IsTuple.push (Heap.IsTuple.push (t2) _) _;wp_walk using wpAny_pyIter_tuple L0,wpAny_pyIter_tuple L1,wpAny_pyIter_tuple L2;exact{_,rfl,h}
theorem CI(a0 a1 a2:Value):checkTypeCall "zip" {[a0,a1,a2],[]}=pure ():=by kernel_rfl
theorem CJ(a0 a1 a2:Value):checkBuiltinCall "zip.__new__" {[.type "zip",a0,a1,a2],[]}=pure ():=by kernel_rfl
theorem Q3(x a0 a1 a2:Value):argsOk "object.__init__" {[x,a0,a1,a2],[]}:=by unfold argsOk;rw[signature?_of (id:="object.__init__") (n:=['_','_','t','i','n','i','_','_']) (o:=['t','c','e','j','b','o']) (by kernel_rfl) F.owner_object];kernel_rfl
theorem CK(t0:s.heap.IsTuple l0 Cz)(t1:s.heap.IsTuple l1 CA)(t2:s.heap.IsTuple l2 Tz)(h:∀h',ZS3 s.heap.objs.size l0 l1 l2 0 h'->(∀c o,s.heap.get? c=some o->h'.get? c=some o)->Q (.ref<|s.heap.objs.size+5) {s with heap:=h'}):wpAny (model prog w) A (call (.type "zip") [.ref l0,.ref l1,.ref l2]) Q E s:=by
 refine callType_new F.called_zip (by decide) (CI _ _ _) (CJ _ _ _) (λobj=>Q3 obj _ _ _) F.entry_zip_new (CH l0 l1 l2 Cz CA Tz) {t0,t1,t2,?_};have z1:(MG s.heap l0).objs.size=s.heap.objs.size+1:=yd ..;have z2:(MH s.heap l0 l1).objs.size=s.heap.objs.size+2:=by rw[yd,z1]
 have z3:(MI s.heap l0 l1 l2).objs.size=s.heap.objs.size+3:=by rw[yd,z2]
 have z4:(MJ s.heap l0 l1 l2).objs.size=s.heap.objs.size+4:=by rw[yd,z3]
 have z5:(MK s.heap l0 l1 l2).objs.size=s.heap.objs.size+5:=by rw[yd,z4]
 have z6:(Al s.heap l0 l1 l2).objs.size=s.heap.objs.size+6:=by rw[yd,z5]
 have g0:(Al s.heap l0 l1 l2).get? (s.heap).objs.size=some _:=za _<|za _<|za _<|za _<|za _<|zm _ rfl;have g1:(Al s.heap l0 l1 l2).get? (MG s.heap l0).objs.size=some _:=za _<|za _<|za _<|za _<|zm _ rfl;have g2:(Al s.heap l0 l1 l2).get? (MH s.heap l0 l1).objs.size=some _:=za _<|za _<|za _<|zm _ rfl;have g3:(Al s.heap l0 l1 l2).get? (MI s.heap l0 l1 l2).objs.size=some _:=za _<|za _<|zm _ rfl;have g4:(Al s.heap l0 l1 l2).get? (MJ s.heap l0 l1 l2).objs.size=some _:=za _<|zm _ rfl;have g5:(Al s.heap l0 l1 l2).get? (MK s.heap l0 l1 l2).objs.size=some _:=zm _ rfl;show _/\_;rw[z3,z4,z5]at g5;rw[z4]at g4;rw[z1,z2,z3]at g3;rw[z1]at g1;rw[z2]at g2;rw[z5];exact{{_,g5,rfl},h _ {g5,g3,!⟨g4⟩,{_,g0,rfl,rfl},{_,g1,rfl,rfl},{_,g2,rfl,rfl}} λc o x=>za _<|za _<|za _<|za _<|za _<|za _ x}
theorem Vals.three(h:Vals [x,y,z] us):∃u v w,us=[u,v,w]/\RelV x u/\RelV y v/\RelV z w:=by cases h with|cons r h=>cases h with|cons q h=>cases h with|cons p h=>cases h;exact{_,_,_,rfl,r,q,p}
section
variable{X:Cx}
def ML:V->List V->Hp->VK->Prop:=λx vs H Q=>∃z y,x=.str z/\vs=[.str y]/\Q (.bl<|PySem.Txt.startswith z y) H
theorem uv:Tq X "str.startswith" ML:=by intro pins s σ H x vs v us Q I rx rv h;obtain⟨z,y,rfl,rfl,q⟩:=h;obtain⟨t,rfl⟩:=rx;obtain⟨u,rfl,ru⟩:=rv.one;obtain⟨t',rfl⟩:=ru;exact PySem.SC.startswith {.bl _,H,I,rfl,q}
def ZV:V->Option Int->Option Int->Hp->VK->Prop:=λx lo hi H Q=>∃z,x=.str z/\z.length<=sizeLine/\Q (.str<|PySem.Txt.slice z lo hi) H
theorem Q4:Tp X ZV:=by intro pins s σ H x v vl vu lo hi sl Q I rx hs pl pu h;obtain⟨z,rfl,hz,q⟩:=h;obtain⟨t,rfl⟩:=rx;obtain⟨o,e1,e2,e3⟩:=hs;refine{"str",_,F.slot_str_getitem.lookup,typeIs_str _ _ _,?_};have fin:∀k,∀t':Tok,EP X pins σ Q (.str (PySem.Txt.slice z lo hi) t') {s with toks:=k}:=λk t'=>{.str _,H,I.tok k,{_,rfl},q};cases pl with|none=>(cases pu with|none=>exact wpAny_getItem_str_slice (l:=none) (u:=none) (st:=none) ⟨o,e1,e2,e3⟩ rfl (post_val_or_str {zJ (Txt.slice_le z _ _) hz,λt' k=>fin k t'})|int j uj=>exact wpAny_getItem_str_slice (l:=none) (u:=some (j,uj)) (st:=none) ⟨o,e1,e2,e3⟩ rfl<|post_val_or_str {zJ (Txt.slice_le z _ _) hz,λt' k=>fin k t'})|int i ui=>cases pu with|none=>exact wpAny_getItem_str_slice (l:=some (i,ui)) (u:=none) (st:=none) ⟨o,e1,e2,e3⟩ rfl (post_val_or_str {zJ (Txt.slice_le z _ _) hz,λt' k=>fin k t'})|int j uj=>exact wpAny_getItem_str_slice (l:=some (i,ui)) (u:=some (j,uj)) (st:=none) ⟨o,e1,e2,e3⟩ rfl<|post_val_or_str {zJ (Txt.slice_le z _ _) hz,λt' k=>fin k t'}
end
theorem CL:∀l:List α,(List.range l.length).filterMap (λk=>l[k]?)=l:=by
 intro l;have h:∀n,n<=l.length->(List.range n).filterMap (λk=>l[k]?)=l.take n:=by intro n;induction n with|zero=>intro _;rfl|succ n ih=>intro hn;have dY:n<l.length:=(by lia);rw[List.range_succ,List.filterMap_append,ih<|by lia,List.take_add_one,ze dY];simp[dY]
 rw[h _<|zq _,yI]
theorem Am:∀{l:List α},(∀x∈l,f x=g x)->l.filterMap f=l.filterMap g|[],_=>rfl|a::l,h=>by rw[List.filterMap_cons,List.filterMap_cons,h a zj,Am λx hx=>h x<|zf _ hx]
theorem uw(aw:fv):slicePick aw.toArray none none (some (-1))=aw.reverse.toArray:=by
 unfold slicePick sliceBounds sliceRange;have e0:((some (-1:Int)).getD 1) = -1:=rfl;simp only[e0,zp,show ¬((-1:Int)>0) by decide,if_false];have ec:(if ((aw.length:Int)-1) > -1 then (((aw.length:Int)-1) - -1 - -1-1)/(- -1) else 0).toNat=aw.length:=by split;{first|(simp;done)|(simp;lia)};lia
 rw[ec];congr 1;rw[List.filterMap_map];have e2:=CL aw.reverse;rw[yp]at e2;conv=>rhs;rw[<-e2]
 refine Am λk hk=>?_;have hk:k<aw.length:=zT.mp hk;show aw.toArray[((aw.length:Int)-1 + -1*(k:Int)).toNat]?=aw.reverse[k]?;have e3:((aw.length:Int)-1 + -1*(k:Int)).toNat=aw.length-1-k:=by lia
 rw[e3,List.getElem?_reverse hk];simp
def ZW(K:Frag):V->Hp->VK->Prop:=λx H Q=>∃a xs,x=.ref a/\jq K H a xs/\∀p,H p=none->Q (.ref p) (upd H p<|.lst xs.reverse)
theorem Q5{X:Cx}{K:Frag}{e st:Expr}{te:TE}{p2 pos:Pos}(hK:X.K=K)(he:PE X e te){tst:TO}(uf:PO X (some st) tst)(hv:∀σ H (R:Option Int->Hp->Prop),R (some (-1)) H->tst σ H R):PE X (.Subscript e (.Slice none none (some st) p2) pos) (λσ H Q=>te σ H λx H1=>ZW K x H1 Q):=by
 subst hK;intro pins s σ H Q I h;refine Subscript_<|br (he pins s σ H _ I h) ?_;rintro v s1 ⟨x,H1,I1,r1,q1⟩;refine wpAny_Slice ?_;rw[evalPart_none];refine zo ?_;refine zo ?_;refine br (uf pins s1 σ H1 (λo H2=>o=some (-1)/\H2=H1) I1<|hv _ _ _ ⟨rfl,rfl⟩) ?_;rintro vs s3 ⟨o,H3,I3,ps,eo,eH⟩;subst eo eH;obtain⟨a,xs,rfl,hx,q⟩:=q1;cases r1;have I4:Inv X pins σ H3 {s3 with heap:=s3.heap.push {cls:=.type "slice",data:=.fields #[.none,.none,vs]}}:=I3.kept (t':=s3.toks) λb ob q=>za _ q;obtain⟨aw,r,ht,hz⟩:=I4.list hx;have hlen:=r.length;have hg:wpAny (model X.prog X.w) X.A (getItem (.ref a)<|.ref s3.heap.objs.size) (EP X pins σ Q) X.xe {s3 with heap:=s3.heap.push {cls:=.type "slice",data:=.fields #[.none,.none,vs]}}:=by refine wpAny_getItem_list_slice ht.isList (Heap.IsSliceOf.new ..) .none .none ps (by simp) ?_ (by rw[zp]<;>lia);rw[uw];refine{.ref _,_,I4.laid (t':=s3.toks) (o:=.lst xs.reverse) (λb ob q=>za _ q) (zq _) ?_,rfl,q _<|I4.aN.fresh<|zq _};exact{by rw[yp];exact hz,_,0,r.reverse,zm _ rfl}
 exact tail_any (ops:=[.ref a,.ref s3.heap.objs.size]) ht.isList.typeIs slot_list_getitem.lookup hg<|by with_unfolding_all rfl
end L2
namespace L2
open PySem PySem.Spec PyProof.Rows PySem.SeqAt
end L2
namespace L2
open PySem PySem.Spec PyProof.Rows
theorem wd(l:Addr)(items:im)(n:Nat)(b:Addr)(rT:im)(n2:Nat)(sl:Array<|Option Value)(TB:¬(!items.isEmpty&&Builtin.List.listTooLong (items.size+rT.size))=true)(TC:items.size<=sizeLine)(t5:items.size+rT.size<=sizeLine+1): Meets (Builtin.«list.extend» {[.ref l,.ref b],[]}) (λ_ R s=>s.heap.get? l=some {cls:=.type "list",dict:=none,data:=.seq items n,slots:=#[]}/\s.heap.get? b=some {cls:=.type "tuple",dict:=none,data:=.seq rT n2,slots:=sl}/\R (.ok<|.ret Value.none) {s with heap:=s.heap.update l<|Obj.mapSeq λx=>x++rT,toks:=s.toks}):=.of_wp λprog w A R s h=>by
 obtain⟨hp,g,d,tk,os⟩:=s;obtain⟨hl,hb,h⟩:=h;have f1:=AutoSeq1.idx_int;have f2:=AutoSeq1.sub_tuple_tuple;have f3:=AutoSeq1.sub_list_list;have f4:=AutoSeq1.sub_tuple_list;have f5:=AutoSeq1.sub_list_tuple;have ZX:(items++rT).size<=sizeLine+1:=by rw[Array.size_append];exact t5
 wp_walk using (wpAny_updateSeq hl rfl (hz:=TC) (_hz':=ZX)),AutoSeq1.wpAny_loadPart' hl,AutoSeq1.wpAny_loadPart' hb;exact{_,rfl,h}
section
variable{X:Cx}
def Ji:V->List V->Hp->VK->Prop:=λx vs H Q=>∃l b xs zs,x=.ref l/\vs=[.ref b]/\H l=some (.lst xs)/\H b=some (.tup zs)/\xs.length+zs.length<=sizeLine/\Q .av (upd H l<|.lst<|xs++zs)
theorem CM:XZ X "list.extend" Ji:=by
 intro pins s σ H x vs v us Q I rx rv h;obtain⟨l,b,xs,zs,rfl,rfl,hH,hB,hz,q⟩:=h;cases rx;obtain⟨u,rfl,ru⟩:=rv.one;cases ru;obtain⟨z,aw,n,r,hl,e⟩:=I.Gk hH;obtain⟨z2,v7,r2,⟨c2,d2,dt2,Vo⟩,e2,ec,ed,n2,en⟩:=(show bt X.prog X.w H s.heap b (.tup zs) from I.aN b _ hB);dsimp only at ec ed en;subst ec ed en;have II:=r2.length;have hsz:aw.toArray.size+v7.toArray.size<=sizeLine:=by rw[zp,zp];lia
 have Vz:¬(!aw.toArray.isEmpty&&Builtin.List.listTooLong (aw.toArray.size+v7.toArray.size))=true:=by rw[IG hsz,Bool.and_false];exact zd
 refine call_meets F.slot_list_extend {_,e,rfl} F.entry_list_extend (F.args_list_extend_2 _ _) (wd l aw.toArray n b v7.toArray n2 Vo Vz (by rw[zp];lia)<|by lia) {e,e2,?_};refine{.av,_,I.Md (its':=aw++v7) hH e (by simp) (r.append r2) ?_,rfl,q};rw[zE];lia
end
set_option genInjectivity true in
set_option genSizeOfSpec true in
inductive D where
 |av|bl (b:Bool)|int (i:Int)|str (x:Str)|tup (ds:List D)|jl (ds:List D)|kt (ds:List D)|ref (a:Addr)|ty (n:String)
abbrev wp:=List D
abbrev ww:=List (Key×D)
abbrev wE:=List (Str×D)
abbrev wP:=Option D
def ZY(K:Frag)(a:Addr)(xs:dL):Prop:=∃(o:Obj)(aw:im)(n:Nat),K.lookup a=some o/\o.cls=.type "tuple"/\o.data=.seq aw n/\aw.size<=sizeLine/\Vals xs aw.toList
def OC(K:Frag)(H:Hp)(a:Addr)(xs:dL):Prop:=(∃o,H a=some (.lM o<|.lst xs))\/∃(o:Obj)(aw:im)(n:Nat),K.lookup a=some o/\o.cls=.type "list"/\o.dict=none/\o.data=.seq aw n/\aw.size<=sizeLine/\Vals xs aw.toList
theorem OC.sq{K:Frag}{H:Hp}{a:Addr}{xs:dL}(h:OC K H a xs):jq K H a xs:=by rcases h with h|h;exact .inl<|.inr h;exact .inr h
structure Kp(K:Frag)(H H':Hp):Prop where
 t:∀a xs,H a=some (.tup xs)->H' a=some (.tup xs)
 r:∀a xs,OC K H a xs->OC K H' a xs
 f:∀a o u,H a=some (.lM o u)->H' a=some (.lM o u)
theorem Kp.refl{K:Frag}(H:Hp):Kp K H H:={λ_ _ h=>h,λ_ _ h=>h,λ_ _ _ h=>h}
theorem Kp.trans{K:Frag}{H H1 H2:Hp}(a:Kp K H H1)(b:Kp K H1 H2):Kp K H H2:={λp xs h=>b.t p xs<|a.t p xs h,λp xs h=>b.r p xs<|a.r p xs h,λp o u h=>b.f p o u<|a.f p o u h}
theorem Kp.of{K:Frag}{H H':Hp}(h:∀b o,H b=some o->H' b=some o\/(∀xs,o≠.tup xs)/\∀u v,o≠.lM u v):Kp K H H' where
 t:=λa xs q=>(h _ _ q).resolve_right λz=>z.1 _ rfl
 r:=λa xs q=>by
  rcases q with⟨o,q⟩|q
  ·exact .inl {o,(h _ _ q).resolve_right λz=>z.2 _ _ rfl}
  ·exact .inr q
 f:=λa o u q=>(h _ _ q).resolve_right λz=>z.2 _ _ rfl
theorem Kp.new{K:Frag}{H:Hp}{a:Addr}{o:HO}(h:H a=none):Kp K H (upd H a o):=.of λb u e=>.inl<|by rw[ax<|aE e h];exact e
theorem Kp.put{K:Frag}{H:Hp}{a:Addr}{o u:HO}(h:H a=some o)(h1:∀xs,o≠.tup xs)(h2:∀u v,o≠.lM u v):Kp K H (upd H a u):=.of λb v e=>by by_cases q:b=a;subst q;rw[h]at e;cases e;exact .inr ⟨h1,h2⟩;exact .inl<|by rw[ax q];exact e
mutual
def Rv(K:Frag)(H:Hp):D->V->Prop|.av,v=>v=.av|.bl b,v=>v=.bl b|.int i,v=>v=.int i|.str z,v=>v=.str z|.tup ds,v=>∃a xs,v=.ref a/\H a=some (.tup xs)/\RvAll K H ds xs|.jl ds,v=>∃a xs,v=.ref a/\OC K H a xs/\RvAll K H ds xs|.kt ds,v=>∃a xs,v=.ref a/\ZY K a xs/\RvAll K H ds xs|.ref a,v=>v=.ref a|.ty n,v=>v=.ty n
def RvAll(K:Frag)(H:Hp):List D->List V->Prop|[],xs=>xs=[]|d::ds,xs=>∃y ys,xs=y::ys/\Rv K H d y/\RvAll K H ds ys
end
section
variable{K:Frag}{H H':Hp}
theorem jz:Rv K H .av .av:=by simp only[Rv]
theorem bO(b:Bool):Rv K H (.bl b) (.bl b):=by simp only[Rv]
theorem aT(i:Int):Rv K H (.int i) (.int i):=by simp only[Rv]
theorem dZ(z:Str):Rv K H (.str z) (.str z):=by simp only[Rv]
theorem iC(a:Addr):Rv K H (.ref a) (.ref a):=by simp only[Rv]
theorem VA(n:String):Rv K H (.ty n) (.ty n):=by simp only[Rv]
theorem OD(h:ZY K a xs)(t:RvAll K H ds xs):Rv K H (.kt ds) (.ref a):=by simp only[Rv];exact⟨a,xs,rfl,h,t⟩
theorem oi(h:H a=some (.tup xs))(t:RvAll K H ds xs):Rv K H (.tup ds) (.ref a):=by simp only[Rv];exact⟨a,xs,rfl,h,t⟩
theorem Jj(h:OC K H a xs)(t:RvAll K H ds xs):Rv K H (.jl ds) (.ref a):=by simp only[Rv];exact⟨a,xs,rfl,h,t⟩
theorem Rv.av(h:Rv K H .av v):v=.av:=by simpa only[Rv]using h
theorem Rv.bl(h:Rv K H (.bl b) v):v=.bl b:=by simpa only[Rv]using h
theorem Rv.int(h:Rv K H (.int i) v):v=.int i:=by simpa only[Rv]using h
theorem Rv.str(h:Rv K H (.str z) v):v=.str z:=by simpa only[Rv]using h
theorem Rv.ref(h:Rv K H (.ref a) v):v=.ref a:=by simpa only[Rv]using h
theorem Rv.ty(h:Rv K H (.ty n) v):v=.ty n:=by simpa only[Rv]using h
theorem Rv.kt(h:Rv K H (.kt ds) v):∃a xs,v=.ref a/\ZY K a xs/\RvAll K H ds xs:=by simpa only[Rv]using h
theorem Rv.tup(h:Rv K H (.tup ds) v):∃a xs,v=.ref a/\H a=some (.tup xs)/\RvAll K H ds xs:=by simpa only[Rv]using h
theorem Rv.jl(h:Rv K H (.jl ds) v):∃a xs,v=.ref a/\OC K H a xs/\RvAll K H ds xs:=by simpa only[Rv]using h
theorem bx:RvAll K H [] []:=by simp only[RvAll]
theorem aW(h:Rv K H d x)(t:RvAll K H ds xs):RvAll K H (d::ds) (x::xs):=by simp only[RvAll];exact⟨x,xs,rfl,h,t⟩
theorem RvAll.nil(h:RvAll K H [] xs):xs=[]:=by simpa only[RvAll]using h
theorem RvAll.cons(h:RvAll K H (d::ds) xs):∃y ys,xs=y::ys/\Rv K H d y/\RvAll K H ds ys:=by simpa only[RvAll]using h
mutual
theorem Rv.ts(s:Kp K H H'):∀(d:D){v:V},Rv K H d v->Rv K H' d v|.av,v,h=>by simpa only[Rv]using h|.bl b,v,h=>by simpa only[Rv]using h|.int i,v,h=>by simpa only[Rv]using h|.str z,v,h=>by simpa only[Rv]using h|.tup ds,v,h=>(by obtain⟨a,xs,rfl,e,t⟩:=h.tup;exact oi (s.t _ _ e)<|RvAll.ts s ds t)|.jl ds,v,h=>(by obtain⟨a,xs,rfl,e,t⟩:=h.jl;exact Jj (s.r _ _ e)<|RvAll.ts s ds t)|.kt ds,v,h=>(by obtain⟨a,xs,rfl,e,t⟩:=h.kt;exact OD e<|RvAll.ts s ds t)|.ref a,v,h=>by simpa only[Rv]using h|.ty n,v,h=>by simpa only[Rv]using h
theorem RvAll.ts(s:Kp K H H'):∀(ds:List D){xs:List V},RvAll K H ds xs->RvAll K H' ds xs|[],xs,h=>by rw[h.nil];exact bx|d::ds,xs,h=>by obtain⟨y,ys,rfl,h1,h2⟩:=h.cons;exact aW (Rv.ts s d h1)<|RvAll.ts s ds h2
end
theorem RvAll.len:∀{ds:List D}{xs:List V},RvAll K H ds xs->xs.length=ds.length|[],xs,h=>by rw[h.nil];rfl|d::ds,xs,h=>by obtain⟨y,ys,rfl,_,h2⟩:=h.cons;rw[zQ,zQ,h2.len]
theorem RvAll.get:∀{ds:List D}{xs:List V}{i:Nat}{d:D},RvAll K H ds xs->ds[i]?=some d->∃v,xs[i]?=some v/\Rv K H d v|[],xs,i,d,h,e=>by simp at e|d0::ds,xs,0,d,h,e=>(by obtain⟨y,ys,rfl,h1,h2⟩:=h.cons;simp at e;subst e;exact⟨y,rfl,h1⟩)|d0::ds,xs,i+1,d,h,e=>by obtain⟨y,ys,rfl,h1,h2⟩:=h.cons;obtain⟨v,e1,e2⟩:=h2.get (i:=i) (by simpa using e);exact{v,by simpa using e1,e2}
theorem RvAll.app:∀{ds es:List D}{xs ys:List V},RvAll K H ds xs->RvAll K H es ys->RvAll K H (ds++es) (xs++ys)|[],es,xs,ys,h,k=>by rw[h.nil];exact k|d::ds,es,xs,ys,h,k=>by obtain⟨y,zs,rfl,h1,h2⟩:=h.cons;exact aW h1<|h2.app k
theorem RvAll.take:∀{ds:List D}{xs:List V}(n:Nat),RvAll K H ds xs->RvAll K H (ds.take n) (xs.take n)|[],xs,n,h=>by rw[h.nil];simp only[List.take_nil];exact bx|d::ds,xs,0,h=>by simp only[List.take_zero];exact bx|d::ds,xs,n+1,h=>by obtain⟨y,zs,rfl,h1,h2⟩:=h.cons;exact aW h1<|h2.take n
theorem RvAll.drop:∀{ds:List D}{xs:List V}(n:Nat),RvAll K H ds xs->RvAll K H (ds.drop n) (xs.drop n)|[],xs,n,h=>by rw[h.nil];simp only[List.drop_nil];exact bx|d::ds,xs,0,h=>h|d::ds,xs,n+1,h=>by obtain⟨y,zs,rfl,h1,h2⟩:=h.cons;exact h2.drop n
theorem RvAll.set:∀{ds:List D}{xs:List V}{d:D}{v:V}(n:Nat),RvAll K H ds xs->Rv K H d v->RvAll K H (ds.set n d) (xs.set n v)|[],xs,d,v,n,h,r=>by rw[h.nil];exact bx|d0::ds,xs,d,v,0,h,r=>(by obtain⟨y,zs,rfl,h1,h2⟩:=h.cons;exact aW r h2)|d0::ds,xs,d,v,n+1,h,r=>by obtain⟨y,zs,rfl,h1,h2⟩:=h.cons;exact aW h1<|h2.set n r
theorem RvAll.erase:∀{ds:List D}{xs:List V}(n:Nat),RvAll K H ds xs->RvAll K H (ds.eraseIdx n) (xs.eraseIdx n)|[],xs,n,h=>by rw[h.nil];exact bx|d::ds,xs,0,h=>(by obtain⟨y,zs,rfl,h1,h2⟩:=h.cons;exact h2)|d::ds,xs,n+1,h=>by obtain⟨y,zs,rfl,h1,h2⟩:=h.cons;exact aW h1<|h2.erase n
theorem RvAll.dropLast:∀{ds:List D}{xs:List V},RvAll K H ds xs->RvAll K H ds.dropLast xs.dropLast|[],xs,h=>by rw[h.nil];exact bx|[d],xs,h=>(by obtain⟨y,zs,rfl,h1,h2⟩:=h.cons;rw[h2.nil];exact bx)|d::e::ds,xs,h=>by obtain⟨y,zs,rfl,h1,h2⟩:=h.cons;obtain⟨y2,zs2,rfl,h3,h4⟩:=id h2.cons;exact aW h1<|RvAll.dropLast h2
theorem RvAll.rev:∀{ds:List D}{xs:List V},RvAll K H ds xs->RvAll K H ds.reverse xs.reverse|[],xs,h=>by rw[h.nil];exact bx|d::ds,xs,h=>by obtain⟨y,zs,rfl,h1,h2⟩:=h.cons;rw[List.reverse_cons,List.reverse_cons];exact h2.rev.app<|aW h1 bx
theorem RvAll.bools:∀{bs:wf}{xs:List V},RvAll K H (bs.map D.bl) xs->xs=bs.map V.bl|[],xs,h=>h.nil|b::bs,xs,h=>by obtain⟨y,ys,rfl,h1,h2⟩:=h.cons;rw[h1.bl,h2.bools];rfl
theorem RvAll.ints:∀{bs:ul}{xs:List V},RvAll K H (bs.map D.int) xs->xs=bs.map V.int|[],xs,h=>h.nil|b::bs,xs,h=>by obtain⟨y,ys,rfl,h1,h2⟩:=h.cons;rw[h1.int,h2.ints];rfl
theorem RvAll.strs:∀{bs:lc}{xs:List V},RvAll K H (bs.map D.str) xs->xs=bs.map V.str|[],xs,h=>h.nil|b::bs,xs,h=>by obtain⟨y,ys,rfl,h1,h2⟩:=h.cons;rw[h1.str,h2.strs];rfl
theorem EH:∀(bs:ul),RvAll K H (bs.map D.int) (bs.map V.int)|[]=>bx|b::bs=>aW (aT b)<|EH bs
theorem qR:∀(bs:lc),RvAll K H (bs.map D.str) (bs.map V.str)|[]=>bx|b::bs=>aW (dZ b)<|qR bs
def bT{κ:Type}(K:Frag)(H:Hp):List (κ×D)->List (κ×V)->Prop:=Paired λp q=>p.1=q.1/\Rv K H p.2 q.2
theorem bT.ts(s:Kp K H H'):∀{ks:List (κ×D)}{vs:List (κ×V)},bT K H ks vs->bT K H' ks vs|_,_,.nil=>.nil|_,_,.cons r t=>.cons {r.1,Rv.ts s _ r.2}<|bT.ts s t
theorem bT.look(h:bT K H ks vs)(f:Str):(∀d,ks.lookup f=some d->∃v,vs.lookup f=some v/\Rv K H d v)/\(ks.lookup f=none->vs.lookup f=none):=by induction h with|nil=>(exact{λd e=>(by cases e),λ_=>rfl})|@cons a b l m r t ih=>obtain⟨k,d⟩:=a;obtain⟨k',v⟩:=b;obtain⟨rfl,r⟩:=r;simp only[yh];cases q:f==k with|true=>(exact{λd' e=>{v,rfl,(by cases e;exact r)},λe=>(by cases e)})|false=>exact ih
end
set_option genInjectivity true in
set_option genSizeOfSpec true in
inductive Ce where
 |lst (ds:List D)|dM (kvs:List<|Key×D)|ins (c:Addr) (fs:List<|Str×D)|well|exc (c:Addr)|tab (q:Str)
def EI(H:Hp)(q:Str)(ps:im):Prop:=TriplesOk ps.toList/\∀pos cv,codeAmong pos ps.toList=some cv->∃c o vs t,cv=.ref c/\H c=some (.lM o<|.own 0)/\o.data=.fields vs/\vs[1]?=some (.str q t)
abbrev ao:=Addr->Option Ce
noncomputable def ao.set(S:ao)(a:Addr)(c:Ce):ao:=λb=>if b=a then some c else S b
theorem aa{S:ao}{a:Addr}{c:Ce} : S.set a c a=some c:=by unfold ao.set;rw[if_pos rfl]
theorem ae{S:ao}{a b:Addr}{c:Ce}(h:b≠a):S.set a c b=S b:=by unfold ao.set;rw[if_neg h]
theorem bp{S:ao}{a:Addr}{c e:Ce} : (S.set a c).set a e=S.set a e:=by funext b;unfold ao.set;split<;>rfl
theorem gA{S:ao}{a b:Addr}{c:Ce}(h:S a=some c)(h':S b=none):a≠b:=by intro e;subst e;rw[h]at h';cases h'
def Rc(K:Frag)(H:Hp)(a:Addr):Ce->Prop|.lst ds=>∃xs,H a=some (.lst xs)/\RvAll K H ds xs|.dM kvs=>∃vs,H a=some (.dK vs)/\bT K H kvs vs|.ins c fs=>∃dx vs,H a=some (.ins c dx vs)/\bT K H fs vs|.well=>∃x y z:Int,H a=some (.lst [.int x,.int y,.int z])|.exc c=>H a=some (ZM a<|.ref c)|.tab q=>∃ps,H a=some (.qH ps)/\EI H q ps
def Rs(K:Frag)(S:ao)(H:Hp):Prop:=∀a c,S a=some c->Rc K H a c
section
variable{K:Frag}{H H':Hp}{S:ao}{a b:Addr}{c:Ce}
theorem Rc.has(h:Rc K H a c):∃o,H a=some o/\(∀xs,o≠.tup xs)/\∀u v,o≠.lM u v:=by cases c with|lst ds=>(obtain⟨xs,e,_⟩:=h;exact{_,e,λ_=>nofun,λ_ _=>nofun})|dM ds=>(obtain⟨xs,e,_⟩:=h;exact{_,e,λ_=>nofun,λ_ _=>nofun})|ins c fs=>(obtain⟨dx,vs,e,_⟩:=h;exact{_,e,λ_=>nofun,λ_ _=>nofun})|well=>(obtain⟨x,y,z,e⟩:=h;exact{_,e,λ_=>nofun,λ_ _=>nofun})|exc c=>exact{_,h,λ_=>nofun,λ_ _=>nofun}|tab q=>obtain⟨ps,e,_⟩:=h;exact{_,e,λ_=>nofun,λ_ _=>nofun}
theorem Rc.keep(h:Rc K H a c)(e:∀o,H a=some o->H' a=some o)(s:Kp K H H'):Rc K H' a c:=by cases c with|lst ds=>(obtain⟨xs,e1,r⟩:=h;exact{xs,e _ e1,RvAll.ts s _ r})|dM ds=>(obtain⟨xs,e1,r⟩:=h;exact{xs,e _ e1,r.ts s})|ins c fs=>(obtain⟨dx,vs,e1,r⟩:=h;exact{dx,vs,e _ e1,r.ts s})|well=>(obtain⟨x,y,z,e1⟩:=h;exact{x,y,z,e _ e1})|exc c=>exact e _ h|tab q=>obtain⟨ps,e1,r,r2⟩:=h;exact{ps,e _ e1,r,λpos cv z=>by obtain⟨c,o,vs,t,z1,z2,z3⟩:=r2 pos cv z;exact{c,o,vs,t,z1,s.f _ _ _ z2,z3}}
theorem Rs.fresh(h:Rs K S H)(e:H a=none):S a=none:=by cases q:S a with|none=>rfl|some c=>obtain⟨o,e1,_⟩:=(h a c q).has;rw[e]at e1;cases e1
theorem Rs.new(h:Rs K S H)(e:H a=none){o:HO}(r:Rc K (upd H a o) a c):Rs K (S.set a c) (upd H a o):=λb x hb=>by by_cases q:b=a;subst q;rw[aa]at hb;cases hb;exact r;rw[ae q]at hb;exact(h b x hb).keep (λo e1=>by rw[ax q];exact e1)<|Kp.new e
theorem Rs.grow(h:Rs K S H)(e:H a=none):Rs K S (upd H a o):=λb x hb=>by obtain⟨u,e1,_⟩:=(h b x hb).has;have q:b≠a:=aE e1 e;exact(h b x hb).keep (λo e1=>by rw[ax q];exact e1)<|Kp.new e
theorem Rs.iD(h:Rs K S H)(ha:S a=some e):Kp K H (upd H a o):=by obtain⟨u,e1,n1,n2⟩:=(h a e ha).has;exact Kp.put e1 n1 n2
theorem Rs.put(h:Rs K S H){e:Ce}(ha:S a=some e){o:HO}(r:Rc K (upd H a o) a c):Rs K (S.set a c) (upd H a o):=λb x hb=>by by_cases q:b=a;subst q;rw[aa]at hb;cases hb;exact r;rw[ae q]at hb;exact(h b x hb).keep (λo e1=>by rw[ax q];exact e1)<|h.iD ha
theorem Rs.lst(h:Rs K S H)(e:S a=some (.lst ds)):∃xs,H a=some (.lst xs)/\RvAll K H ds xs:=h a _ e
theorem Rs.dM(h:Rs K S H)(e:S a=some (.dM ds)):∃xs,H a=some (.dK xs)/\bT K H ds xs:=h a _ e
theorem Rs.ins{c:Addr}{fs:List<|Str×D}(h:Rs K S H)(e:S a=some (.ins c fs)):∃dx vs,H a=some (.ins c dx vs)/\bT K H fs vs:=h a _ e
end
abbrev KD:=D->ao->Prop
abbrev KX:=Addr->ao->Prop
abbrev SD:=List<|Option D
def iE(K:Frag)(H:Hp):SD->St->Prop:=Paired λ(o:Option D)(u:Option V)=>∀d,o=some d->∃v,u=some v/\Rv K H d v
section
variable{K:Frag}{H H':Hp}
theorem iE.ts(s:Kp K H H'):∀{σ:SD}{τ:St},iE K H σ τ->iE K H' σ τ|_,_,.nil=>.nil|_,_,.cons r t=>.cons (λd e=>by obtain⟨v,e1,r1⟩:=r d e;exact{v,e1,Rv.ts s _ r1})<|iE.ts s t
theorem iE.get:∀{σ:SD}{τ:St}{i:Nat}{d:D},iE K H σ τ->σ[i]?=some (some d)->∃v,τ[i]?=some (some v)/\Rv K H d v|_,_,i,d,.nil,e=>by simp at e|_,_,0,d,.cons r t,e=>(by simp at e;obtain⟨v,e1,r1⟩:=r d e;exact{v,by simp[e1],r1})|_,_,i+1,d,.cons r t,e=>by obtain⟨v,e1,r1⟩:=iE.get (i:=i) t (by simpa using e);exact{v,by simpa using e1,r1}
theorem iE.set:∀{σ:SD}{τ:St}(i:Nat){d:D}{v:V},iE K H σ τ->Rv K H d v->iE K H (σ.set i<|some d) (τ.set i<|some v)|_,_,i,d,v,.nil,r=>.nil|_,_,0,d,v,.cons r t,q=>(.cons (λd' e=>by cases e;exact⟨v,rfl,q⟩) t)|_,_,i+1,d,v,.cons r t,q=>.cons r<|iE.set i t q
theorem rV:∀(n:Nat)(τ:St),τ.length=n->iE K H (List.replicate n none) τ|0,[],_=>.nil|n+1,_::τ,h=>.cons (λd e=>by cases e)<|rV n τ<|by simpa using h
theorem rW:∀{ds:List D}{vs:List V},RvAll K H ds vs->iE K H (ds.map some) (vs.map some)|[],vs,h=>by rw[h.nil];exact .nil|d::ds,vs,h=>by obtain⟨y,ys,rfl,h1,h2⟩:=h.cons;exact .cons (λd' e=>by cases e;exact⟨y,rfl,h1⟩)<|rW h2
theorem iE.app:∀{σ aA:SD}{τ TF:St},iE K H σ τ->iE K H aA TF->iE K H (σ++aA) (τ++TF)|_,_,_,_,.nil,h=>h|_,_,_,_,.cons r t,h=>.cons r<|iE.app t h
end
structure Rdy(Y:Cx)(E:St->XK)(b:Bool):Prop where
 call:∀p2 τ H s e s',Inv Y p2 τ H s->fH Y.prog Y.w Y.mg Y.stack H s (E τ) e s'->Y.xe e s'
 own:b=true->∀p2 τ H s h' a cls args,Inv Y p2 τ H s->Heap.MadeExcOf s.heap h' a cls args->E τ cls none H->Y.xe (.ref a) {s with heap:=h'}
 loop:b=true->PassesOwn (model Y.prog Y.w) Y.A Y.env Y.xe
structure Ev(X:Cx)(b:Bool) where
 pn:List (Addr×Obj)
 xe:Value->Shared->Prop
 E:St->XK
 ok:Rdy {X with pn:=pn,xe:=xe} E b
noncomputable abbrev Ev.cx{X:Cx}{b:Bool}(y:Ev X b):Cx:={X with pn:=y.pn,xe:=y.xe}
def Cn(K:Frag)(H:Hp)(R:KD)(Q:VK):Prop:=∀d S v H',R d S->Rv K H' d v->Rs K S H'->Kp K H H'->Q v H'
def GJ(K:Frag)(H:Hp)(Z:KX)(e:XK):Prop:=∀C S H',Z C S->Rs K S H'->Kp K H H'->e (.ref C) none H'
theorem Cn.kp{K:Frag}{H H1:Hp}{R:KD}{Q:VK}(h:Cn K H R Q)(k:Kp K H H1):Cn K H1 R Q:=λd S v H' r v1 s1 k1=>h d S v H' r v1 s1<|k.trans k1
theorem GJ.kp{K:Frag}{H H1:Hp}{Z:KX}{e:XK}(h:GJ K H Z e)(k:Kp K H H1):GJ K H1 Z e:=λC S H' r s1 k1=>h C S H' r s1<|k.trans k1
abbrev TD:=SD->ao->KD->KX->Prop
def T(K:Frag)(E:St->XK)(t:TD):TE:=λτ H Q=>∃σ S R Z,iE K H σ τ/\Rs K S H/\t σ S R Z/\Cn K H R Q/\GJ K H Z (E τ)
structure DE(K:Frag)(X:Cx)(e:Expr)(t:TD):Prop where
 of:∀{b:Bool}(y:Ev X b),PE y.cx e<|T K y.E t
abbrev mq:=SD->ao->(Bool->ao->Prop)->KX->Prop
def X5(K:Frag)(H:Hp)(R:Bool->ao->Prop)(Q:Bool->Hp->Prop):Prop:=∀b S H',R b S->Rs K S H'->Kp K H H'->Q b H'
theorem X5.kp{K:Frag}{H H1:Hp}{R:Bool->ao->Prop}{Q:Bool->Hp->Prop}(h:X5 K H R Q)(k:Kp K H H1):X5 K H1 R Q:=λd S H' r s1 k1=>h d S H' r s1<|k.trans k1
def Tt(K:Frag)(E:St->XK)(t:mq):TT:=λτ H Q=>∃σ S R Z,iE K H σ τ/\Rs K S H/\t σ S R Z/\X5 K H R Q/\GJ K H Z (E τ)
structure DT(K:Frag)(X:Cx)(e:Expr)(t:mq):Prop where
 of:∀{b:Bool}(y:Ev X b),PT y.cx e<|Tt K y.E t
abbrev iw:=SD->ao->(List D->ao->Prop)->KX->Prop
def CnA(K:Frag)(H:Hp)(R:List D->ao->Prop)(Q:List V->Hp->Prop):Prop:=∀ds S vs H',R ds S->RvAll K H' ds vs->Rs K S H'->Kp K H H'->Q vs H'
def Ta(K:Frag)(E:St->XK)(t:iw):TA:=λτ H Q=>∃σ S R Z,iE K H σ τ/\Rs K S H/\t σ S R Z/\CnA K H R Q/\GJ K H Z (E τ)
structure DA(K:Frag)(X:Cx)(es:mt)(t:iw):Prop where
 of:∀{b:Bool}(y:Ev X b),PA y.cx es<|Ta K y.E t
theorem PE.mono{t t':TE}(h:PE X e t)(i:∀τ H Q,t' τ H Q->t τ H Q):PE X e t':=λpins s τ H Q I q=>h pins s τ H Q I<|i τ H Q q
theorem PT.mono{t t':TT}(h:PT X e t)(i:∀τ H Q,t' τ H Q->t τ H Q):PT X e t':=λpins s τ H Q I q=>h pins s τ H Q I<|i τ H Q q
theorem PA.mono{t t':TA}(h:PA X e t)(i:∀τ H Q,t' τ H Q->t τ H Q):PA X e t':=λpos pins s τ H Q I q=>h pos pins s τ H Q I<|i τ H Q q
section
variable{K:Frag}{X:Cx}
inductive VB(i:Nat)(σ:SD)(S:ao)(R:KD):Prop where
 |mk (d:D)(h:σ[i]?=some (some d))(r:R d S)
def VC(i:Nat):TD:=λσ S R _=>VB i σ S R
inductive TH(x:D)(S:ao)(R:Bool->ao->Prop):Prop where
 |mk (b:Bool)(h:x=.bl b)(r:R b S)
def dC(d:D):TD:=λ_ S R _=>R d S
theorem dv(i:Nat)(hN:autoParam (X.N[i]?=some x) qQJ)(hv:PH X.env.scope x:=by first|exact Or.inl rfl|exact Or.inr (Or.inl rfl)|exact Or.inr (Or.inr rfl))(hd:autoParam ((x==("__debug__": Str))=false) qQZ)(tZ:autoParam ((x==("__classdict__": Str))=false) qQZ):DE K X (.Name x pos) (VC i):=⟨λy=>(PQ (X:=y.cx) hN hv hd tZ).mono <| by rintro τ H Q ⟨σ,S,R,Z,aC,hS,⟨d,e,r⟩,hR,_⟩;exact by obtain⟨v,e1,rv⟩:=aC.get e;exact{v,e1,hR d S v H r rv hS<|Kp.refl _}⟩
theorem DE.const(h:∀Y:Cx,Y.env=X.env->Y.mg=X.mg->PE Y e (tC v))(r:∀H,Rv K H d v):DE K X e (dC d):=⟨λy=>(h y.cx rfl rfl).mono <| by rintro τ H Q ⟨σ,S,R,Z,aC,hS,q,hR,_⟩;exact hR d S v H q (r H) hS<|Kp.refl _⟩
theorem di:DE K X (.Constant (.int i) j pos) (dC<|.int i):=.const (λ_ _ _=>Ij) λ_=>aT i
theorem ds:DE K X (.Constant (.str i) j pos) (dC<|.str i):=.const (λ_ _ _=>PU) λ_=>dZ i
theorem db:DE K X (.Constant (.bool i) j pos) (dC<|.bl i):=.const (λ_ _ _=>Od) λ_=>bO i
theorem dn:DE K X (.Constant .none j pos) (dC .av):=.const (λ_ _ _=>PR) λ_=>jz
theorem dg(hm:X.mg x=some u)(r:RelV v u)(rd:∀H,Rv K H d v)(hg:autoParam (Gl X x) qQJ)(hd:autoParam ((x==("__debug__": Str))=false) qQZ):DE K X (.Name x pos) (dC d):=.const (λY e1 e2=>Ep (X:=Y) (u:=u) (show Y.env.kindOf x=_ by rw[e1];exact hg) (by rw[e2];exact hm) r hd) rd
theorem t6(hm:X.mg x=none)(hv:bootBuiltins x=some (.type n))(hg:autoParam (Gl X x) qQJ)(hn:autoParam (x≠"__name__") qQZ)(hd:autoParam ((x==("__debug__": Str))=false) qQZ):DE K X (.Name x pos) (dC<|.ty n):=.const (λY e1 e2=>LR (X:=Y) (v:=.ty n) (show Y.env.kindOf x=_ by rw[e1];exact hg) (by rw[e2];exact hm) hv rfl hn hd) λ_=>VA n
def MM:iw:=λ_ S R _=>R [] S
def OE(t:TD)(u:iw):iw:=λσ S R Z=>t σ S (λd S1=>u σ S1 (λds S2=>R (d::ds) S2) Z) Z
theorem an:DA K X [] MM:=⟨λy=>(Ca (X:=y.cx)).mono <| by rintro τ H Q ⟨σ,S,R,Z,aC,hS,q,hR,_⟩;exact hR [] S [] H q bx hS<|Kp.refl _⟩
theorem ac{t:TD}(h:DE K X e t)(hr:DA K X es u)(hp:autoParam (isPlain e=true) qQJ):DA K X (e::es) (OE t u):=
 ⟨λy=>(ZI (h.of y) (hr.of y) hp).mono <| by rintro τ H Q ⟨σ,S,R,Z,aC,hS,q,hR,hZ⟩;exact
  ⟨σ,S,_,Z,aC,hS,q,λd S1 x H1 r1 v1 s1 k1=>⟨σ,S1,_,Z,aC.ts k1,s1,r1,λds S2 xs H2 r2 v2 s2 k2=>hR (d::ds) S2 (x::xs) H2 r2 (aW (Rv.ts k2 _ v1) v2) s2<|k1.trans k2,hZ.kp k1⟩,hZ⟩⟩
abbrev ve:=D->D->ao->KD->Prop
theorem ap{x:Str}{pos:Pos}(i:Nat)(hr:DA K X es u)(hN:autoParam (X.N[i]?=some x) qQJ)(hv:PH X.env.scope x:=by first|exact Or.inl rfl|exact Or.inr (Or.inl rfl)|exact Or.inr (Or.inr rfl))(hd:autoParam ((x==("__debug__": Str))=false) qQZ)(tZ:autoParam ((x==("__classdict__": Str))=false) qQZ):DA K X (.Name x pos::es) (OE (VC i) u):=ac (dv i hN hv hd tZ) hr rfl
def Lr(K:Frag)(r:ve):R2:=λx y H Q=>∃d e S R,Rv K H d x/\Rv K H e y/\Rs K S H/\r d e S R/\Cn K H R Q
def pI(K:Frag)(f:Value->Value->Sem Value)(r:ve):Prop:=∀X:Cx,X.K=K->X.A.units+64<cLine->iB X f (Lr K r)
def Q6(r:ve)(ta tb:TD):TD:=λσ S R Z=>ta σ S (λx S1=>tb σ S1 (λy S2=>r x y S2 R) Z) Z
theorem T.op(h:T K E (Q6 r ta tb) τ H Q):Tf (Lr K r) (T K E ta) (T K E tb) τ H Q:=by obtain⟨σ,S,R,Z,aC,hS,q,hR,hZ⟩:=h;exact{σ,S,_,Z,aC,hS,q,λd S1 x H1 r1 v1 s1 k1=>{σ,S1,_,Z,aC.ts k1,s1,r1,λe S2 y H2 r2 v2 s2 k2=>{d,e,S2,R,Rv.ts k2 _ v1,v2,s2,r2,hR.kp<|k1.trans k2},hZ.kp k1},hZ}
theorem bo(ho:pI K (binaryOp op) r)(hu:X.A.units+64<cLine)(ha:DE K X a ta)(hb:DE K X b tb)(hK:autoParam (X.K=K) qQJ):DE K X (.BinOp a op b pos) (Q6 r ta tb):=⟨λy=>(UJ (ho y.cx hK hu) (ha.of y)<|hb.of y).mono λ_ _ _ h=>h.op⟩
theorem be(ho:pI K (binaryOp op) r)(ha:DE K X a ta)(hb:DE K X b tb)(hu:X.A.units+64<cLine:=by assumption)(hK:autoParam (X.K=K) qQJ):DE K X (.BinOp a op b pos) (Q6 r ta tb):=bo ho hu ha hb hK
theorem cm(ho:pI K (compareOp op) r)(hu:X.A.units+64<cLine)(ha:DE K X a ta)(hb:DE K X b tb)(hm:autoParam (behindInMarks op b=false) qQ2)(hK:autoParam (X.K=K) qQJ):DE K X (.Compare a [op] [b] pos) (Q6 r ta tb):=⟨λy=>(Ex (ho y.cx hK hu) (ha.of y) (hb.of y) hm).mono λ_ _ _ h=>h.op⟩
theorem bi(ho:pI K (compareOp op) r)(ha:DE K X a ta)(hb:DE K X b tb)(hu:X.A.units+64<cLine:=by assumption)(hm:autoParam (behindInMarks op b=false) qQ2)(hK:autoParam (X.K=K) qQJ):DE K X (.Compare a [op] [b] pos) (Q6 r ta tb):=cm ho hu ha hb hm hK
def dB(t:TD):mq:=λσ S R Z=>t σ S (λx S1=>TH x S1 R) Z
theorem Tt.b{t:TD}(h:Tt K E (dB t) τ H Q):T K E t τ H λx H'=>∃k,x=.bl k/\Q k H':=by obtain⟨σ,S,R,Z,aC,hS,q,hR,hZ⟩:=h;exact{σ,S,_,Z,aC,hS,q,by rintro d S1 x H1 ⟨b,e,r1⟩ v1 s1 k1;exact by subst e;exact{b,v1.bl,hR b S1 H1 r1 s1 k1},hZ}
theorem Tt.bop(h:Tt K E (dB<|Q6 r ta tb) τ H Q):Iw (Tf (Lr K r) (T K E ta)<|T K E tb) τ H Q:=h.b.op
theorem a_(ho:pI K (compareOp op) r)(hu:X.A.units+64<cLine)(ha:DE K X a ta)(hb:DE K X b tb)(hm:autoParam (behindInMarks op b=false) qQ2)(hK:autoParam (X.K=K) qQJ):DT K X (.Compare a [op] [b] pos) (dB<|Q6 r ta tb):=⟨λy=>(L6 (ho y.cx hK hu) (ha.of y) (hb.of y) hm).mono λ_ _ _ h=>h.bop⟩
theorem bn(ho:pI K (compareOp op) r)(ha:DE K X a ta)(hb:DE K X b tb)(hu:X.A.units+64<cLine:=by assumption)(hm:autoParam (behindInMarks op b=false) qQ2)(hK:autoParam (X.K=K) qQJ):DT K X (.Compare a [op] [b] pos) (dB<|Q6 r ta tb):=a_ ho hu ha hb hm hK
theorem tv{t:TD}(h:DE K X e t)(he:autoParam (∀whole,isTrue e X.env whole=(do let v <-whole;standAt e.pos;holding [v] (truthy v))) qQ0):DT K X e (dB t):=⟨λy=>(PX (X:=y.cx) (h.of y) he).mono λ_ _ _ h=>h.b⟩
def CO(r r':ve)(ta tb tc:TD):TD:=λσ S R Z=>ta σ S (λx S1=>tb σ S1 (λy S2=>r x y S2 λz S3=>TH z S3 λk S3=>if k=true then tc σ S3 (λw S4=>r' y w S4 R) Z else R (.bl false) S3) Z) Z
theorem T.chain(h:T K E (CO r r' ta tb tc) τ H Q):B0 (Lr K r) (Lr K r') (T K E ta) (T K E tb) (T K E tc) τ H Q:=by obtain⟨σ,S,R,Z,aC,hS,q,hR,hZ⟩:=h;refine{σ,S,_,Z,aC,hS,q,λd S1 x H1 r1 v1 s1 k1=>{σ,S1,_,Z,aC.ts k1,s1,r1,λe S2 y H2 r2 v2 s2 k2=>{d,e,S2,_,Rv.ts k2 _ v1,v2,s2,r2,λz S3 v H3 r3 v3 s3 k3=>?_},hZ.kp k1},hZ};obtain⟨k,rfl,r3⟩:=r3;refine{k,v3.bl,?_};cases k with|true=>rw[if_pos rfl]at r3⊢;exact{σ,S3,_,Z,((aC.ts k1).ts k2).ts k3,s3,r3,λw S4 wv H4 r4 v4 s4 k4=>{e,w,S4,R,Rv.ts (k3.trans k4) _ v2,v4,s4,r4,hR.kp<|((k1.trans k2).trans k3).trans k4},hZ.kp<|(k1.trans k2).trans k3}|false=>rw[if_neg zd]at r3⊢;exact hR _ S3 _ H3 r3 (bO false) s3<|(k1.trans k2).trans k3
theorem cc(ho:pI K (compareOp op) r)(BV:pI K (compareOp Ga) r')(hu:X.A.units+64<cLine)(ha:DE K X a ta)(hb:DE K X b tb)(hc:DE K X c tc)(hm:autoParam (lastMarks [op,Ga] [b,c]=false) qQ2)(hK:autoParam (X.K=K) qQJ):DE K X (.Compare a [op,Ga] [b,c] pos) (CO r r' ta tb tc):=⟨λy=>(Iy (ho y.cx hK hu) (BV y.cx hK hu) (ha.of y) (hb.of y) (hc.of y) hm).mono λ_ _ _ h=>h.chain⟩
theorem X6(ho:pI K (compareOp op) r)(BV:pI K (compareOp Ga) r')(hu:X.A.units+64<cLine)(ha:DE K X a ta)(hb:DE K X b tb)(hc:DE K X c tc)(hm:autoParam (lastMarks [op,Ga] [b,c]=false) qQ2)(hK:autoParam (X.K=K) qQJ):DT K X (.Compare a [op,Ga] [b,c] pos) (dB<|CO r r' ta tb tc):=⟨λy=>(Iz (ho y.cx hK hu) (BV y.cx hK hu) (ha.of y) (hb.of y) (hc.of y) hm).mono λ_ _ _ h=>h.b.chain⟩
def VD(ta tb:TD):TD:=λσ S R Z=>ta σ S (λx S1=>TH x S1 λc S1=>if c=true then tb σ S1 R Z else R (.bl false) S1) Z
def ZZ(ta tb:TD):TD:=λσ S R Z=>ta σ S (λx S1=>TH x S1 λc S1=>if c=true then R (.bl true) S1 else tb σ S1 R Z) Z
def VE(ta:TD):TD:=λσ S R Z=>ta σ S (λx S1=>TH x S1 λc S1=>R (.bl<|!c) S1) Z
theorem HW{t:TD}(h:DE K X a t):DE K X (.BoolOp op [a] pos) t:=⟨λy=>PZ<|h.of y⟩
theorem qt{a b:Expr}{rest:mt}{ta tb:TD}{pos:Pos}(ha:DE K X a ta)(hb:DE K X (.BoolOp .And (b::rest) pos) tb):DE K X (.BoolOp .And (a::b::rest) pos) (VD ta tb):=
 ⟨λy=>(P0 (ha.of y)<|hb.of y).mono <| by rintro τ H Q ⟨σ,S,R,Z,aC,hS,q,hR,hZ⟩;exact
  ⟨σ,S,_,Z,aC,hS,q,by
   rintro d S1 x H1 ⟨c,e,r1⟩ v1 s1 k1
   subst e
   refine{c,v1.bl,?_}
   cases c with
   |true=>rw[if_pos rfl]at r1⊢;exact{σ,S1,R,Z,aC.ts k1,s1,r1,hR.kp k1,hZ.kp k1}
   |false=>rw[if_neg zd]at r1⊢;exact hR _ S1 _ H1 r1 (bO false) s1 k1,hZ⟩⟩
theorem eor{a b:Expr}{rest:mt}{ta tb:TD}{pos:Pos}(ha:DE K X a ta)(hb:DE K X (.BoolOp .Or (b::rest) pos) tb):DE K X (.BoolOp .Or (a::b::rest) pos) (ZZ ta tb):=
 ⟨λy=>(Uw (ha.of y)<|hb.of y).mono <| by rintro τ H Q ⟨σ,S,R,Z,aC,hS,q,hR,hZ⟩;exact
  ⟨σ,S,_,Z,aC,hS,q,by
   rintro d S1 x H1 ⟨c,e,r1⟩ v1 s1 k1
   subst e
   refine{c,v1.bl,?_}
   cases c with
   |false=>rw[if_neg zd]at r1⊢;exact{σ,S1,R,Z,aC.ts k1,s1,r1,hR.kp k1,hZ.kp k1}
   |true=>rw[if_pos rfl]at r1⊢;exact hR _ S1 _ H1 r1 (bO true) s1 k1,hZ⟩⟩
theorem Q7(ha:DE K X a ta):DE K X (.UnaryOp .Not a pos) (VE ta):=
 ⟨λy=>(P1<|ha.of y).mono <| by rintro τ H Q ⟨σ,S,R,Z,aC,hS,q,hR,hZ⟩;exact
  ⟨σ,S,_,Z,aC,hS,q,by rintro d S1 x H1 ⟨c,e,r1⟩ v1 s1 k1;exact by subst e;exact⟨c,v1.bl,hR _ S1 _ H1 r1 (bO _) s1 k1⟩,hZ⟩⟩
def Z1(t:mq):mq:=λσ S R Z=>t σ S (λc S1=>R (!c) S1) Z
def Z2(t u:mq):mq:=λσ S R Z=>t σ S (λc S1=>if c=true then u σ S1 R Z else R false S1) Z
def dOr(t u:mq):mq:=λσ S R Z=>t σ S (λc S1=>if c=true then R true S1 else u σ S1 R Z) Z
theorem cF{t:mq}(ha:DT K X a t):DT K X (.UnaryOp .Not a pos) (Z1 t):=⟨λy=>(PY<|ha.of y).mono <| by rintro τ H Q ⟨σ,S,R,Z,aC,hS,q,hR,hZ⟩;exact{σ,S,_,Z,aC,hS,q,λc S1 H1 r1 s1 k1=>hR _ S1 H1 r1 s1 k1,hZ}⟩
structure DW(K:Frag)(X:Cx)(e:Expr)(t:mq):Prop where
 of:∀{b:Bool}(y:Ev X b),PW y.cx e<|Tt K y.E t
theorem PW.mono{t t':TT}(h:PW X e t)(i:∀τ H Q,t' τ H Q->t τ H Q):PW X e t':=λwh pins s τ H Q I q=>h wh pins s τ H Q I<|i τ H Q q
theorem twd{t:mq}(h:DW K X e t):DT K X e t:=⟨λy=>(h.of y).pt⟩
theorem tw1{t:mq}(h:DT K X a t):DW K X (.BoolOp op [a] pos) t:=⟨λy=>by cases op with|And=>exact pw_and1 (h.of y)|Or=>exact pw_or1<|h.of y⟩
theorem twand{a b:Expr}{rest:mt}{t u:mq}{pos:Pos}(ha:DT K X a t)(hb:DW K X (.BoolOp .And (b::rest) pos) u):DW K X (.BoolOp .And (a::b::rest) pos) (Z2 t u):=
 ⟨λy=>(pw_and (ha.of y)<|hb.of y).mono <| by rintro τ H Q ⟨σ,S,R,Z,aC,hS,q,hR,hZ⟩;exact
  ⟨σ,S,_,Z,aC,hS,q,λc S1 H1 r1 s1 k1=>by
   cases c with
   |true=>rw[if_pos rfl]at r1⊢;exact{σ,S1,R,Z,aC.ts k1,s1,r1,hR.kp k1,hZ.kp k1}
   |false=>rw[if_neg zd]at r1⊢;exact hR _ S1 H1 r1 s1 k1,hZ⟩⟩
theorem twor{a b:Expr}{rest:mt}{t u:mq}{pos:Pos}(ha:DT K X a t)(hb:DW K X (.BoolOp .Or (b::rest) pos) u):DW K X (.BoolOp .Or (a::b::rest) pos) (dOr t u):=
 ⟨λy=>(pw_or (ha.of y)<|hb.of y).mono <| by rintro τ H Q ⟨σ,S,R,Z,aC,hS,q,hR,hZ⟩;exact
  ⟨σ,S,_,Z,aC,hS,q,λc S1 H1 r1 s1 k1=>by
   cases c with
   |false=>rw[if_neg zd]at r1⊢;exact{σ,S1,R,Z,aC.ts k1,s1,r1,hR.kp k1,hZ.kp k1}
   |true=>rw[if_pos rfl]at r1⊢;exact hR _ S1 H1 r1 s1 k1,hZ⟩⟩
def Z3(t:mq)(ta tb:TD):TD:=λσ S R Z=>t σ S (λc S1=>if c=true then ta σ S1 R Z else tb σ S1 R Z) Z
theorem Q8{t:mq}(hc:DT K X c t)(ha:DE K X a ta)(hb:DE K X b tb):DE K X (.IfExp c a b pos) (Z3 t ta tb):=
 ⟨λy=>(Ik (hc.of y) (ha.of y)<|hb.of y).mono <| by rintro τ H Q ⟨σ,S,R,Z,aC,hS,q,hR,hZ⟩;exact
  ⟨σ,S,_,Z,aC,hS,q,λc S1 H1 r1 s1 k1=>by
   cases c with
   |true=>rw[if_pos rfl]at r1⊢;exact{σ,S1,R,Z,aC.ts k1,s1,r1,hR.kp k1,hZ.kp k1}
   |false=>rw[if_neg zd]at r1⊢;exact{σ,S1,R,Z,aC.ts k1,s1,r1,hR.kp k1,hZ.kp k1},hZ⟩⟩
def Z4(t:iw):TD:=λσ S R Z=>t σ S (λds S1=>ds.length<=sizeLine/\∀p,S1 p=none->R (.ref p) (S1.set p<|.lst ds)) Z
def Z5(t:iw):TD:=λσ S R Z=>t σ S (λds S1=>ds.length<=sizeLine/\R (.tup ds) S1) Z
theorem b_{t:iw}(h:DA K X es t):DE K X (.List es pos) (Z4 t):=
 ⟨λy=>(Qq<|h.of y).mono <| by rintro τ H Q ⟨σ,S,R,Z,aC,hS,q,hR,hZ⟩;exact
  ⟨σ,S,_,Z,aC,hS,q,by rintro ds S1 xs H1 ⟨hl,r1⟩ v1 s1 k1;exact⟨by rw[v1.len];exact hl,λp hp=>hR _ _ _ _ (r1 p<|s1.fresh hp) (iC p) (s1.new hp ⟨xs,aG,RvAll.ts (.new hp) _ v1⟩)<|k1.trans<|.new hp⟩,hZ⟩⟩
theorem cQ{t:iw}(h:DA K X es t):DE K X (.Tuple es x1 pos) (Z5 t):=
 ⟨λy=>(Qp<|h.of y).mono <| by rintro τ H Q ⟨σ,S,R,Z,aC,hS,q,hR,hZ⟩;exact
  ⟨σ,S,_,Z,aC,hS,q,by rintro ds S1 xs H1 ⟨hl,r1⟩ v1 s1 k1;exact⟨by rw[v1.len];exact hl,λp hp=>hR _ _ _ _ r1 (oi aG<|RvAll.ts (.new hp) _ v1) (s1.grow hp)<|k1.trans<|.new hp⟩,hZ⟩⟩
def Z6:TD:=λ_ S R _=>∀p,S p=none->R (.ref p) (S.set p<|.dM [])
theorem VF:DE K X (.Dict [] [] pos) Z6:=⟨λy=>(IM (X:=y.cx)).mono <| by rintro τ H Q ⟨σ,S,R,Z,aC,hS,q,hR,hZ⟩ p hp;exact hR _ _ _ _ (q p<|hS.fresh hp) (iC p) (hS.new hp {[],aG,.nil})<|.new hp⟩
def Lc(K:Frag)(r:List D->ao->KD->Prop):List V->Hp->VK->Prop:=λxs H Q=>∃ds S R,RvAll K H ds xs/\Rs K S H/\r ds S R/\Cn K H R Q
def g7(K:Frag)(f:Value)(r:List D->ao->KD->Prop):Prop:=∀X:Cx,X.K=K->X.calm=true->eN X f (Lc K r)
def X7(r:List D->ao->KD->Prop)(t:iw):TD:=λσ S R Z=>t σ S (λds S1=>r ds S1 R) Z
theorem T.cb{t:iw}(h:T K E (X7 r t) τ H Q):Zi (Lc K r) (Ta K E t) τ H Q:=by obtain⟨σ,S,R,Z,aC,hS,q,hR,hZ⟩:=h;exact{σ,S,_,Z,aC,hS,q,λds S1 xs H1 r1 v1 s1 k1=>{ds,S1,R,v1,s1,r1,hR.kp k1},hZ}
theorem cb{x:Str}{id:String}{r:List D->ao->KD->Prop}{e:Expr}{es:mt}{t:iw}{p pos:Pos}(hc:g7 K (.builtin id) r)(hm:X.mg x=none)(hv:bootBuiltins x=some (.builtin id))(ha:DA K X (e::es) t)(hg:autoParam (Gl X x) qQJ)(hn:autoParam (x≠"__name__") qQZ)(qp:autoParam ((x==("__debug__": Str))=false) qQZ)(he:autoParam (starEach (e::es) X.env=(false,eval e X.env)::starEach es X.env) qQJ)(dG:autoParam ((backTo pos<|starEach es X.env).any (·.1)=false) qQJ)(hK:autoParam (X.K=K) qQJ)(hC:autoParam (X.calm=true) qQJ): DE K X (.Call (.Name x p) (e::es) [] pos) (X7 r t):=⟨λy=>(y8 (X:=y.cx) (hc _ hK hC) hg hm hv (ha.of y) hn qp he dG).mono λ_ _ _ h=>h.cb⟩
theorem ct{x:Str}{id:String}{r:List D->ao->KD->Prop}{e:Expr}{es:mt}{t:iw}{p pos:Pos}(hc:g7 K (.type id) r)(hm:X.mg x=none)(hv:bootBuiltins x=some (.type id))(ha:DA K X (e::es) t)(hg:autoParam (Gl X x) qQJ)(hn:autoParam (x≠"__name__") qQZ)(qp:autoParam ((x==("__debug__": Str))=false) qQZ)(he:autoParam (starEach (e::es) X.env=(false,eval e X.env)::starEach es X.env) qQJ)(dG:autoParam ((backTo pos<|starEach es X.env).any (·.1)=false) qQJ)(hK:autoParam (X.K=K) qQJ)(hC:autoParam (X.calm=true) qQJ): DE K X (.Call (.Name x p) (e::es) [] pos) (X7 r t):=⟨λy=>(uZ (X:=y.cx) (hc _ hK hC) hg hm hv (ha.of y) hn qp he dG).mono λ_ _ _ h=>h.cb⟩
end
section
variable{K:Frag}
theorem Cn.now(h:Cn K H R Q)(hS:Rs K S H)(r:R d S)(rv:Rv K H d v):Q v H:=h d S v H r rv hS<|.refl _
theorem Cn.new{H:Hp}{R:KD}{Q:VK}{S:ao}{p:Addr}{ds:List D}{xs:List V}(h:Cn K H R Q)(hS:Rs K S H)(hp:H p=none)(r:S p=none->R (.ref p) (S.set p<|.lst ds))(rv:RvAll K H ds xs):Q (.ref p) (upd H p<|.lst xs):=h _ _ _ _ (r<|hS.fresh hp) (iC p) (hS.new hp {xs,aG,RvAll.ts (.new hp) _ rv})<|.new hp
theorem Cn.VG{H:Hp}{R:KD}{Q:VK}{S:ao}{p:Addr}{ds:List D}{xs:List V}(h:Cn K H R Q)(hS:Rs K S H)(hp:H p=none)(r:R (.tup ds) S)(rv:RvAll K H ds xs):Q (.ref p) (upd H p<|.tup xs):=h _ _ _ _ r (oi aG<|RvAll.ts (.new hp) _ rv) (hS.grow hp)<|.new hp
theorem Cn.put{H:Hp}{R:KD}{Q:VK}{S:ao}{p:Addr}{ds es:List D}{xs:List V}{d:D}{v:V}(h:Cn K H R Q)(hS:Rs K S H)(hp:S p=some (.lst es))(r:R d<|S.set p<|.lst ds)(rd:Rv K H d v)(rv:RvAll K H ds xs):Q v (upd H p<|.lst xs):=h _ _ _ _ r (Rv.ts (hS.iD hp) _ rd) (hS.put hp {xs,aG,RvAll.ts (hS.iD hp) _ rv})<|hS.iD hp
def rX(S:ao):D->List D->Prop|.ref a,ds=>S a=some (.lst ds)|.jl es,ds=>es=ds|_,_=>False
theorem rX.at{H:Hp}{S:ao}{d:D}{ds:List D}{v:V}(h:rX S d ds)(hS:Rs K S H)(r:Rv K H d v):∃a xs,v=.ref a/\jq K H a xs/\RvAll K H ds xs:=by cases d with|ref a=>(obtain⟨xs,e,q⟩:=hS.lst h;exact{a,xs,r.ref,.of e,q})|jl es=>(have h:es=ds:=h;subst h;obtain⟨a,xs,e,q,t⟩:=r.jl;exact⟨a,xs,e,q.sq,t⟩)|_=>exact h.elim
def Z7:ve:=λx y S R=>match x,y with|.int i,.int j=>R (.int<|i-j) S|_,_=>False
theorem kZ:pI K (binaryOp .Sub) Z7:=by rintro X hK hu pins s σ H x y v u Q I rx ry ⟨d,e,S,R,r1,r2,hS,h,hR⟩;cases d<;>cases e<;>first|exact False.elim h|exact Qg pins s σ H x y v u Q I rx ry {_,_,r1.int,r2.int,hR.now hS h<|aT _}
def Z8:ve:=λx y S R=>match x,y with|.int i,.int j=>L4 i j/\R (.int<|i*j) S|.str z,.int n=>MulOk z n/\R (.str<|PySem.Txt.mul z n) S|_,_=>False
theorem rY:pI K (binaryOp .Mult) Z8:=by rintro X hK hu pins s σ H x y v u Q I rx ry ⟨d,e,S,R,r1,r2,hS,h,hR⟩;cases d<;>cases e<;>first|exact False.elim h|exact Qh pins s σ H x y v u Q I rx ry {_,_,r1.int,r2.int,h.1,hR.now hS h.2<|aT _}|exact CF pins s σ H x y v u Q I rx ry {_,_,r1.str,r2.int,h.1,hR.now hS h.2<|dZ _}
def Z9:ve:=λx y S R=>match x,y with|.int i,.int j=>0<j/\R (.int<|i%j) S|_,_=>False
theorem bq:pI K (binaryOp .Mod) Z9:=by rintro X hK hu pins s σ H x y v u Q I rx ry ⟨d,e,S,R,r1,r2,hS,h,hR⟩;cases d<;>cases e<;>first|exact False.elim h|exact Qi pins s σ H x y v u Q I rx ry {_,_,r1.int,r2.int,h.1,hR.now hS h.2<|aT _}
def VH:ve:=λx y S R=>match x,y with|.int i,.int j=>Ox i j/\R (.int<|i/j) S|_,_=>False
theorem cg:pI K (binaryOp .FloorDiv) VH:=by rintro X hK hu pins s σ H x y v u Q I rx ry ⟨d,e,S,R,r1,r2,hS,h,hR⟩;cases d<;>cases e<;>first|exact False.elim h|exact IU pins s σ H x y v u Q I rx ry {_,_,r1.int,r2.int,h.1,hR.now hS h.2<|aT _}
def Z_:ve:=λx y S R=>match x,y with|.int i,.int j=>UL i j/\R (.int<|i^j.toNat) S|_,_=>False
theorem mJ:pI K (binaryOp .Pow) Z_:=by rintro X hK hu pins s σ H x y v u Q I rx ry ⟨d,e,S,R,r1,r2,hS,h,hR⟩;cases d<;>cases e<;>first|exact False.elim h|exact Qj pins s σ H x y v u Q I rx ry {_,_,r1.int,r2.int,h.1,hR.now hS h.2<|aT _}
def Jl(f:Int->Int->Bool)(g:Str->Str->Bool):ve:=λx y S R=>match x,y with|.int i,.int j=>R (.bl<|f i j) S|.str i,.str j=>R (.bl<|g i j) S|_,_=>False
theorem EJ(h1:∀X:Cx,iB X (compareOp op)<|LZ λi j=>.bl<|f i j)(h2:∀X:Cx,iB X (compareOp op) λx y H Q=>∃i j,x=.str i/\y=.str j/\Q (.bl<|g i j) H):pI K (compareOp op) (Jl f g):=by rintro X hK hu pins s σ H x y v u Q I rx ry ⟨d,e,S,R,r1,r2,hS,h,hR⟩;cases d<;>cases e<;>first|exact False.elim h|exact h1 X pins s σ H x y v u Q I rx ry {_,_,r1.int,r2.int,hR.now hS h<|bO _}|exact h2 X pins s σ H x y v u Q I rx ry {_,_,r1.str,r2.str,hR.now hS h<|bO _}
theorem rZ:pI K (compareOp .Lt) (Jl (λi j=>decide<|i<j) λi j=>nU i j):=EJ (λ_=>UN) λ_=>F9
theorem jA:pI K (compareOp .LtE) (Jl (λi j=>decide<|i<=j) λi j=>HU i j):=EJ (λ_=>UO) λ_=>Gw
theorem qu:pI K (compareOp .Gt) (Jl (λi j=>decide<|j<i) λi j=>nU j i):=EJ (λ_=>UP) λ_=>Gy
theorem aaa:pI K (compareOp .GtE) (Jl (λi j=>decide<|j<=i) λi j=>HU j i):=EJ (λ_=>UQ) λ_=>Gx
noncomputable def ag:D->Bool|.av=>true|_=>false
theorem Ao(r:Rv K H d v):decide (v=.av)=ag d:=by cases d with|av=>rw[r.av];rfl|bl b=>rw[r.bl];rfl|int b=>rw[r.int];rfl|str b=>rw[r.str];rfl|ref b=>rw[r.ref];rfl|ty b=>rw[r.ty];rfl|tup b=>(obtain⟨a,xs,rfl,_⟩:=r.tup;rfl)|jl b=>(obtain⟨a,xs,rfl,_⟩:=r.jl;rfl)|kt b=>obtain⟨a,xs,rfl,_⟩:=r.kt;rfl
def isD:ve:=λx y S R=>match y with|.av=>R (.bl<|ag x) S|_=>False
def VI:ve:=λx y S R=>match y with|.av=>R (.bl<|!ag x) S|_=>False
theorem fm:pI K (compareOp .Is) isD:=by rintro X hK hu pins s σ H x y v u Q I rx ry ⟨d,e,S,R,r1,r2,hS,h,hR⟩;cases e<;>first|exact False.elim h|exact Ql pins s σ H x y v u Q I rx ry {r2.av,by rw[Ao r1];exact hR.now hS h<|bO _}
theorem lQ:pI K (compareOp .IsNot) VI:=by rintro X hK hu pins s σ H x y v u Q I rx ry ⟨d,e,S,R,r1,r2,hS,h,hR⟩;cases e<;>first|exact False.elim h|exact L5 pins s σ H x y v u Q I rx ry {r2.av,by rw[Ao r1];exact hR.now hS h<|bO _}
mutual
def Dp(S:ao):D->PyData->Prop|.av,p=>p=.none|.bl b,p=>p=.bool b|.int i,p=>p=.int i|.str z,p=>p=.str z|.tup ds,p=>∃ps,p=.tuple ps/\DpAll S ds ps|.jl ds,p=>∃ps,p=.list ps/\DpAll S ds ps|.kt _,_=>False|.ref _,_=>False|.ty _,_=>False
def DpAll(S:ao):List D->List PyData->Prop|[],ps=>ps=[]|d::ds,ps=>∃q qs,ps=q::qs/\Dp S d q/\DpAll S ds qs
end
mutual
theorem Dp.dt:∀(d:D){p:PyData}{v:V},Dp S d p->Rv K H d v->Dt K H p v|.av,p,v,h,r=>by simp only[Dp]at h;subst h;simp only[Dt];exact r.av|.bl b,p,v,h,r=>by simp only[Dp]at h;subst h;simp only[Dt];exact r.bl|.int b,p,v,h,r=>by simp only[Dp]at h;subst h;simp only[Dt];exact r.int|.str b,p,v,h,r=>by simp only[Dp]at h;subst h;simp only[Dt];exact r.str|.tup ds,p,v,h,r=>(by simp only[Dp]at h;obtain⟨ps,rfl,h⟩:=h;obtain⟨a,xs,rfl,q,t⟩:=r.tup;simp only[Dt];exact{a,xs,rfl,.of q,DpAll.dt ds h t})|.jl ds,p,v,h,r=>(by simp only[Dp]at h;obtain⟨ps,rfl,h⟩:=h;obtain⟨a,xs,rfl,q,t⟩:=r.jl;simp only[Dt];exact{a,xs,rfl,q.sq,DpAll.dt ds h t})|.kt a,p,v,h,r=>by simp only[Dp]at h|.ref a,p,v,h,r=>by simp only[Dp]at h|.ty a,p,v,h,r=>by simp only[Dp]at h
theorem DpAll.dt:∀(ds:List D){ps:wl}{vs:List V},DpAll S ds ps->RvAll K H ds vs->DtAll K H ps vs|[],ps,vs,h,r=>by simp only[DpAll]at h;subst h;rw[r.nil];simp only[DtAll]|d::ds,ps,vs,h,r=>by simp only[DpAll]at h;obtain⟨q,qs,rfl,h1,h2⟩:=h;obtain⟨y,ys,rfl,r1,r2⟩:=r.cons;simp only[DtAll];exact{y,ys,rfl,Dp.dt d h1 r1,DpAll.dt ds h2 r2}
end
def Dl(S:ao):D->PyData->Prop|.ref a,p=>∃ds ps,S a=some (.lst ds)/\p=.list ps/\DpAll S ds ps|d,p=>Dp S d p
theorem Dl.dt(h:Dl S d p)(hS:Rs K S H)(r:Rv K H d v):Dt K H p v:=by cases d with|ref a=>(obtain⟨ds,ps,e,rfl,h⟩:=h;obtain⟨xs,e1,t⟩:=hS.lst e;rw[r.ref];simp only[Dt];exact{a,xs,rfl,.of e1,DpAll.dt ds h t})|_=>exact Dp.dt _ h r
def GK(neg:Bool):ve:=λx y S R=>match x,y with|.int i,.int j=>(R (.bl<|if neg then !decide (i=j) else decide (i=j)) S)|.str i,.str j=>(R (.bl<|if neg then !decide (i=j) else decide (i=j)) S)|x,y=>∃p q,Dl S x p/\Dl S y q/\p.canLay0=true/\q.canLay0=true/\(p.depth<=64\/q.depth<=64)/\R (.bl<|if neg then !PyData.eqv p q else PyData.eqv p q) S
theorem Jm(h:GK neg x y S R):(∃i j,x=.int i/\y=.int j/\R (.bl<|if neg then !decide (i=j) else decide (i=j)) S)\/(∃i j,x=.str i/\y=.str j/\R (.bl<|if neg then !decide (i=j) else decide (i=j)) S)\/∃p q,Dl S x p/\Dl S y q/\p.canLay0=true/\q.canLay0=true/\(p.depth<=64\/q.depth<=64)/\R (.bl<|if neg then !PyData.eqv p q else PyData.eqv p q) S:=by cases x<;>cases y<;>first|exact .inl {_,_,rfl,rfl,h}|exact .inr (.inl {_,_,rfl,rfl,h})|exact .inr (.inr h)
theorem aR:pI K (compareOp .Eq) (GK false):=by
 rintro X hK hu pins s σ H x y v u Q I rx ry ⟨d,e,S,R,r1,r2,hS,h,hR⟩;subst hK;rcases Jm h with⟨i,j,rfl,rfl,h⟩|⟨i,j,rfl,rfl,h⟩|⟨p,q,h1,h2,c1,c2,dp,h⟩;cases r1.int;cases r2.int;refine Ol pins s σ H _ _ v u Q I rx ry {rfl,?_};have e:decide (V.int i=V.int j)=decide (i=j):=by simp
 rw[e];exact hR.now hS h<|bO _;cases r1.str;cases r2.str;refine Ol pins s σ H _ _ v u Q I rx ry {rfl,?_};have e:decide (V.str i=V.str j)=decide (i=j):=by simp
 rw[e];exact hR.now hS h<|bO _;exact I_ hu pins s σ H x y v u Q I rx ry {p,q,h1.dt hS r1,h2.dt hS r2,c1,c2,dp,hR.now hS h<|bO _}
theorem g8:pI K (compareOp .NotEq) (GK true):=by
 rintro X hK hu pins s σ H x y v u Q I rx ry ⟨d,e,S,R,r1,r2,hS,h,hR⟩;subst hK;rcases Jm h with⟨i,j,rfl,rfl,h⟩|⟨i,j,rfl,rfl,h⟩|⟨p,q,h1,h2,c1,c2,dp,h⟩;cases r1.int;cases r2.int;refine Om pins s σ H _ _ v u Q I rx ry {rfl,?_};have e:decide (V.int i=V.int j)=decide (i=j):=by simp
 rw[e];exact hR.now hS h<|bO _;cases r1.str;cases r2.str;refine Om pins s σ H _ _ v u Q I rx ry {rfl,?_};have e:decide (V.str i=V.str j)=decide (i=j):=by simp
 rw[e];exact hR.now hS h<|bO _;exact Ja hu pins s σ H x y v u Q I rx ry {p,q,h1.dt hS r1,h2.dt hS r2,c1,c2,dp,hR.now hS h<|bO _}
noncomputable def bY(kvs:List<|Key×D)(k:Key):Option D:=(kvs.find? λkv=>decide<|kv.1=k).map (·.2)
noncomputable def dput(kvs:List<|Key×D)(k:Key)(v:D):List (Key×D):=if (kvs.any λkv=>decide<|kv.1=k)=true then kvs.map (λkv=>if kv.1=k then (kv.1,v) else kv) else kvs++[(k,v)]
noncomputable def Ap(kvs:List<|Key×D)(k:Key):List (Key×D):=kvs.filter λkv=>decide<|kv.1≠k
theorem bT.val(h:bT K H ks vs)(k:Key):(∀d,bY ks k=some d->∃v,gv vs k=some v/\Rv K H d v)/\(bY ks k=none->gv vs k=none):=by induction h with|nil=>(exact{λd e=>(by cases e),λ_=>rfl})|@cons a b l m r t ih=>obtain⟨k',d⟩:=a;obtain⟨k'',v⟩:=b;obtain⟨e0,r⟩:=r;dsimp only at e0;subst e0;unfold bY gv;simp only[yc];by_cases q:k'=k;rw[zu q];exact{λd' e=>{v,rfl,(by cases e;exact r)},λe=>(by cases e)};rw[zA q];exact ih
theorem bT.any(h:bT K H ks vs)(k:Key):(ks.any λkv=>decide<|kv.1=k)=(vs.any λkv=>decide<|kv.1=k):=by induction h with|nil=>rfl|cons r t ih=>rw[yT,yT,ih,r.1]
theorem bT.len(h:bT K H ks vs):vs.length=ks.length:=(yS h).symm
theorem bT.app:∀{ks ls:List (κ×D)}{vs ws:List (κ×V)},bT K H ks vs->bT K H ls ws->bT K H (ks++ls) (vs++ws)|_,_,_,_,.nil,h=>h|_,_,_,_,.cons r t,h=>.cons r<|bT.app t h
theorem bT.QE(h:bT K H ks vs)(k:Key)(rd:Rv K H d v):bT K H (ks.map λkv=>if kv.1=k then (kv.1,d) else kv) (vs.map λkv=>if kv.1=k then (kv.1,v) else kv):=by induction h with|nil=>exact .nil|@cons a b l m r t ih=>refine .cons ?_ ih;dsimp only;by_cases q:b.1=k;rw[if_pos q,if_pos<|r.1.trans q];exact⟨r.1,rd⟩;rw[if_neg q,if_neg λz=>q<|r.1.symm.trans z];exact r
theorem bT.put(h:bT K H ks vs)(k:Key)(rd:Rv K H d v):bT K H (dput ks k d) (putK vs k v):=by unfold dput putK;rw[h.any k];split;exact h.QE k rd;exact h.app<|.cons ⟨rfl,rd⟩ .nil
theorem bT.drop(h:bT K H ks vs)(k:Key):bT K H (Ap ks k) (pE vs k):=by unfold Ap pE;induction h with|nil=>exact .nil|@cons a b l m r t ih=>rw[yN,yN,r.1];by_cases q:b.1=k;rw[if_neg<|by simp[q],if_neg<|by simp[q]];exact ih;rw[if_pos<|by simp[q],if_pos<|by simp[q]];exact .cons r ih
noncomputable def CP:D->Option Key|.int i=>some (.inl i)|.str z=>some (.inr z)|_=>none
theorem oj(h:CP d=some k)(r:Rv K H d v):v=kV k:=by cases d with|int i=>(cases h;exact r.int)|str i=>(cases h;exact r.str)|_=>cases h
noncomputable def jB:D->Bool|.av=>true|.bl _=>true|.int _=>true|.str _=>true|_=>false
noncomputable def kJ:D->V|.av=>.av|.bl b=>.bl b|.int i=>.int i|.str z=>.str z|.ref a=>.ref a|.ty n=>.ty n|_=>.av
theorem r9(h:jB d=true)(r:Rv K H d v):v=kJ d/\g6 v=true:=by cases d with|av=>(cases r.av;exact⟨rfl,rfl⟩)|bl b=>(cases r.bl;exact⟨rfl,rfl⟩)|int b=>(cases r.int;exact⟨rfl,rfl⟩)|str b=>(cases r.str;exact⟨rfl,rfl⟩)|_=>cases h
theorem mK:∀{ds:List D}{vs:List V},ds.all jB=true->RvAll K H ds vs->vs=ds.map kJ/\vs.all g6=true|[],vs,_,r=>by rw[r.nil];exact⟨rfl,rfl⟩|d::ds,vs,h,r=>by obtain⟨y,ys,rfl,r1,r2⟩:=r.cons;rw[List.all_cons,zI]at h;obtain⟨e1,f1⟩:=r9 h.1 r1;obtain⟨e2,f2⟩:=mK h.2 r2;refine{by rw[e1,e2];rfl,?_};rw[List.all_cons,f1,f2];rfl
def inD(neg:Bool):ve:=λx y S R=>match y with|.str j=>(∃i,x=.str i/\R (.bl<|if neg then !(!(Builtin.Str.occurrences j i 0 j.length 1).isEmpty) else !(Builtin.Str.occurrences j i 0 j.length 1).isEmpty) S)|.kt ds=>(jB x=true/\ds.all jB=true/\R (.bl<|if neg then !Ci (kJ x) (ds.map kJ) else Ci (kJ x) (ds.map kJ)) S)|.tup ds=>(jB x=true/\ds.all jB=true/\R (.bl<|if neg then !Ci (kJ x) (ds.map kJ) else Ci (kJ x) (ds.map kJ)) S)|.ref a=>((∃ds,S a=some (.lst ds)/\jB x=true/\ds.all jB=true/\R (.bl<|if neg then !Ci (kJ x) (ds.map kJ) else Ci (kJ x) (ds.map kJ)) S)\/∃kvs k,S a=some (.dM kvs)/\CP x=some k/\R (.bl<|if neg then !(bY kvs k).isSome else (bY kvs k).isSome) S)|_=>False
theorem we(hS:Rs K S H)(e:S a=some (.dM kvs)):∃o,qq H a (kV k) o/\o.isSome=(bY kvs k).isSome/\∀d,bY kvs k=some d->∃v,o=some v/\Rv K H d v:=by obtain⟨vs,e1,t⟩:=hS.dM e;refine{_,qq.k e1,?_,λd h=>(t.val k).1 d h};cases q:bY kvs k with|none=>rw[(t.val k).2 q];rfl|some d=>obtain⟨v,e2,_⟩:=(t.val k).1 d q;rw[e2];rfl
theorem wg:pI K (compareOp .In) (inD false):=by rintro X hK hu pins s σ H x y v u Q I rx ry ⟨d,e,S,R,r1,r2,hS,h,hR⟩;subst hK;cases e with|str j=>(obtain⟨i,rfl,h⟩:=h;exact F_ pins s σ H x y v u Q I rx ry {i,j,r1.str,r2.str,hR.now hS h<|bO _})|tup ds=>(obtain⟨f1,f2,h⟩:=h;obtain⟨a,xs,rfl,q,t⟩:=r2.tup;obtain⟨e1,g1⟩:=r9 f1 r1;obtain⟨e2,g2⟩:=mK f2 t;subst e1 e2;exact n_ pins s σ H _ _ v u Q I rx ry {a,_,rfl,.inr<|.of q,g1,g2,hR.now hS h<|bO _})|kt ds=>(obtain⟨f1,f2,h⟩:=h;obtain⟨a,xs,rfl,q,t⟩:=r2.kt;obtain⟨e1,g1⟩:=r9 f1 r1;obtain⟨e2,g2⟩:=mK f2 t;subst e1 e2;exact n_ pins s σ H _ _ v u Q I rx ry {a,_,rfl,.inr<|.inr q,g1,g2,hR.now hS h<|bO _})|ref a=>(cases r2.ref;rcases h with⟨ds,e,f1,f2,h⟩|⟨kvs,k,e,hk,h⟩;obtain⟨xs,e1,t⟩:=hS.lst e;obtain⟨e2,g1⟩:=r9 f1 r1;obtain⟨e3,g2⟩:=mK f2 t;subst e2 e3;exact n_ pins s σ H _ _ v u Q I rx ry {a,_,rfl,.inl<|.of e1,g1,g2,hR.now hS h<|bO _};cases oj hk r1;cases ry;obtain⟨o,g,e1,_⟩:=we (k:=k) hS e;refine Zt (by lia) I g rx λs' I'=>{.bl o.isSome,H,I',rfl,?_};rw[e1];exact hR.now hS h<|bO _)|_=>exact h.elim
def IxD(K:Frag)(r:ve):Prop:=∀X:Cx,X.K=K->X.A.units+64<cLine->UY X (Lr K r)
inductive X8(ds:List D)(i:Int)(S:ao)(R:KD):Prop where
 |mk (d:D)(h:gZ ds i=some d)(r:R d S)
inductive AtL(a:Addr)(i:Int)(S:ao)(R:KD):Prop where
 |mk (ds:List D)(d:D)(e:S a=some (.lst ds))(h:gZ ds i=some d)(r:R d S)
def ixD:ve:=λx y S R=>match x,y with|.tup ds,.int i=>X8 ds i S R|.kt ds,.int i=>X8 ds i S R|.jl ds,.int i=>X8 ds i S R|.str z,.int i=>∃c,z.length<=sizeLine/\gZ z.cps.toList i=some c/\R (.str ⟨#[c]⟩) S|.ref a,.int i=>AtL a i S R|.ref a,.str z=>∃kvs d,S a=some (.dM kvs)/\bY kvs (.inr z)=some d/\R d S|_,_=>False
theorem RvAll.at{H:Hp}{ds:List D}{xs:List V}{i:Int}{d:D}(h:RvAll K H ds xs)(e:gZ ds i=some d):∃v,gZ xs i=some v/\Rv K H d v:=by unfold gZ at e⊢;rw[h.len];cases q:IC ds.length i with|none=>(rw[q]at e;cases e)|some j=>rw[q]at e;exact h.get e
theorem aad:IxD K ixD:=by rintro X hK hu value slice pins s σ H x y v u Q I rx ry ⟨d,e,S,R,r1,r2,hS,h,hR⟩ hs;subst hK;cases d with|tup ds=>(cases e with|int i=>(obtain⟨d,e,h⟩:=h;obtain⟨a,xs,rfl,q,t⟩:=r1.tup;obtain⟨z,e1,r⟩:=t.at e;exact ID value slice pins s σ H _ _ v u Q I rx ry {a,xs,i,z,rfl,r2.int,.of q,e1,hR.now hS h r} hs)|_=>exact h.elim)|kt ds=>(cases e with|int i=>(obtain⟨d,e,h⟩:=h;obtain⟨a,xs,rfl,q,t⟩:=r1.kt;obtain⟨z,e1,r⟩:=t.at e;exact ID value slice pins s σ H _ _ v u Q I rx ry {a,xs,i,z,rfl,r2.int,.inr q,e1,hR.now hS h r} hs)|_=>exact h.elim)|jl ds=>(cases e with|int i=>(obtain⟨d,e,h⟩:=h;obtain⟨a,xs,rfl,q,t⟩:=r1.jl;obtain⟨z,e1,r⟩:=t.at e;exact EC value slice pins s σ H _ _ v u Q I rx ry {a,xs,i,z,rfl,r2.int,q.sq,e1,hR.now hS h r} hs)|_=>exact h.elim)|str w=>(cases e with|int i=>(obtain⟨c,e0,e,h⟩:=h;exact Qv value slice pins s σ H _ _ v u Q I rx ry {w,i,c,r1.str,r2.int,e0,e,hR.now hS h<|dZ _} hs)|_=>exact h.elim)|ref a=>(cases e with|int i=>(obtain⟨ds,d,e,e1,h⟩:=h;obtain⟨xs,e2,t⟩:=hS.lst e;obtain⟨z,e3,r⟩:=t.at e1;exact EC value slice pins s σ H _ _ v u Q I rx ry {a,xs,i,z,r1.ref,r2.int,.of e2,e3,hR.now hS h r} hs)|str w=>(obtain⟨kvs,d,e,e1,h⟩:=h;cases r1.ref;cases r2.str;cases rx;obtain⟨o,g,_,e2⟩:=we (k:=.inr w) hS e;obtain⟨z,rfl,r⟩:=e2 d e1;exact tail_any (z_ I g) PySem.F.slot_dict_getitem.lookup (Gn (by lia) I g ry λw' s' I' qk=>{z,H,I',qk,hR.now hS h r}) hs)|_=>exact h.elim)|_=>exact h.elim
theorem ix(hu:X.A.units+64<cLine)(ha:DE K X a ta)(hb:DE K X b tb)(hs:EB b:=by exact λ_ _=>rfl)(hK:autoParam (X.K=K) qQJ):DE K X (.Subscript a b pos) (Q6 ixD ta tb):=⟨λy=>(UZ (aad y.cx hK hu) (ha.of y) (hb.of y) hs).mono λ_ _ _ h=>h.op⟩
theorem bv(ha:DE K X a ta)(hb:DE K X b tb)(hu:X.A.units+64<cLine:=by assumption)(hs:EB b:=by exact λ_ _=>rfl)(hK:autoParam (X.K=K) qQJ):DE K X (.Subscript a b pos) (Q6 ixD ta tb):=ix  hu ha hb hs hK
end
section
variable{K:Frag}{X:Cx}
abbrev OF:=SD->ao->(Option Int->ao->Prop)->KX->Prop
def To(K:Frag)(E:St->XK)(t:OF):TO:=λτ H Q=>∃σ S R Z,iE K H σ τ/\Rs K S H/\t σ S R Z/\(∀o S' H',R o S'->Rs K S' H'->Kp K H H'->Q o H')/\GJ K H Z (E τ)
structure DO(K:Frag)(X:Cx)(e:sK)(t:OF):Prop where
 of:∀{b:Bool}(y:Ev X b),PO y.cx e<|To K y.E t
theorem PO.mono{t t':TO}(h:PO X e t)(i:∀τ H Q,t' τ H Q->t τ H Q):PO X e t':=λpins s τ H Q I q=>h pins s τ H Q I<|i τ H Q q
def VJ:OF:=λ_ S R _=>R none S
inductive VL(d:D)(S:ao)(R:Option Int->ao->Prop):Prop where
 |mk (i:Int)(h:d=.int i)(r:R (some i) S)
def VM(t:TD):OF:=λσ S R Z=>t σ S (λd S1=>VL d S1 R) Z
theorem o0:DO K X none VJ:=⟨λy=>(Mc (X:=y.cx)).mono <| by rintro τ H Q ⟨σ,S,R,Z,aC,hS,q,hR,hZ⟩;exact hR _ S H q hS<|.refl _⟩
theorem o1{t:TD}(h:DE K X e t):DO K X (some e) (VM t):=⟨λy=>(Ez<|h.of y).mono <| by rintro τ H Q ⟨σ,S,R,Z,aC,hS,q,hR,hZ⟩;exact{σ,S,_,Z,aC,hS,q,by rintro d S1 x H1 ⟨i,e,r1⟩ v1 s1 k1;exact by subst e;exact{i,v1.int,hR _ S1 H1 r1 s1 k1},hZ}⟩
noncomputable def dh{α:Type}(xs:List α)(lo hi:rp):List α:=(xs.drop<|HT.sIx xs.length 0 lo).take<|HT.sIx xs.length xs.length hi-HT.sIx xs.length 0 lo
theorem RvAll.cut{H:Hp}{ds:List D}{xs:List V}(h:RvAll K H ds xs)(lo hi:rp):RvAll K H (dh ds lo hi) (y_ xs lo hi):=by unfold dh y_;rw[h.len];exact(h.drop _).take _
def slD:D->Option Int->Option Int->ao->KD->Prop:=λx lo hi S R=>match x with|.str z=>z.length<=sizeLine/\R (.str<|PySem.Txt.slice z lo hi) S|.tup ds=>¬(HT.sIx ds.length 0 lo=0/\HT.sIx ds.length ds.length hi=ds.length)/\R (.tup<|dh ds lo hi) S|.ref a=>∃ds,S a=some (.lst ds)/\∀p,S p=none->R (.ref p) (S.set p<|.lst<|dh ds lo hi)|.jl ds=>∀p,S p=none->R (.ref p) (S.set p<|.lst<|dh ds lo hi)|_=>False
def Lsl(K:Frag):V->Option Int->Option Int->Hp->VK->Prop:=λx lo hi H Q=>∃d S R,Rv K H d x/\Rs K S H/\slD d lo hi S R/\Cn K H R Q
theorem aae(hK:X.K=K):Tp X (Lsl K):=by rintro pins s σ H x v vl vu lo hi sl Q I rx hs pl pu ⟨d,S,R,r1,hS,h,hR⟩;subst hK;cases d with|str z=>exact Q4 pins s σ H x v vl vu lo hi sl Q I rx hs pl pu {z,r1.str,h.1,hR.now hS h.2<|dZ _}|tup ds=>(obtain⟨a,xs,rfl,q,t⟩:=r1.tup;exact Qu pins s σ H _ v vl vu lo hi sl Q I rx hs pl pu {a,xs,rfl,.of q,by rw[t.len];exact h.1,λp hp=>hR.VG hS hp h.2<|t.cut lo hi})|ref a=>(obtain⟨ds,e,h⟩:=h;obtain⟨xs,e1,t⟩:=hS.lst e;exact qP pins s σ H _ v vl vu lo hi sl Q I rx hs pl pu {a,xs,r1.ref,.of e1,λp hp=>hR.new hS hp (h p)<|t.cut lo hi})|jl ds=>(obtain⟨a,xs,rfl,q,t⟩:=r1.jl;exact qP pins s σ H _ v vl vu lo hi sl Q I rx hs pl pu {a,xs,rfl,q.sq,λp hp=>hR.new hS hp (h p)<|t.cut lo hi})|_=>exact h.elim
def dSl(te:TD)(tl th:OF):TD:=λσ S R Z=>te σ S (λx S1=>tl σ S1 (λl S2=>th σ S2 (λu S3=>slD x l u S3 R) Z) Z) Z
theorem sl{e:Expr}{lo hi:sK}{te:TD}{tl th:OF}{p2 pos:Pos}(he:DE K X e te)(hl:DO K X lo tl)(hu:DO K X hi th)(hK:autoParam (X.K=K) qQJ):DE K X (.Subscript e (.Slice lo hi none p2) pos) (dSl te tl th):=
 ⟨λy=>(y9 (X:=y.cx) (aae hK) (he.of y) (hl.of y)<|hu.of y).mono <| by rintro τ H Q ⟨σ,S,R,Z,aC,hS,q,hR,hZ⟩;exact
  ⟨σ,S,_,Z,aC,hS,q,λd S1 x H1 r1 v1 s1 k1=>⟨σ,S1,_,Z,aC.ts k1,s1,r1,λl S2 H2 r2 s2 k2=>⟨σ,S2,_,Z,aC.ts<|k1.trans k2,s2,r2,λu S3 H3 r3 s3 k3=>⟨d,S3,R,Rv.ts (k2.trans k3) _ v1,s3,r3,hR.kp<|(k1.trans k2).trans k3⟩,hZ.kp<|k1.trans k2⟩,hZ.kp k1⟩,hZ⟩⟩
def aaf(te:TD):TD:=λσ S R Z=>te σ S (λx S1=>∃ds,rX S1 x ds/\∀p,S1 p=none->R (.ref p) (S1.set p<|.lst ds.reverse)) Z
theorem aag(he:DE K X e te)(hK:autoParam (X.K=K) qQJ):DE K X (.Subscript e (.Slice none none (some<|.UnaryOp .USub (.Constant (.int 1) j p3) p4) p2) pos) (aaf te):=
 ⟨λy=>(Q5 (X:=y.cx) hK (he.of y) (Ez<|Oj Iu Ij) λ_ _ _ h=>⟨_,rfl,_,rfl,h⟩).mono <| by rintro τ H Q ⟨σ,S,R,Z,aC,hS,q,hR,hZ⟩;exact
  ⟨σ,S,_,Z,aC,hS,q,by
   rintro d S1 x H1 ⟨ds,h1,r1⟩ v1 s1 k1
   obtain⟨a,xs,rfl,q,t⟩:=h1.at s1 v1
   exact{a,xs,rfl,q,λp hp=>(hR.kp k1).new s1 hp (r1 p) t.rev},hZ⟩⟩
def aah(te:TD):TD:=λσ S R Z=>te σ S (λx S1=>∃i,x=.int i/\R (.int (-i)) S1) Z
theorem GL(he:DE K X e te):DE K X (.UnaryOp .USub e pos) (aah te):=⟨λy=>(Oj Iu<|he.of y).mono <| by rintro τ H Q ⟨σ,S,R,Z,aC,hS,q,hR,hZ⟩;exact{σ,S,_,Z,aC,hS,q,by rintro d S1 x H1 ⟨i,e,r1⟩ v1 s1 k1;exact by subst e;exact{i,v1.int,hR _ S1 _ H1 r1 (aT _) s1 k1},hZ}⟩
def tyD(T:String)(S:ao):D->Prop|.str _=>T ="str"|.ref a=>T ="list"/\∃ds,S a=some (.lst ds)|.jl _=>T ="list"|_=>False
theorem OG{H:Hp}{S:ao}{T:String}{d:D}{v:V}(h:tyD T S d)(hS:Rs K S H)(r:Rv K H d v):XY K T v H:=by cases d with|str z=>rw[r.str];exact h|ref a=>(obtain⟨e,ds,h⟩:=h;obtain⟨xs,e1,_⟩:=hS.lst h;rw[r.ref];exact .inl {e,xs,.of e1})|jl ds=>(obtain⟨a,xs,rfl,q,_⟩:=r.jl;exact .inl ⟨h,xs,q.sq⟩)|_=>exact h.elim
abbrev HX:=D->List D->ao->KD->Prop
def Lm(K:Frag)(r:HX):V->List V->Hp->VK->Prop:=λx xs H Q=>∃d ds S R,Rv K H d x/\RvAll K H ds xs/\Rs K S H/\r d ds S R/\Cn K H R Q
def OH(K:Frag)(id:String)(r:HX):Prop:=∀X:Cx,X.K=K->Tq X id (Lm K r)
def dBM(T:String)(r:HX)(to:TD)(t:iw):TD:=λσ S R Z=>to σ S (λx S1=>tyD T S1 x/\t σ S1 (λds S2=>r x ds S2 R) Z) Z
def aaj(T:String)(r:HX)(to:TD):TD:=λσ S R Z=>to σ S (λx S1=>tyD T S1 x/\r x [] S1 R) Z
theorem bm{o e:Expr}{es:mt}{T id:String}{name:Str}{r:HX}{to:TD}{t:iw}{apos aQ:Pos}(pa:PlainAttrs T)(slot:Slot T name id)(Qz:typeOf (.builtin id)=pure (.type "method_descriptor"))(hm:OH K id r)(ho:DE K X o to)(ha:DA K X (e::es) t)(mE:autoParam (attributeBase o name X.env (eval o X.env)=eval o X.env) qQJ)(QA:autoParam (((backTo aQ<|starEach (e::es) X.env).all (λx=>!x.1)&&(backToKw aQ<|keywordEach [] X.env).all (λx=>x.1.isSome)&&decide ((e::es).length+([]:tt).length+(if ([]:tt).isEmpty then 0 else 1)<30))=true) qQJ)(rH:autoParam ((apos.endLine==aQ.line)=true) qQJ)(hs:autoParam (starEach (e::es) X.env=(false,eval e X.env)::starEach es X.env) qQJ)(Cj:autoParam ((backTo aQ<|starEach es X.env).any (·.1)=false) qQJ)(hK:autoParam (X.K=K) qQJ): DE K X (.Call (.Attribute o name apos) (e::es) [] aQ) (dBM T r to t):=by
 subst hK
 exact⟨λy=>(U1 (X:=y.cx) pa slot Qz (hm _ rfl) (ho.of y) (ha.of y) mE QA rH hs Cj).mono <| by rintro τ H Q ⟨σ,S,R,Z,aC,hS,q,hR,hZ⟩;exact
  ⟨σ,S,_,Z,aC,hS,q,by rintro d S1 x H1 ⟨h1,r1⟩ v1 s1 k1;exact⟨OG h1 s1 v1,σ,S1,_,Z,aC.ts k1,s1,r1,λds S2 xs H2 r2 v2 s2 k2=>⟨d,ds,S2,R,Rv.ts k2 _ v1,v2,s2,r2,hR.kp<|k1.trans k2⟩,hZ.kp k1⟩,hZ⟩⟩
theorem bm0{o:Expr}{T id:String}{name:Str}{r:HX}{to:TD}{apos aQ:Pos}(pa:PlainAttrs T)(slot:Slot T name id)(Qz:typeOf (.builtin id)=pure (.type "method_descriptor"))(hm:OH K id r)(ho:DE K X o to)(mE:autoParam (attributeBase o name X.env (eval o X.env)=eval o X.env) qQJ)(rH:autoParam ((apos.endLine==aQ.line)=true) qQJ)(hK:autoParam (X.K=K) qQJ): DE K X (.Call (.Attribute o name apos) [] [] aQ) (aaj T r to):=by
 subst hK
 exact⟨λy=>(Qy (X:=y.cx) pa slot Qz (hm _ rfl) (ho.of y) mE rH).mono <| by rintro τ H Q ⟨σ,S,R,Z,aC,hS,q,hR,hZ⟩;exact
  ⟨σ,S,_,Z,aC,hS,q,by rintro d S1 x H1 ⟨h1,r1⟩ v1 s1 k1;exact⟨OG h1 s1 v1,d,[],S1,R,v1,bx,s1,r1,hR.kp k1⟩,hZ⟩⟩
theorem RvAll.one(h:RvAll K H [d] xs):∃v,xs=[v]/\Rv K H d v:=by obtain⟨y,ys,rfl,h1,h2⟩:=h.cons;rw[h2.nil];exact⟨y,rfl,h1⟩
inductive VN(x:D)(ds:List D)(S:ao)(R:KD):Prop where
 |mk (a:Addr)(es:List D)(d:D)(e1:x=.ref a)(e2:ds=[d])(e3:S a=some (.lst es))(e4:es.length<sizeLine)(r:R .av<|S.set a<|.lst<|es++[d])
def MN:HX:=λx ds S R=>VN x ds S R
theorem cw:OH K "list.append" MN:=by rintro X hK pins s σ H x xs v us Q I rx rs ⟨d,ds,S,R,r1,r2,hS,⟨a,es,y,e1,e2,e3,hl,h⟩,hR⟩;subst e1 e2;obtain⟨w0,rfl,q2⟩:=r2.one;obtain⟨zs,e4,t⟩:=hS.lst e3;exact Gm pins s σ H x _ v us Q I rx rs {a,zs,w0,r1.ref,rfl,e4,by rw[t.len];exact hl,hR.put hS e3 h jz<|t.app<|aW q2 bx}
def aak:HX:=λx ds S R=>∃a es d,x=.ref a/\ds=[]/\S a=some (.lst es)/\es[es.length-1]?=some d/\R d (S.set a<|.lst es.dropLast)
theorem VO:OH K "list.pop" aak:=by rintro X hK pins s σ H x xs v us Q I rx rs ⟨d,ds,S,R,r1,r2,hS,⟨a,es,y,e1,e2,e3,hl,h⟩,hR⟩;subst e1 e2;obtain⟨zs,e4,t⟩:=hS.lst e3;obtain⟨w,e5,r⟩:=t.get hl;exact QB pins s σ H x _ v us Q I rx rs {a,zs,w,r1.ref,r2.nil,e4,by rw[t.len];exact e5,hR.put hS e3 h r t.dropLast}
def Q9:HX:=λx ds S R=>∃a es i k d,x=.ref a/\ds=[.int i]/\S a=some (.lst es)/\-(2^63)<=i/\i<2^63/\seqIndex? i es.length=some k/\es[k]?=some d/\R d (S.set a<|.lst<|es.eraseIdx k)
theorem MO:OH K "list.pop" Q9:=by rintro X hK pins s σ H x xs v us Q I rx rs ⟨d,ds,S,R,r1,r2,hS,⟨a,es,i,k,y,e1,e2,e3,h1,h2,h3,h4,h⟩,hR⟩;subst e1 e2;obtain⟨w0,rfl,q2⟩:=r2.one;obtain⟨zs,e4,t⟩:=hS.lst e3;obtain⟨w,e5,r⟩:=t.get h4;exact IH pins s σ H x _ v us Q I rx rs {a,zs,i,k,w,r1.ref,by rw[q2.int],e4,h1,h2,by rw[t.len];exact h3,e5,hR.put hS e3 h r<|t.erase k}
def MP:HX:=λx ds S R=>∃(es:List D)(d:D)(j:Nat),ds=[d]/\rX S x es/\jB d=true/\es.all jB=true/\(∃z,es[j]?=some z/\eqV (kJ z) (kJ d)=true)/\(∀m u,m<j->es[m]?=some u->eqV (kJ u) (kJ d)=false)/\R (.int j) S
theorem r_:OH K "list.index" MP:=by rintro X hK pins s σ H x xs v us Q I rx rs ⟨d,ds,S,R,r1,r2,hS,⟨es,y,j,e2,e3,f1,f2,⟨z,e4,e5⟩,h4,h⟩,hR⟩;subst hK e2;obtain⟨w0,rfl,q2⟩:=r2.one;obtain⟨a,zs,rfl,q,t⟩:=e3.at hS r1;obtain⟨g1,g2⟩:=r9 f1 q2;obtain⟨g3,g4⟩:=mK f2 t;subst g1 g3;refine GI pins s σ H _ _ v us Q I rx rs {a,_,_,kJ z,j,rfl,rfl,q,g2,g4,by rw[zi,e4];rfl,e5,λm u hm e=>?_,hR.now hS h<|aT _};rw[zi]at e;cases q2:es[m]? with|none=>(rw[q2]at e;cases e)|some u'=>rw[q2]at e;cases e;exact h4 m u' hm q2
def MQ:HX:=λx ds S R=>∃z y,x=.str z/\ds=[.str y]/\R (.bl<|PySem.Txt.startswith z y) S
theorem Jn:OH K "str.startswith" MQ:=by rintro X hK pins s σ H x xs v us Q I rx rs ⟨d,ds,S,R,r1,r2,hS,⟨z,y,e1,e2,h⟩,hR⟩;subst e1 e2;obtain⟨w0,rfl,q2⟩:=r2.one;exact uv pins s σ H _ _ v us Q I rx rs {z,y,r1.str,by rw[q2.str],hR.now hS h<|bO _}
def VP(S:ao)(R:KD):D->Prop|.str z=>z.length<=sizeLine/\R (.int z.length) S|.tup es=>R (.int es.length) S|.kt es=>R (.int es.length) S|.jl es=>R (.int es.length) S|.ref a=>(∃es,S a=some (.lst es)/\R (.int es.length) S)\/∃kvs,S a=some (.dM kvs)/\R (.int kvs.length) S|_=>False
inductive VQ(ds:List D)(S:ao)(R:KD):Prop where
 |mk (x:D)(h:ds=[x])(r:VP S R x)
def aal:List D->ao->KD->Prop:=λds S R=>VQ ds S R
theorem aO:g7 K (.builtin "len") aal:=by rintro X hK hc pins s σ H xs us Q I rx ⟨ds,S,R,r,hS,⟨x,e,h⟩,hR⟩;subst hK e;obtain⟨w,rfl,r'⟩:=r.one;cases x with|str z=>(cases r'.str;exact ju pins s σ H _ us Q I rx {_,_,rfl,⟨h.1,rfl⟩,hR.now hS h.2<|aT _})|tup es=>(obtain⟨a,xs,rfl,q,t⟩:=r'.tup;exact ju pins s σ H _ us Q I rx {_,_,rfl,.inr {xs,.of q,t.len.symm},hR.now hS h<|aT _})|kt es=>(obtain⟨a,xs,rfl,q,t⟩:=r'.kt;exact ju pins s σ H _ us Q I rx {_,_,rfl,.inr {xs,.inr q,t.len.symm},hR.now hS h<|aT _})|jl es=>(obtain⟨a,xs,rfl,q,t⟩:=r'.jl;exact ju pins s σ H _ us Q I rx {_,_,rfl,.inl ⟨xs,q.sq,t.len.symm⟩,hR.now hS h<|aT _})|ref a=>(cases r'.ref;rcases h with⟨es,e,h⟩|⟨kvs,e,h⟩;obtain⟨xs,e1,t⟩:=hS.lst e;exact ju pins s σ H _ us Q I rx {_,_,rfl,.inl {xs,.of e1,t.len.symm},hR.now hS h<|aT _};obtain⟨xs,e1,t⟩:=hS.dM e;exact Gv pins s σ H _ us Q I rx {a,xs,rfl,e1,by rw[t.len];exact hR.now hS h<|aT _})|_=>exact h.elim
def Q_(S:ao):D->Kd->Prop|.av,k=>k=.av|.bl _,k=>k=.bl|.int _,k=>k=.int|.str _,k=>k=.str|.ref a,k=>(k=.lst/\∃ds,S a=some (.lst ds))\/(k=.dM/\∃ds,S a=some (.dM ds))|.tup _,k=>k=.tup|_,_=>False
theorem VR(h:Q_ S d k)(hS:Rs K S H)(r:Rv K H d v):rP H v k:=by cases d with|av=>(cases h;rw[r.av];exact .av)|bl b=>(cases h;rw[r.bl];exact .bl b)|int b=>(cases h;rw[r.int];exact .int b)|str b=>(cases h;rw[r.str];exact .str b)|tup b=>(cases h;obtain⟨a,xs,rfl,q,_⟩:=r.tup;exact .tup q)|ref a=>(rw[r.ref];rcases h with⟨rfl,ds,h⟩|⟨rfl,ds,h⟩;obtain⟨xs,e,_⟩:=hS.lst h;exact .lst e;obtain⟨xs,e,_⟩:=hS.dM h;exact .dM e)|_=>exact h.elim
inductive VS(ds:List D)(S:ao)(R:KD):Prop where
 |mk (x:D)(n:String)(k:Kd)(g:Kd->Bool)(e:ds=[x,.ty n])(a:Af n=some g)(b:Q_ S x k)(r:R (.bl<|g k) S)
def aam:List D->ao->KD->Prop:=λds S R=>VS ds S R
theorem RvAll.two(h:RvAll K H [d,e] xs):∃v u,xs=[v,u]/\Rv K H d v/\Rv K H e u:=by obtain⟨y,ys,rfl,h1,h2⟩:=h.cons;obtain⟨u,rfl,h3⟩:=h2.one;exact⟨y,u,rfl,h1,h3⟩
theorem cY:g7 K (.builtin "isinstance") aam:=by rintro X hK hc pins s σ H xs us Q I rx ⟨ds,S,R,r,hS,⟨x,n,k,g,e,h1,h2,h⟩,hR⟩;subst hK e;obtain⟨v,u,rfl,r1,r2⟩:=r.two;rw[r2.ty]at rx;exact I9 pins s σ H _ us Q I rx {v,n,k,g,rfl,h1,VR h2 hS r1,hR.now hS h<|bO _}
inductive VT(ds:List D)(S:ao)(f:List Bool->Bool)(R:KD):Prop where
 |mk (x:D)(bs:wf)(e:ds=[x])(h:rX S x<|bs.map D.bl)(r:R (.bl<|f bs) S)
def VU:List D->ao->KD->Prop:=λds S R=>VT ds S (λbs=>bs.all id) R
theorem i9:g7 K (.builtin "all") VU:=by rintro X hK hc pins s σ H xs us Q I rx ⟨ds,S,R,r,hS,⟨x,bs,e,h1,h⟩,hR⟩;subst hK e;obtain⟨v,rfl,r1⟩:=r.one;obtain⟨a,zs,rfl,q,t⟩:=h1.at hS r1;rw[t.bools]at q;exact um hc pins s σ H _ us Q I rx {a,bs,rfl,q,hR.now hS h<|bO _}
def aan:List D->ao->KD->Prop:=λds S R=>∃(x:D)(bs:wf),ds=[x]/\rX S x (bs.map D.bl)/\R (.bl<|bs.any id) S
theorem OI:g7 K (.builtin "any") aan:=by rintro X hK hc pins s σ H xs us Q I rx ⟨ds,S,R,r,hS,⟨x,bs,e,h1,h⟩,hR⟩;subst hK e;obtain⟨v,rfl,r1⟩:=r.one;obtain⟨a,zs,rfl,q,t⟩:=h1.at hS r1;rw[t.bools]at q;exact uo hc pins s σ H _ us Q I rx {a,bs,rfl,q,hR.now hS h<|bO _}
def intD:List D->ao->KD->Prop:=λds S R=>(∃i,ds=[.int i]/\R (.int i) S)\/∃k,ds=[.bl k]/\R (.int<|if k then 1 else 0) S
theorem EK:g7 K (.type "int") intD:=by rintro X hK hc pins s σ H xs us Q I rx ⟨ds,S,R,r,hS,h,hR⟩;rcases h with⟨i,rfl,h⟩|⟨k,rfl,h⟩;obtain⟨v,rfl,r1⟩:=r.one;exact uU pins s σ H _ us Q I rx<|.inl {i,by rw[r1.int],hR.now hS h<|aT _};obtain⟨v,rfl,r1⟩:=r.one;exact uU pins s σ H _ us Q I rx<|.inr {k,by rw[r1.bl],hR.now hS h<|aT _}
inductive VW(ds:List D)(S:ao)(R:KD):Prop where
 |mk (x:D)(es:List D)(e:ds=[x])(h:rX S x es\/x=.tup es)(r:R (.tup es) S)
def Rb:List D->ao->KD->Prop:=λds S R=>VW ds S R
theorem iF:g7 K (.type "tuple") Rb:=by rintro X hK hc pins s σ H xs us Q I rx ⟨ds,S,R,r,hS,⟨x,es,e,h1,h⟩,hR⟩;subst hK e;obtain⟨v,rfl,r1⟩:=r.one;rcases h1 with h1|rfl;obtain⟨a,zs,rfl,q,t⟩:=h1.at hS r1;exact kX pins s σ H _ us Q I rx {a,zs,rfl,.inl {q,λp hp=>hR.VG hS hp h t}};obtain⟨a,zs,rfl,q,t⟩:=r1.tup;exact kX pins s σ H _ us Q I rx {a,zs,rfl,.inr {.of q,hR.now hS h<|oi q t}}
def minD(f:Int->Int->Bool):List D->ao->KD->Prop:=λds S R=>∃i j,ds=[.int i,.int j]/\R (.int<|if f j i then j else i) S
theorem OJ:g7 K (.builtin "min") (minD λa b=>decide<|a<b):=by rintro X hK hc pins s σ H xs us Q I rx ⟨ds,S,R,r,hS,⟨i,j,e,h⟩,hR⟩;subst e;obtain⟨v,u,rfl,r1,r2⟩:=r.two;refine Ge hc pins s σ H _ us Q I rx {i,j,by rw[r1.int,r2.int],?_};have:=hR.now hS h<|aT _;simpa using this
theorem VX:g7 K (.builtin "max") (minD λa b=>decide<|b<a):=by rintro X hK hc pins s σ H xs us Q I rx ⟨ds,S,R,r,hS,⟨i,j,e,h⟩,hR⟩;subst e;obtain⟨v,u,rfl,r1,r2⟩:=r.two;refine Gb hc pins s σ H _ us Q I rx {i,j,by rw[r1.int,r2.int],?_};have:=hR.now hS h<|aT _;simpa using this
end
abbrev qS:=List D->ao->KD->KX->Prop
def qU(K:Frag)(sp:qS):Sp:=λvs H Q e=>∃ds S R Z,RvAll K H ds vs/\Rs K S H/\sp ds S R Z/\Cn K H R Q/\GJ K H Z e
section
variable{K:Frag}{X:Cx}{k:Nat}{f C:Addr}{fd:FuncData}{ps:lc}{sp:Sp}{qo:List V}{ds:fv}{x m:Str}{p pos apos:Pos}{e o:Expr}{es:mt}{b:Bool}{y:Ev X b}
theorem wj(F:bI X.prog X.w X.K X.mg X.base (fH X.prog X.w X.mg) k f fd ps sp)(hr:bR k X.A)(hb:Binds X.K fd ps ds)(hd:Vals qo ds)(I:Inv y.cx p2 σ H s)(r:Vals vs us)(h:sp (vs++qo) H Q<|y.E σ):wpAny (model X.prog X.w) X.A (call (.ref f) us) (EP y.cx p2 σ Q) y.xe s:=by
 have r2:Vals (vs++qo) (us++ds):=r.append hd;have hl:(us++ds).length=ps.length:=by rw[<-r2.length];exact F.len _ _ _ _ h
 refine wpAny_call<|yW (F.run X.A X.stack s H {us,[]} (us++ds) (vs++qo) Q (y.E σ) hr I.US (hb s us I.pj hl) r2 h) λres s' hq=>?_;cases res with|error e=>exact y.ok.call p2 σ H s e s' I hq|ok fl=>cases fl with|ret u=>exact I.after hq|next=>exact False.elim hq|brk=>exact False.elim hq|cont=>exact False.elim hq
theorem Jo{t:TA}(F:bI X.prog X.w X.K X.mg X.base (fH X.prog X.w X.mg) k f fd ps sp)(hr:bR k X.A)(hg:Gl X x)(hm:X.mg x=some (.ref f))(hk:keepIn X.K (.ref f)=true)(hb:Binds X.K fd ps ds)(hd:Vals qo ds)(ha:PA y.cx (e::es) t)(qp:(x==("__debug__": Str))=false)(he:starEach (e::es) X.env=(false,eval e X.env)::starEach es X.env)(dG:(backTo pos<|starEach es X.env).any (·.1)=false): PE y.cx (.Call (.Name x p) (e::es) [] pos) (λσ H Q=>t σ H λvs H1=>sp (vs++qo) H1 Q<|y.E σ):=by intro p2 s σ H Q I h;refine wpAny_Call_Name_kw<|qJ I hg hm ?_ qp;refine callWith_K (h₀:=X.base) I.ok.mod.Te hk (br (ha pos p2 s σ H _ I h) λus s1 ⟨vs,H1,I1,r,q⟩=>{I1.pj,?_}) he dG;exact wj F hr hb hd I1 r q
theorem Jp{pl:Sem Bool}{ta:TE}{t:TA}(he:PE y.cx o ta)(c:qO X.K C)(hm:Meth X.K C m f)(F:bI X.prog X.w X.K X.mg X.base (fH X.prog X.w X.mg) k f fd ps sp)(hr:bR k X.A)(hb:Binds X.K fd ps ds)(hd:Vals qo ds)(ha:PA y.cx (e::es) t)
  (uf:starEach (e::es) X.env=(false,eval e X.env)::starEach es X.env) (dG:(backTo pos<|starEach es X.env).any (·.1)=false)
  (ht:eval (.Call (.Attribute o m apos) (e::es) [] pos) X.env=(do
   let ov <-eval o X.env
   standAt apos.atName
   let (f,first) <-holding [ov] (getMethod ov m pl)
   callWith pos f first (backTo pos<|starEach (e::es) X.env) (backToKw pos<|keywordEach [] X.env))):
  PE y.cx (.Call (.Attribute o m apos) (e::es) [] pos) (λσ H Q=>ta σ H λx H1=>∃a dx fs,x=.ref a/\H1 a=some (.ins C dx fs)/\fs.lookup m=none/\t σ H1 λvs H2=>sp (x::(vs++qo)) H2 Q<|y.E σ):=by
 intro p2 s σ H Q I h
 refine methodCall_KW (pl:=pl) (br (he p2 s σ H _ I h) λu s1 ⟨x,H1,I1,rx,a,dx,fs,ex,ea,l,q⟩=>?_) ht
 subst ex
 obtain rfl:u=Value.ref a:=rx
 refine rG I1 ea c hm l ?_
 refine callWith_K (first:=[.ref a]) (h₀:=X.base) I.ok.mod.Te hm.kp (br (ha pos p2 s1 σ H1 _ I1 q) λus s2 ⟨vs,H2,I2,r,q2⟩=>{I2.pj,?_}) uf dG
 exact wj (us:=.ref a::us) (vs:=.ref a::vs) F hr hb hd I2 (.cons rfl r) q2
theorem GN(he:PE y.cx o ta)(c:qO X.K C)(hm:Meth X.K C m f)(F:bI X.prog X.w X.K X.mg X.base (fH X.prog X.w X.mg) k f fd ps sp)(hr:bR k X.A)(hb:Binds X.K fd ps ds)(hd:Vals qo ds)
  (ht:eval (.Call (.Attribute o m apos) [] [] pos) X.env=(do
   let ov <-eval o X.env
   standAt apos.atName
   let (f,first) <-holding [ov] (getMethod ov m pl)
   callWith pos f first (backTo pos<|starEach [] X.env) (backToKw pos<|keywordEach [] X.env))):
  PE y.cx (.Call (.Attribute o m apos) [] [] pos) (λσ H Q=>ta σ H λx H1=>∃a dx fs,x=.ref a/\H1 a=some (.ins C dx fs)/\fs.lookup m=none/\sp (x::qo) H1 Q (y.E σ)):=by
 intro p2 s σ H Q I h
 refine methodCall_KW (pl:=pl) (br (he p2 s σ H _ I h) λu s1 ⟨x,H1,I1,rx,a,dx,fs,ex,ea,l,q⟩=>?_) ht
 subst ex
 obtain rfl:u=Value.ref a:=rx
 refine rG I1 ea c hm l ?_
 exact PySem.W.callWith_K0 (first:=[.ref a]) I1.pj hm.kp<|wj (us:=[.ref a]) (vs:=[.ref a]) F hr hb hd I1 (.cons rfl .nil) q
theorem GO(M:Mk X.K C f)(F:bI X.prog X.w X.K X.mg X.base (fH X.prog X.w X.mg) k f fd ps sp)(hr:bR (k+1) X.A)(hb:Binds X.K fd ps ds)(hd:Vals qo ds)(I:Inv y.cx p2 σ H s)(r:Vals vs us)(h:∀x dx,H x=none->H dx=none->dx≠x->sp (.ref x::(vs++qo)) (upd (upd H dx<|.own x) x<|.ins C dx []) (λv H2=>v=.av/\Q (.ref x) H2) (y.E σ)): wpAny (model X.prog X.w) X.A (call (.ref C) us) (EP y.cx p2 σ Q) y.xe s:=by
 have hq:=h (s.heap.objs.size+1) s.heap.objs.size (I.aN.fresh<|yM _) (I.aN.fresh<|zq _)<|zD<|Nat.lt_succ_self _;have I2:=Inv.made (C:=C) I;have r2:Vals (V.ref (s.heap.objs.size+1)::(vs++qo)) (Value.ref (s.heap.objs.size+1)::(us++ds)):=.cons rfl<|r.append hd;have hl:(Value.ref (s.heap.objs.size+1)::us++ds).length=ps.length:=by have e:=r2.length;rw[F.len _ _ _ _ hq]at e;exact e.symm
 refine wpAny_call<|IB (f:=f) I.pj M.makes M.init (beq_iff_eq.mp M.fn)<|yW (F.run _ X.stack _ _ {Value.ref (s.heap.objs.size+1)::us,[]} (Value.ref (s.heap.objs.size+1)::(us++ds)) _ _ (y.E σ) (hr.make C us []) (I2.US.make C us []) (hb _ (Value.ref (s.heap.objs.size+1)::us) I2.pj hl) r2 hq) λr s' Aq=>?_;cases r with|error e=>exact y.ok.call p2 σ _ _ e s' I2 Aq|ok fl=>cases fl with|ret u=>(obtain⟨v,H',I3,rv,ev,q3⟩:=I2.after Aq;subst ev;exact{rv,{V.ref<|s.heap.objs.size+1,H',I3,rfl,q3}})|next=>exact False.elim Aq|brk=>exact False.elim Aq|cont=>exact False.elim Aq
theorem Jq{t:TA}(M:Mk X.K C f)(F:bI X.prog X.w X.K X.mg X.base (fH X.prog X.w X.mg) k f fd ps sp)(hr:bR (k+1) X.A)(hg:Gl X x)(hm:X.mg x=some (.ref C))(hb:Binds X.K fd ps ds)(hd:Vals qo ds)(ha:PA y.cx (e::es) t)(qp:(x==("__debug__": Str))=false)(he:starEach (e::es) X.env=(false,eval e X.env)::starEach es X.env)(dG:(backTo pos<|starEach es X.env).any (·.1)=false): PE y.cx (.Call (.Name x p) (e::es) [] pos) (λσ H Q=>t σ H λvs H1=>∀x dx,H1 x=none->H1 dx=none->dx≠x->sp (.ref x::(vs++qo)) (upd (upd H1 dx<|.own x) x<|.ins C dx []) (λv H2=>v=.av/\Q (.ref x) H2) (y.E σ)):=by intro p2 s σ H Q I h;refine wpAny_Call_Name_kw<|qJ I hg hm ?_ qp;refine callWith_K (h₀:=X.base) I.ok.mod.Te M.kp (br (ha pos p2 s σ H _ I h) λus s1 ⟨vs,H1,I1,r,q⟩=>{I1.pj,?_}) he dG;exact GO M F hr hb hd I1 r q
end
section
variable{K:Frag}{X:Cx}{k:Nat}{f C:Addr}{fd:FuncData}{ps:lc}{sp:qS}{Ar:List D}{qo:List V}{ds:fv}{x m:Str}{p pos apos:Pos}{e o:Expr}{es:mt}
structure TJ(K:Frag)(Ar:List D)(qo:List V)(ds:fv):Prop where
 v:Vals qo ds
 d:∀H,RvAll K H Ar qo
theorem d0:TJ K [] [] []:={.nil,λ_=>bx}
theorem d1:TJ K [.av] [.av] [.none]:={.cons rfl .nil,λ_=>aW jz bx}
def OL(sp:qS)(Ar:List D)(t:iw):TD:=λσ S R Z=>t σ S (λds S1=>sp (ds++Ar) S1 R Z) Z
theorem cf{t:iw}(F:bI X.prog X.w K X.mg X.base (fH X.prog X.w X.mg) k f fd ps<|qU K sp)(hr:bR k X.A)(hm:X.mg x=some (.ref f))(hk:keepIn K (.ref f)=true)(hb:Binds K fd ps ds)(hd:TJ K Ar qo ds)(ha:DA K X (e::es) t)(hg:autoParam (Gl X x) qQJ)(qp:autoParam ((x==("__debug__": Str))=false) qQZ)(he:autoParam (starEach (e::es) X.env=(false,eval e X.env)::starEach es X.env) qQJ)(dG:autoParam ((backTo pos<|starEach es X.env).any (·.1)=false) qQJ)(hK:autoParam (X.K=K) qQJ): DE K X (.Call (.Name x p) (e::es) [] pos) (OL sp Ar t):=by
 subst hK
 exact⟨λy=>(Jo F hr hg hm hk hb hd.v (ha.of y) qp he dG).mono <| by rintro τ H Q ⟨σ,S,R,Z,aC,hS,q,hR,hZ⟩;exact
  ⟨σ,S,_,Z,aC,hS,q,λes S1 xs H1 r1 v1 s1 k1=>⟨es++Ar,S1,R,Z,v1.app<|hd.d _,s1,r1,hR.kp k1,hZ.kp k1⟩,hZ⟩⟩
inductive MeR(C:Addr)(m:Str)(x:D)(S:ao)(p:Prop):Prop where
 |mk (a:Addr)(fs:List<|Str×D)(e1:x=.ref a)(e2:S a=some (.ins C fs))(e3:fs.lookup m=none)(r:p)
def EL(C:Addr)(m:Str)(sp:qS)(Ar:List D)(ta:TD)(t:iw):TD:=λσ S R Z=>ta σ S (λx S1=>MeR C m x S1<|t σ S1 (λds S2=>sp (x::(ds++Ar)) S2 R Z) Z) Z
theorem cme{t:iw}(he:DE K X o ta)(c:qO K C)(hm:Meth K C m f)(F:bI X.prog X.w K X.mg X.base (fH X.prog X.w X.mg) k f fd ps<|qU K sp)(hr:bR k X.A)(hb:Binds K fd ps ds)(hd:TJ K Ar qo ds)(ha:DA K X (e::es) t)
  (uf:autoParam (starEach (e::es) X.env=(false,eval e X.env)::starEach es X.env) qQJ) (dG:autoParam ((backTo pos<|starEach es X.env).any (·.1)=false) qQJ)
  (ht:autoParam (eval (.Call (.Attribute o m apos) (e::es) [] pos) X.env=(do
   let ov <-eval o X.env
   standAt apos.atName
   let (f,first) <-holding [ov] (getMethod ov m pl)
   callWith pos f first (backTo pos<|starEach (e::es) X.env) (backToKw pos<|keywordEach [] X.env))) qQJ) (hK:autoParam (X.K=K) qQJ):
  DE K X (.Call (.Attribute o m apos) (e::es) [] pos) (EL C m sp Ar ta t):=by
 subst hK
 exact⟨λy=>(Jp (he.of y) c hm F hr hb hd.v (ha.of y) uf dG ht).mono <| by rintro τ H Q ⟨σ,S,R,Z,aC,hS,q,hR,hZ⟩;exact
  ⟨σ,S,_,Z,aC,hS,q,by
   rintro d S1 x H1 ⟨a,fs,e1,e2,e3,r1⟩ v1 s1 k1
   subst e1
   obtain⟨dx,vs,e4,t4⟩:=s1.ins e2
   exact{a,dx,vs,v1.ref,e4,(t4.look m).2 e3,σ,S1,_,Z,aC.ts k1,s1,r1,λes S2 xs H2 r2 v2 s2 k2=>{_,S2,R,Z,aW (Rv.ts k2 _ v1)<|v2.app<|hd.d _,s2,r2,hR.kp<|k1.trans k2,hZ.kp<|k1.trans k2},hZ.kp k1},hZ⟩⟩
theorem aap(he:DE K X o ta)(c:qO K C)(hm:Meth K C m f)(F:bI X.prog X.w K X.mg X.base (fH X.prog X.w X.mg) k f fd ps<|qU K sp)(hr:bR k X.A)(hb:Binds K fd ps ds)(hd:TJ K Ar qo ds)
  (ht:autoParam (eval (.Call (.Attribute o m apos) [] [] pos) X.env=(do
   let ov <-eval o X.env
   standAt apos.atName
   let (f,first) <-holding [ov] (getMethod ov m pl)
   callWith pos f first (backTo pos<|starEach [] X.env) (backToKw pos<|keywordEach [] X.env))) qQJ) (hK:autoParam (X.K=K) qQJ):
  DE K X (.Call (.Attribute o m apos) [] [] pos) (EL C m sp Ar ta MM):=by
 subst hK
 exact⟨λy=>(GN (he.of y) c hm F hr hb hd.v ht).mono <| by rintro τ H Q ⟨σ,S,R,Z,aC,hS,q,hR,hZ⟩;exact
  ⟨σ,S,_,Z,aC,hS,q,by
   rintro d S1 x H1 ⟨a,fs,e1,e2,e3,r1⟩ v1 s1 k1
   subst e1
   obtain⟨dx,vs,e4,t4⟩:=s1.ins e2
   exact{a,dx,vs,v1.ref,e4,(t4.look m).2 e3,_,S1,R,Z,aW v1<|hd.d _,s1,r1,hR.kp k1,hZ.kp k1},hZ⟩⟩
def VY(C:Addr)(sp:qS)(Ar:List D)(t:iw):TD:=λσ S R Z=>t σ S (λds S1=>∀x,S1 x=none->sp (.ref x::(ds++Ar)) (S1.set x<|.ins C []) (λd S2=>d=.av/\R (.ref x) S2) Z) Z
theorem mk{t:iw}(M:Mk K C f)(F:bI X.prog X.w K X.mg X.base (fH X.prog X.w X.mg) k f fd ps<|qU K sp)(hr:bR (k+1) X.A)(hm:X.mg x=some (.ref C))(hb:Binds K fd ps ds)(hd:TJ K Ar qo ds)(ha:DA K X (e::es) t)(hg:autoParam (Gl X x) qQJ)(qp:autoParam ((x==("__debug__": Str))=false) qQZ)(he:autoParam (starEach (e::es) X.env=(false,eval e X.env)::starEach es X.env) qQJ)(dG:autoParam ((backTo pos<|starEach es X.env).any (·.1)=false) qQJ)(hK:autoParam (X.K=K) qQJ): DE K X (.Call (.Name x p) (e::es) [] pos) (VY C sp Ar t):=by
 subst hK
 exact⟨λy=>(Jq M F hr hg hm hb hd.v (ha.of y) qp he dG).mono <| by rintro τ H Q ⟨σ,S,R,Z,aC,hS,q,hR,hZ⟩;exact
  ⟨σ,S,_,Z,aC,hS,q,λes S1 xs H1 r1 v1 s1 k1 x dx hx hdx ne=>by
   have MR:upd H1 dx (.own x) x=none:=by rw[ax ne.symm];exact hx
   have k2:Kp X.K H1 (upd (upd H1 dx<|.own x) x<|.ins C dx []):=(Kp.new hdx).trans<|Kp.new MR
   exact{_,_,_,Z,aW (iC x)<|RvAll.ts k2 _<|v1.app<|hd.d _,(s1.grow hdx).new (c:=.ins C []) MR {dx,[],aG,.nil},r1 x<|s1.fresh hx,by rintro d S2 v H2 ⟨e,r2⟩ v2 s2 k3;exact by subst e;exact{v2.av,hR _ _ _ _ r2 (iC x) s2<|(k1.trans k2).trans k3},(hZ.kp k1).kp k2},hZ⟩⟩
inductive FlR(C:Addr)(f:Str)(x:D)(S:ao)(R:KD):Prop where
 |mk (a:Addr)(fs:List<|Str×D)(d:D)(e1:x=.ref a)(e2:S a=some (.ins C fs))(e3:fs.lookup f=some d)(r:R d S)
def aaq(C:Addr)(f:Str)(ta:TD):TD:=λσ S R Z=>ta σ S (λx S1=>FlR C f x S1 R) Z
theorem fl{f:Str}{ta:TD}(c:qO K C)(n:jv K C f)(he:DE K X e ta)(hb:autoParam (attributeBase e f X.env (eval e X.env)=eval e X.env) qQJ)(hK:autoParam (X.K=K) qQJ):DE K X (.Attribute e f pos) (aaq C f ta):=by
 subst hK
 exact⟨λy=>(Qn (X:=y.cx) (he.of y) hb).mono <| by rintro τ H Q ⟨σ,S,R,Z,aC,hS,q,hR,hZ⟩;exact
  ⟨σ,S,_,Z,aC,hS,q,by
   rintro d S1 x H1 ⟨a,fs,y,e1,e2,e3,r1⟩ v1 s1 k1
   subst e1
   obtain⟨dx,vs,e4,t4⟩:=s1.ins e2
   obtain⟨v,e5,r5⟩:=(t4.look f).1 y e3
   exact{a,C,dx,vs,v,v1.ref,e4,c,n,e5,(hR.kp k1).now s1 r1 r5},hZ⟩⟩
end
structure vf where
 nx:SD->ao->Prop
 rt:KD
 bk:SD->ao->Prop:=λ_ _=>False
 ct:SD->ao->Prop:=λ_ _=>False
abbrev mr:=vf->SD->ao->(SD->KX)->Prop
def OM(K:Frag)(H:Hp)(R:SD->ao->Prop)(Q:St->Hp->Prop):Prop:=∀σ S τ H',R σ S->iE K H' σ τ->Rs K S H'->Kp K H H'->Q τ H'
structure X9(K:Frag)(H:Hp)(De:vf)(Dv:Ends):Prop where
 nx:OM K H De.nx Dv.nx
 rt:Cn K H De.rt Dv.rt
 bk:OM K H De.bk Dv.bk
 ct:OM K H De.ct Dv.ct
def As(K:Frag)(H:Hp)(Z:SD->KX)(E:St->XK):Prop:=∀σ τ C S H',Z σ C S->iE K H' σ τ->Rs K S H'->Kp K H H'->E τ (.ref C) none H'
section
variable{K:Frag}{H H1:Hp}{De:vf}{Dv:Ends}{Z:SD->KX}{E:St->XK}{σ:SD}{τ:St}{S:ao}
theorem OM.kp(h:OM K H R Q)(k:Kp K H H1):OM K H1 R Q:=λσ S τ H' r a b c=>h σ S τ H' r a b<|k.trans c
theorem X9.kp(h:X9 K H De Dv)(k:Kp K H H1):X9 K H1 De Dv:={h.nx.kp k,h.rt.kp k,h.bk.kp k,h.ct.kp k}
theorem As.kp(h:As K H Z E)(k:Kp K H H1):As K H1 Z E:=λσ τ C S H' r a b c=>h σ τ C S H' r a b<|k.trans c
theorem As.at(h:As K H Z E)(r:iE K H σ τ):GJ K H (Z σ) (E τ):=λC S H' z s k=>h σ τ C S H' z (r.ts k) s k
theorem As.on(h:As K H Z E)(k:Kp K H H1)(r:iE K H1 σ τ):GJ K H1 (Z σ) (E τ):=(h.kp k).at r
end
def Tl(K:Frag)(E:St->XK)(t:mr):TS:=λDv τ H=>∃σ S De Z,iE K H σ τ/\Rs K S H/\t De σ S Z/\X9 K H De Dv/\As K H Z E
structure DS(K:Frag)(X:Cx)(b:Bool)(st:Stmt)(t:mr):Prop where
 of:∀y:Ev X b,PS y.cx st<|Tl K y.E t
structure HY(K:Frag)(X:Cx)(b:Bool)(st:pc)(t:mr):Prop where
 of:∀y:Ev X b,En y.cx st<|Tl K y.E t
theorem PS.mono{t t':TS}(h:PS X e t)(i:∀D τ H,t' D τ H->t D τ H):PS X e t':=λpins s τ H D I q=>h pins s τ H D I<|i D τ H q
theorem En.mono{t t':TS}(h:En X e t)(i:∀D τ H,t' D τ H->t D τ H):En X e t':=λpins s τ H D I q=>h pins s τ H D I<|i D τ H q
section
variable{K:Frag}{X:Cx}{b:Bool}{pos:Pos}
def VZ:mr:=λDe σ S _=>De.nx σ S
def aar(t u:mr):mr:=λDe σ S Z=>t {De with nx:=λaA S'=>u De aA S' Z} σ S Z
theorem s0:HY K X b [] VZ:=⟨λy=>(LS (X:=y.cx)).mono <| by rintro D τ H ⟨σ,S,De,Z,aC,hS,q,hD,hZ⟩;exact hD.nx _ _ _ _ q aC hS<|.refl _⟩
theorem sc{st:Stmt}{r:pc}{t u:mr}(h1:DS K X b st t)(h2:HY K X b r u):HY K X b (st::r) (aar t u):=
 ⟨λy=>(Il (h1.of y)<|h2.of y).mono <| by rintro D τ H ⟨σ,S,De,Z,aC,hS,q,hD,hZ⟩;exact
  ⟨σ,S,_,Z,aC,hS,q,⟨λx5 S1 τ1 H1 r1 a b c=>⟨x5,S1,De,Z,a,b,r1,hD.kp c,hZ.kp c⟩,hD.rt,hD.bk,hD.ct⟩,hZ⟩⟩
theorem s1{st:Stmt}{t:mr}(h:DS K X b st t):HY K X b [st] t:=⟨λy=>LU<|h.of y⟩
def V0(t:TD):mr:=λDe σ S Z=>t σ S (λ_ S1=>De.nx σ S1)<|Z σ
theorem se{t:TD}(h:DE K X e t)(hs:autoParam (swapsWith e none pos.line X.env=pure false) qQJ):DS K X b (.Expr e pos) (V0 t):=⟨λy=>(LV (X:=y.cx) (h.of y) hs).mono <| by rintro D τ H ⟨σ,S,De,Z,aC,hS,q,hD,hZ⟩;exact{σ,S,_,_,aC,hS,q,λd S1 v H1 r1 _ s1 k1=>hD.nx _ _ _ _ r1 (aC.ts k1) s1 k1,hZ.at aC}⟩
def aat(t:TD):mr:=λDe σ S Z=>t σ S De.rt<|Z σ
theorem sr{t:TD}(h:DE K X e t):DS K X b (.Return (some e) pos) (aat t):=⟨λy=>(P2<|h.of y).mono <| by rintro D τ H ⟨σ,S,De,Z,aC,hS,q,hD,hZ⟩;exact{σ,S,_,_,aC,hS,q,hD.rt,hZ.at aC}⟩
def dIf(c:mq)(t u:mr):mr:=λDe σ S Z=>c σ S (λb S1=>if b=true then t De σ S1 Z else u De σ S1 Z)<|Z σ
theorem si{t u:mr}(hc:DT K X c tc)(ha:HY K X b a t)(hb:HY K X b a' u):DS K X b (.If c a a' pos) (dIf tc t u):=
 ⟨λy=>(Uz (hc.of y) (ha.of y)<|hb.of y).mono <| by rintro D τ H ⟨σ,S,De,Z,aC,hS,q,hD,hZ⟩;exact
  ⟨σ,S,_,_,aC,hS,q,λc S1 H1 r1 s1 k1=>by
   cases c with
   |true=>rw[if_pos rfl]at r1⊢;exact{σ,S1,De,Z,aC.ts k1,s1,r1,hD.kp k1,hZ.kp k1}
   |false=>rw[if_neg zd]at r1⊢;exact{σ,S1,De,Z,aC.ts k1,s1,r1,hD.kp k1,hZ.kp k1},hZ.at aC⟩⟩
abbrev Au:=D->SD->ao->(SD->ao->Prop)->Prop
def Tg(K:Frag)(g:Au):TG:=λv τ H Q=>∃d σ S R,Rv K H d v/\iE K H σ τ/\Rs K S H/\g d σ S R/\OM K H R Q
structure DG(K:Frag)(X:Cx)(e:Expr)(g:Au):Prop where
 of:∀Y:Cx,Y.K=X.K->Y.N=X.N->Y.env=X.env->Y.fn=X.fn->Y.calm=X.calm->PG Y e (Tg K g)
theorem PG.mono{t t':TG}(h:PG X e t)(i:∀v τ H Q,t' v τ H Q->t v τ H Q):PG X e t':=λpins s τ H v u Q I r q=>h pins s τ H v u Q I r<|i v τ H Q q
def TK(i:Nat):Au:=λd σ S R=>R (σ.set i<|some d) S
theorem gn(hN:X.N.Nodup)(hi:autoParam (X.N[i]?=some x) qQJ)(hx:autoParam (Loc X.env.scope x) qJ1)(hf:autoParam (X.fn x=true\/X.env.scope.names.lookup x=some .local) qJQ):DG K X (.Name x pos) (TK i):=⟨λY _ e2 e3 e4 _=>(qL (X:=Y) (by rw[e2];exact hN) (by rw[e2];exact hi) (by rw[e3];exact hx)<|by rw[e3,e4];exact hf).mono <| by rintro v τ H Q ⟨d,σ,S,R,rv,aC,hS,q,hR⟩;exact hR _ S _ H q (aC.set i rv) hS<|.refl _⟩
abbrev GP:=List D->SD->ao->(SD->ao->Prop)->Prop
def Tgs(K:Frag)(g:GP):Oe:=λvs τ H Q=>∃ds σ S R,RvAll K H ds vs/\iE K H σ τ/\Rs K S H/\g ds σ S R/\OM K H R Q
structure X_(K:Frag)(X:Cx)(es:mt)(g:GP):Prop where
 of:∀Y:Cx,Y.K=X.K->Y.N=X.N->Y.env=X.env->Y.fn=X.fn->Y.calm=X.calm->Of Y es (Tgs K g)
theorem Of.mono{t t':Oe}(h:Of X e t)(i:∀v τ H Q,t' v τ H Q->t v τ H Q):Of X e t':=λpins s τ H v u Q I r q=>h pins s τ H v u Q I r<|i v τ H Q q
def ON:GP:=λds σ S R=>ds=[]/\R σ S
def CQ(g:Au)(u:GP):GP:=λds σ S R=>∃d r,ds=d::r/\g d σ S λx5 S1=>u r x5 S1 R
theorem g0:X_ K X [] ON:=⟨λY _ _ _ _ _=>(Er (X:=Y)).mono <| by rintro vs τ H Q ⟨ds,σ,S,R,rv,aC,hS,⟨e,q⟩,hR⟩;exact by subst e;exact{rv.nil,hR _ _ _ _ q aC hS<|.refl _}⟩
theorem gc(h1:DG K X e g)(h2:X_ K X es u)(hs:autoParam (∀env:Env,(assignEach (e::es) env).map (·.2)=assign e env::(assignEach es env).map (·.2)) qQ0):X_ K X (e::es) (CQ g u):=⟨λY a b c d f=>(rC (h1.of Y a b c d f) (h2.of Y a b c d f)<|hs _).mono <| by rintro vs τ H Q ⟨ds,σ,S,R,rv,aC,hS,⟨d,r,e,q⟩,hR⟩;subst e;obtain⟨y,ys,e1,r1,r2⟩:=rv.cons;exact{y,ys,e1,d,σ,S,_,r1,aC,hS,q,λx5 S1 τ1 H1 q1 a b c=>{r,x5,S1,R,RvAll.ts c _ r2,a,b,q1,hR.kp c}}⟩
def OO(n:Nat)(g:GP):Au:=λd σ S R=>∃ds,d=.tup ds/\ds.length=n/\g ds σ S R
theorem gt(h:X_ K X es g)(hn:autoParam (∀env:Env,(assignEach es env).length=n) qQ0)(uf:autoParam (∀env:Env,(assignEach es env).findIdx? (·.1)=none) qQ0)(hK:autoParam (X.K=K) qQJ)(hc:autoParam (X.calm=true) qQJ):DG K X (.Tuple es j pos) (OO n g):=⟨λY a b c d f=>(Im (X:=Y) (by rw[f];exact hc) (h.of Y a b c d f) (hn _)<|uf _).mono <| by rintro v τ H Q ⟨d,σ,S,R,rv,aC,hS,⟨ds,e,hl,q⟩,hR⟩;subst e;obtain⟨p,xs,e1,e2,t⟩:=rv.tup;exact{p,xs,e1,.of e2,by rw[t.len];exact hl,ds,σ,S,R,t,aC,hS,q,hR}⟩
def Rf(i:Nat)(t:TD):mr:=λDe σ S Z=>t σ S (λd S1=>De.nx (σ.set i<|some d) S1)<|Z σ
theorem bP{t:TD}(hN:X.N.Nodup)(h:DE K X e t)(hi:autoParam (X.N[i]?=some x) qQJ)(hx:autoParam (Loc X.env.scope x) qJ1)(hs:autoParam (swapsWith e (some<|.Name x pos') pos.line X.env=pure false) qQJ)(hf:autoParam (X.fn x=true\/X.env.scope.names.lookup x=some .local) qJQ):DS K X b (.Assign [.Name x pos'] e pos) (Rf i t):=⟨λy=>(P7 (X:=y.cx) (i:=i) hN hi hx (h.of y) hs hf).mono <| by rintro D τ H ⟨σ,S,De,Z,aC,hS,q,hD,hZ⟩;exact{σ,S,_,_,aC,hS,q,λd S1 v H1 r1 v1 s1 k1=>hD.nx _ _ _ _ r1 ((aC.ts k1).set i v1) s1 k1,hZ.at aC}⟩
def aau(t:TD)(g:Au):mr:=λDe σ S Z=>t σ S (λd S1=>g d σ S1 De.nx)<|Z σ
theorem sa{t:TD}(h:DE K X e t)(hg:DG K X tg g)(hs:autoParam (swapsWithSole [tg] e pos.line X.env=pure false) qQJ)(hw:autoParam (swappedStores [tg] e X.env=pure none) qQJ)(h1:autoParam ((assignEach [tg] X.env).map (·.2)=[assign tg X.env]) qQJ): DS K X b (.Assign [tg] e pos) (aau t g):=⟨λy=>(Io (X:=y.cx) (h.of y) (hg.of _ rfl rfl rfl rfl rfl) hs hw h1).mono <| by rintro D τ H ⟨σ,S,De,Z,aC,hS,q,hD,hZ⟩;exact{σ,S,_,_,aC,hS,q,λd S1 v H1 r1 v1 s1 k1=>{d,σ,S1,_,v1,aC.ts k1,s1,r1,hD.nx.kp k1},hZ.at aC}⟩
def aav(td ty tv:TD):mr:=λDe σ S Z=>tv σ S (λv S1=>td σ S1 (λx S2=>ty σ S2 (λy S3=>∃a kvs k,x=.ref a/\S3 a=some (.dM kvs)/\CP y=some k/\kvs.length<sizeLine/\De.nx σ (S3.set a<|.dM<|dput kvs k v))<|Z σ)<|Z σ)<|Z σ
theorem sd{o i value:Expr}{td ty tv:TD}{pos':Pos}(hu:X.A.units+64<cLine)(ho:DE K X o td)(hi:DE K X i ty)(hv:DE K X value tv)(hs:autoParam (swapsWith value (some<|.Subscript o i pos') pos.line X.env=pure false) qQJ):DS K X b (.Assign [.Subscript o i pos'] value pos) (aav td ty tv):=
 ⟨λy=>(Mf (X:=y.cx) (by show X.A.units+1<cLine;lia) (ho.of y) (hi.of y) (hv.of y) hs).mono <| by rintro D τ H ⟨σ,S,De,Z,aC,hS,q,hD,hZ⟩;exact
  ⟨σ,S,_,_,aC,hS,q,λv S1 vv H1 r1 v1 s1 k1=>⟨σ,S1,_,_,aC.ts k1,s1,r1,λx S2 xv H2 r2 v2 s2 k2=>⟨σ,S2,_,_,aC.ts<|k1.trans k2,s2,r2,by
   rintro y S3 yv H3 ⟨a,kvs,k,e1,e2,e3,hl,r3⟩ v3 s3 k3
   subst e1
   obtain⟨vs,e4,t⟩:=s3.dM e2
   have kk:=s3.iD (o:=.dK<|putK vs k vv) e2
   refine{a,_,(Rv.ts k3 _ v2).ref,by rw[oj e3 v3];exact IK.k e4<|by rw[t.len];exact hl,?_}
   exact hD.nx _ _ _ _ r3 (aC.ts<|((k1.trans k2).trans k3).trans kk) (s3.put (c:=.dM _) e2 {_,aG,(t.put k<|Rv.ts (k2.trans k3) _ v1).ts kk})<|((k1.trans k2).trans k3).trans kk,hZ.on (k1.trans k2)<|aC.ts<|k1.trans k2⟩,hZ.on k1<|aC.ts k1⟩,hZ.at aC⟩⟩
end
section
variable{X:Cx}{pins:jp}{σ:St}{H:Hp}{s:Shared}{A:Around}{E:li}{a:Addr}{kvs:List (Key×V)}{k:Key}{u:Value}
theorem Rh(I:Inv X pins σ H s)(e:H a=some (.dK kvs))(ry:RelV (kV k) u)(rz:RelV z r)(hl:kvs.length<sizeLine)(h1:∀v w' s',gv kvs k=some v->Inv X pins σ H s'->RelV v w'->Q w' s')(h2:gv kvs k=none->∀s',Inv X pins σ (upd H a<|.dK<|putK kvs k z) s'->Q r s'): wpAny (model X.prog X.w) A (call (.builtin "dict.setdefault") [.ref a,u,r]) Q E s:=by
 obtain⟨zz,hd,vs,rel,dd⟩:=ED I.aN e;have hp:=pF kvs k z;refine call_meetsIn PySem.F.slot_dict_setdefault dd.typeIs PySem.F.entry_dict_setdefault (PySem.F.args_dict_setdefault_3 _ _ _) (PySem.kt_meets_setdefault (aH X.prog X.w) a (kY ry) hd r) {vs,dd,by rw[<-rel.length];exact zz,λw' hw=>?_,λhn h' Ov hs=>?_};cases q:gv kvs k with|none=>(have:=gq.none_of (o:=valueAt vs k) (by rw[<-q];exact rel.val k);rw[this]at hw;cases hw)|some v=>obtain⟨w2,V1,rw2⟩:=gq.some_of (v:=v) (o:=valueAt vs k) (by rw[<-q];exact rel.val k);rw[V1]at hw;cases hw;exact h1 v _ _ q (I.tok _) rw2
 cases q:gv kvs k with|some v=>(obtain⟨w2,V1,rw2⟩:=gq.some_of (v:=v) (o:=valueAt vs k) (by rw[<-q];exact rel.val k);rw[V1]at hn;cases hn)|none=>have he:∃q,h'.get? a=some q:=(by obtain⟨q,_,_,hq,_⟩:=Ov;exact⟨q,hq⟩);exact h2 q _<|v9 I (by rw[e];exact True.intro) hs he<|Co (by lia) hd (rel.put k rz) Ov
end
section
variable{X:Cx}{o e f:Expr}{apos aQ:Pos}{td ty tx:TE}
def V2(td ty tx:TE):TE:=λσ H Q=>td σ H λx H1=>∃a,x=.ref a/\Tr H1 a/\ty σ H1 λy H2=>tx σ H2 λz H3=>∃kvs k,H3 a=some (.dK kvs)/\y=kV k/\kvs.length<sizeLine/\(∀v,gv kvs k=some v->Q v H3)/\(gv kvs k=none->Q z (upd H3 a<|.dK<|putK kvs k z))
theorem Jr(ho:PE X o td)(he:PE X e ty)(hf:PE X f tx)(m:M2 X o "setdefault" apos e f aQ):PE X (.Call (.Attribute o "setdefault" apos) [e,f] [] aQ) (V2 td ty tx):=by intro pins s σ H Q I h;refine wpAny_Call_method m.base m.HS m.line PySem.F.plainAttrs_dict PySem.F.slot_dict_setdefault PySem.F.type_dict_setdefault<|br (ho pins s σ H _ I h) ?_;rintro u s1 ⟨x,H1,I1,rx,a,ex,d,q1⟩;subst ex;obtain rfl:u=Value.ref a:=rx;obtain⟨t1,t2,_⟩:=v_ I1 d;refine{t1,t2,?_};rw[m.trees];refine Calls.callWith_builtin rfl<|Calls.evalArgs_plain<|yG<|br (he pins s1 σ H1 _ I1 q1) λiv s2 ⟨y,H2,I2,ry,q2⟩=>yG<|br (hf pins s2 σ H2 _ I2 q2) λfv s3 ⟨z,H3,I3,rz,kvs,k,ea,ey,hl,q3,q4⟩=>Calls.spliced_nil ?_;subst ey;exact Rh I3 ea ry rz hl (λv w' s4 l I4 qk=>{v,H3,I4,qk,q3 v l}) λl s4 I4=>{z,_,I4,rz,q4 l}
end
section
variable{K:Frag}{X:Cx}{b:Bool}{o e f:Expr}{apos aQ pos:Pos}{td ty tx:TD}
theorem wk(hS:Rs K S H)(e:S a=some (.dM kvs)):Tr H a:=by obtain⟨vs,e1,_⟩:=hS.dM e;exact .inl {vs,.inl e1}
def V3(td ty:TD):TD:=λσ S R Z=>td σ S (λx S1=>∃a kvs,x=.ref a/\S1 a=some (.dM kvs)/\ty σ S1 (λy S2=>∃kvs k,S2 a=some (.dM kvs)/\CP y=some k/\R ((bY kvs k).getD .av) S2) Z) Z
theorem Js(hS:Rs K S H)(e:S a=some (.dM kvs))(r:Rv K H d v):∃o,qq H a (kV k) o/\Rv K H ((bY kvs k).getD d) (o.getD v):=by obtain⟨o,g,h1,h2⟩:=we (k:=k) hS e;refine{o,g,?_};cases q:bY kvs k with|none=>(rw[q]at h1;cases o with|none=>exact r|some _=>cases h1)|some d'=>obtain⟨v',rfl,r'⟩:=h2 d' q;exact r'
theorem mg1(hu:X.A.units+64<cLine)(ho:DE K X o td)(he:DE K X e ty)(m:autoParam (M1 X o "get" apos e aQ) qQ4):DE K X (.Call (.Attribute o "get" apos) [e] [] aQ) (V3 td ty):=
 ⟨λy=>(IQ (X:=y.cx) (by show X.A.units+1<cLine;lia) (ho.of y) (he.of y) ⟨m.base,m.HS,m.line,m.trees⟩).mono <| by rintro τ H Q ⟨σ,S,R,Z,aC,hS,q,hR,hZ⟩;exact
  ⟨σ,S,_,Z,aC,hS,q,by
   rintro x S1 xv H1 ⟨a,kvs,e1,e2,r1⟩ v1 s1 k1
   subst e1
   exact⟨a,v1.ref,wk s1 e2,σ,S1,_,Z,aC.ts k1,s1,r1,by
    rintro y S2 yv H2 ⟨kvs,k,e3,e4,r2⟩ v2 s2 k2
    obtain⟨o,g,r⟩:=Js (k:=k) s2 e3 jz
    exact{o,by rw[oj e4 v2];exact g,(hR.kp<|k1.trans k2).now s2 r2 r},hZ.kp k1⟩,hZ⟩⟩
theorem ca(ho:DE K X o td)(he:DE K X e ty)(hu:X.A.units+64<cLine:=by assumption)(m:autoParam (M1 X o "get" apos e aQ) qQ4):DE K X (.Call (.Attribute o "get" apos) [e] [] aQ) (V3 td ty):=mg1  hu ho he m
def V4(td ty tx:TD):TD:=λσ S R Z=>td σ S (λx S1=>∃a kvs,x=.ref a/\S1 a=some (.dM kvs)/\ty σ S1 (λy S2=>tx σ S2 (λz S3=>∃kvs k,S3 a=some (.dM kvs)/\CP y=some k/\R ((bY kvs k).getD z) S3) Z) Z) Z
theorem mg2(hu:X.A.units+64<cLine)(ho:DE K X o td)(he:DE K X e ty)(hf:DE K X f tx)(m:autoParam (M2 X o "get" apos e f aQ) qQ4):DE K X (.Call (.Attribute o "get" apos) [e,f] [] aQ) (V4 td ty tx):=
 ⟨λy=>(IS (X:=y.cx) (by show X.A.units+1<cLine;lia) (ho.of y) (he.of y) (hf.of y) ⟨m.base,m.HS,m.line,m.trees⟩).mono <| by rintro τ H Q ⟨σ,S,R,Z,aC,hS,q,hR,hZ⟩;exact
  ⟨σ,S,_,Z,aC,hS,q,by
   rintro x S1 xv H1 ⟨a,kvs,e1,e2,r1⟩ v1 s1 k1
   subst e1
   exact⟨a,v1.ref,wk s1 e2,σ,S1,_,Z,aC.ts k1,s1,r1,λy S2 yv H2 r2 v2 s2 k2=>⟨σ,S2,_,Z,aC.ts<|k1.trans k2,s2,r2,by
    rintro z S3 zv H3 ⟨kvs,k,e3,e4,r3⟩ v3 s3 k3
    obtain⟨o,g,r⟩:=Js (k:=k) s3 e3 v3
    exact{o,by rw[oj e4 v2];exact g,(hR.kp<|(k1.trans k2).trans k3).now s3 r3 r},hZ.kp<|k1.trans k2⟩,hZ.kp k1⟩,hZ⟩⟩
theorem cr(ho:DE K X o td)(he:DE K X e ty)(hf:DE K X f tx)(hu:X.A.units+64<cLine:=by assumption)(m:autoParam (M2 X o "get" apos e f aQ) qQ4):DE K X (.Call (.Attribute o "get" apos) [e,f] [] aQ) (V4 td ty tx):=mg2  hu ho he hf m
def V5(td ty:TD):TD:=λσ S R Z=>td σ S (λx S1=>∃a kvs,x=.ref a/\S1 a=some (.dM kvs)/\ty σ S1 (λy S2=>∃kvs k d,S2 a=some (.dM kvs)/\CP y=some k/\bY kvs k=some d/\R d (S2.set a<|.dM<|Ap kvs k)) Z) Z
theorem mp1(ho:DE K X o td)(he:DE K X e ty)(m:autoParam (M1 X o "pop" apos e aQ) qQ4):DE K X (.Call (.Attribute o "pop" apos) [e] [] aQ) (V5 td ty):=
 ⟨λy=>(IT (X:=y.cx) (ho.of y) (he.of y) ⟨m.base,m.HS,m.line,m.trees⟩).mono <| by rintro τ H Q ⟨σ,S,R,Z,aC,hS,q,hR,hZ⟩;exact
  ⟨σ,S,_,Z,aC,hS,q,by
   rintro x S1 xv H1 ⟨a,kvs,e1,e2,r1⟩ v1 s1 k1
   subst e1
   exact⟨a,v1.ref,wk s1 e2,σ,S1,_,Z,aC.ts k1,s1,r1,by
    rintro y S2 yv H2 ⟨kvs,k,d,e3,e4,e5,r2⟩ v2 s2 k2
    obtain⟨vs,e6,t⟩:=s2.dM e3
    obtain⟨v,e7,r7⟩:=(t.val k).1 d e5
    have kk:=s2.iD (o:=.dK<|pE vs k) e3
    exact{vs,k,v,e6,oj e4 v2,e7,hR _ _ _ _ r2 (Rv.ts kk _ r7) (s2.put (c:=.dM _) e3 {_,aG,(t.drop k).ts kk})<|(k1.trans k2).trans kk},hZ.kp k1⟩,hZ⟩⟩
def V6(td ty tx:TD):TD:=λσ S R Z=>td σ S (λx S1=>∃a kvs,x=.ref a/\S1 a=some (.dM kvs)/\ty σ S1 (λy S2=>tx σ S2 (λz S3=>∃kvs k,S3 a=some (.dM kvs)/\CP y=some k/\kvs.length<sizeLine/\(∀d,bY kvs k=some d->R d S3)/\(bY kvs k=none->R z (S3.set a<|.dM<|dput kvs k z))) Z) Z) Z
theorem ms2(ho:DE K X o td)(he:DE K X e ty)(hf:DE K X f tx)(m:autoParam (M2 X o "setdefault" apos e f aQ) qQ4):DE K X (.Call (.Attribute o "setdefault" apos) [e,f] [] aQ) (V6 td ty tx):=
 ⟨λy=>(Jr (X:=y.cx) (ho.of y) (he.of y) (hf.of y) ⟨m.base,m.HS,m.line,m.trees⟩).mono <| by rintro τ H Q ⟨σ,S,R,Z,aC,hS,q,hR,hZ⟩;exact
  ⟨σ,S,_,Z,aC,hS,q,by
   rintro x S1 xv H1 ⟨a,kvs,e1,e2,r1⟩ v1 s1 k1
   subst e1
   exact⟨a,v1.ref,wk s1 e2,σ,S1,_,Z,aC.ts k1,s1,r1,λy S2 yv H2 r2 v2 s2 k2=>⟨σ,S2,_,Z,aC.ts<|k1.trans k2,s2,r2,by
    rintro z S3 zv H3 ⟨kvs,k,e3,e4,hl,r3,r4⟩ v3 s3 k3
    obtain⟨vs,e6,t⟩:=s3.dM e3
    have kk:=s3.iD (o:=.dK<|putK vs k zv) e3
    have hR3:=hR.kp<|(k1.trans k2).trans k3
    refine{vs,k,e6,oj e4<|Rv.ts k3 _ v2,by rw[t.len];exact hl,λv hv=>?_,λhn=>?_}
    ·cases q:bY kvs k with
     |none=>rw[(t.val k).2 q]at hv;cases hv
     |some d =>
      obtain⟨v',e7,r7⟩:=(t.val k).1 d q
      rw[e7]at hv;cases hv
      exact hR3.now s3 (r3 d q) r7
    ·cases q:bY kvs k with
     |some d=>obtain⟨v',e7,r7⟩:=(t.val k).1 d q;rw[e7]at hn;cases hn
     |none=>exact hR3 _ _ _ _ (r4 q) (Rv.ts kk _ v3) (s3.put (c:=.dM _) e3 {_,aG,(t.put k v3).ts kk}) kk,hZ.kp<|k1.trans k2⟩,hZ.kp k1⟩,hZ⟩⟩
noncomputable def CT(f:Str)(d:D):List (Str×D)->List (Str×D)|[]=>[(f,d)]| (g,x)::r=>if g=f then (g,d)::r else (g,x)::CT f d r
theorem bT.CT{H:Hp}{f:Str}{d:D}{v:V}(rd:Rv K H d v):∀{ks:List (Str×D)}{vs:List (Str×V)},bT K H ks vs->bT K H (CT f d ks) (putF f v vs)|_,_,.nil=>.cons ⟨rfl,rd⟩ .nil| (g,x)::r,(g',y)::r',.cons h t=>by obtain⟨e,h⟩:=h;dsimp only at e;subst e;show bT K H (if g=f then (g,d)::r else (g,x)::L2.CT f d r) (if g=f then (g,v)::r' else (g,y)::putF f v r');by_cases q:g=f;rw[if_pos q,if_pos q];exact .cons ⟨rfl,rd⟩ t;rw[if_neg q,if_neg q];exact .cons ⟨rfl,h⟩<|bT.CT rd t
def V7(C:Addr)(f:Str)(ta tv:TD):mr:=λDe σ S Z=>tv σ S (λy S1=>ta σ S1 (λx S2=>∃a fs,x=.ref a/\S2 a=some (.ins C fs)/\fs.length<1000/\De.nx σ (S2.set a<|.ins C<|CT f y fs))<|Z σ)<|Z σ
theorem sf{C:Addr}{f:Str}{value:Expr}{ta tv:TD}{pos':Pos}(c:qO K C)(n:jv K C f)(ha:DE K X o ta)(hv:DE K X value tv)(hs:autoParam (swapsWith value (some<|.Attribute o f pos') pos.line X.env=pure false) qQJ)(hK:autoParam (X.K=K) qQJ): DS K X b (.Assign [.Attribute o f pos'] value pos) (V7 C f ta tv):=by
 subst hK
 exact⟨λy=>(Qo (X:=y.cx) (ha.of y) (hv.of y) hs).mono <| by rintro D τ H ⟨σ,S,De,Z,aC,hS,q,hD,hZ⟩;exact
  ⟨σ,S,_,_,aC,hS,q,λy S1 yv H1 r1 v1 s1 k1=>⟨σ,S1,_,_,aC.ts k1,s1,r1,by
   rintro x S2 xv H2 ⟨a,fs,e1,e2,hl,r2⟩ v2 s2 k2
   subst e1
   obtain⟨dx,vs,e4,t4⟩:=s2.ins e2
   have kk:=s2.iD (o:=.ins C dx<|putF f yv vs) e2
   exact{a,C,dx,vs,v2.ref,e4,c,n,by rw[t4.len];exact hl,hD.nx _ _ _ _ r2 (aC.ts<|(k1.trans k2).trans kk) (s2.put (c:=.ins C _) e2 {dx,_,aG,(bT.CT (Rv.ts k2 _ v1) t4).ts kk})<|(k1.trans k2).trans kk},hZ.on k1<|aC.ts k1⟩,hZ.at aC⟩⟩
def Ri(C:Addr)(t:iw):mr:=λ_ σ S Z=>t σ S (λds S1=>ds.length<=sizeLine/\Z σ C S1)<|Z σ
end
section
variable{K:Frag}{X:Cx}{C:Addr}{x:Str}{e:Expr}{es:mt}{np aQ pos:Pos}
theorem GQ{t:TA}{y:Ev X true}(hc:X.calm=true)(c:XC X.K C)(hg:Gl X x)(hm:X.mg x=some (.ref C))(ha:PA y.cx (e::es) t)(qp:(x==("__debug__": Str))=false)(he:starEach (e::es) X.env=(false,eval e X.env)::starEach es X.env)(dG:(backTo aQ<|starEach es X.env).any (·.1)=false): PS y.cx (.Raise (some<|.Call (.Name x np) (e::es) [] aQ) none pos) (λ_ σ H=>t σ H λvs H1=>vs.length<=sizeLine/\y.E σ (.ref C) none H1):=by intro pins s σ H D I h;obtain⟨bm,N,nm,q,bs,hdct,sn,sub,ab,col,dd,k0,k1,k2,k3,k5,mN,hC,hN,X3,T⟩:=c.at I.mod.Te;have mE:bm.contains (.type "BaseException")=true:=T.hasType (by decide);refine wpAny_Raise_call_subT (C:=C) (nm:=nm) (q:=q) (N:=N) (bs:=bs) (bm:=bm) (hdct:=hdct) (sn:=sn) (sub:=sub) (ab:=ab) (col:=col) (dd:=dd) (k0:=k0) (k1:=k1) (k2:=k2) (k3:=k3) (k5:=k5) PySem.F.excBase_ValueError (mN:=mN) mE (I.ok.hd hc) (by show((backTo aQ<|starEach (e::es) X.env).any (·.1))=false;rw[he];show(false||(backTo aQ<|starEach es X.env).any (·.1))=false;rw[dG];rfl) X3<|qJ I hg hm {rfl,?_} qp;have h1:=ha aQ pins s σ H _ I h;have Ya:starEach (e::es) y.cx.env=(false,eval e X.env)::starEach es X.env:=he;rw[Ya]at h1⊢;exact Calls.evalArgs_plain<|br h1 <| by rintro us s2 ⟨vs,H2,I2,r,z,q2⟩;exact{rfl,by show us.length<=sizeLine;rw[<-r.length];exact z,I2.bk _ _ hC,hN.keeps I2.bk,T.keeps I2.bk,λh' a hx=>y.ok.own rfl pins σ H2 s2 h' a _ _ I2 hx q2}
theorem sj{t:iw}(c:XC K C)(hm:X.mg x=some (.ref C))(ha:DA K X (e::es) t)(hg:autoParam (Gl X x) qQJ)(qp:autoParam ((x==("__debug__": Str))=false) qQZ)(he:autoParam (starEach (e::es) X.env=(false,eval e X.env)::starEach es X.env) qQJ)(dG:autoParam ((backTo aQ<|starEach es X.env).any (·.1)=false) qQJ)(hc:autoParam (X.calm=true) qQJ)(hK:autoParam (X.K=K) qQJ): DS K X true (.Raise (some<|.Call (.Name x np) (e::es) [] aQ) none pos) (Ri C t):=by subst hK;exact⟨λy=>(GQ (y:=y) hc c hg hm (ha.of y) qp he dG).mono λD τ H ⟨σ,S,De,Z,aC,hS,q,hD,hZ⟩=>{σ,S,_,_,aC,hS,q,λds S1 vs H1 ⟨hl,r1⟩ v1 s1 k1=>{by rw[v1.len];exact hl,hZ.at aC C S1 H1 r1 s1 k1},hZ.at aC}⟩
end
structure nV where
 xs:List D
 ok:ao->Prop
def V8(K:Frag)(H0:Hp)(J:It)(I:nV):Prop:=∀i S H,Kp K H0 H->Rs K S H->I.ok S->(∀d,I.xs[i]?=some d->J.go i H/\∀x H',J.UB i H x H'->Rv K H' d x/\Kp K H H'/\Rs K S H')/\(I.xs.length<=i->J.stop i H)
abbrev x8:=SD->ao->(nV->ao->Prop)->KX->Prop
def Ti(K:Frag)(E:St->XK)(t:x8):TI:=λτ H R=>∃σ S RI Z,iE K H σ τ/\Rs K S H/\t σ S RI Z/\(∀I S' J H',RI I S'->V8 K H' J I->Rs K S' H'->Kp K H H'->R J H')/\GJ K H Z (E τ)
structure DI(K:Frag)(X:Cx)(tg it:Expr)(t:x8):Prop where
 of:∀{b:Bool}(y:Ev X b),PI y.cx tg it<|Ti K y.E t
theorem PI.mono{t t':TI}(h:PI X tg it t)(i:∀τ H R,t' τ H R->t τ H R):PI X tg it t':=λpins s τ H R I q=>h pins s τ H R I<|i τ H R q
section
variable{K:Frag}{X:Cx}{tg l:Expr}
def aaw(t:TD):x8:=λσ S R Z=>t σ S (λx S1=>∃ds,rX S1 x ds/\R {ds,λS=>rX S x ds} S1) Z
theorem il{t:TD}(h:DE K X l t)(hK:autoParam (X.K=K) qQJ):DI K X tg l (aaw t):=by subst hK;exact⟨λy=>(LY (X:=y.cx)<|h.of y).mono <| by rintro τ H R ⟨σ,S,RI,Z,aC,hS,q,hR,hZ⟩;exact{σ,S,_,Z,aC,hS,q,by rintro x S1 v H1 ⟨ds,h1,r1⟩ v1 s1 k1;obtain⟨a,xs,rfl,hq,t⟩:=h1.at s1 v1;refine{a,rfl,⟨xs,hq⟩,hR _ S1 _ H1 r1 (λi S2 H2 k2 s2 Yb=>?_) s1 k1};obtain⟨a',Rj,e',Aq,t'⟩:=rX.at Yb s2<|Rv.ts k2 _ v1;cases e';refine{λd hd=>?_,λhl=>{Rj,Aq,by rw[t'.len];exact hl}};obtain⟨v,e1,r⟩:=t'.get hd;refine{⟨Rj,v,Aq,e1⟩,λx' H' ⟨e2,e3⟩=>?_};subst e2;have:=e3 Rj Aq;rw[e1]at this;cases this;exact{r,.refl _,s2},hZ}⟩
def V9(t:TD):x8:=λσ S R Z=>t σ S (λx S1=>∃ds,(x=.tup ds\/x=.kt ds)/\R {ds,λ_=>True} S1) Z
theorem Rk{H:Hp}{x:D}{ds:List D}{v:V}(h:x=.tup ds\/x=.kt ds)(r:Rv K H x v):∃a xs,v=.ref a/\(∀H',Kp K H H'->i4 K H' a xs)/\RvAll K H ds xs:=by rcases h with rfl|rfl;obtain⟨a,xs,rfl,q,t⟩:=r.tup;exact{a,xs,rfl,λH' k=>.of<|k.t _ _ q,t};obtain⟨a,xs,rfl,q,t⟩:=r.kt;exact{a,xs,rfl,λH' k=>.inr q,t}
theorem HZ{t:TD}(h:DE K X l t)(hK:autoParam (X.K=K) qQJ):DI K X tg l (V9 t):=by subst hK;exact⟨λy=>(Qb (X:=y.cx)<|h.of y).mono <| by rintro τ H R ⟨σ,S,RI,Z,aC,hS,q,hR,hZ⟩;exact{σ,S,_,Z,aC,hS,q,by rintro x S1 v H1 ⟨ds,h1,r1⟩ v1 s1 k1;obtain⟨a,xs,rfl,hq,t⟩:=Rk h1 v1;refine{a,rfl,{xs,hq _<|.refl _},hR _ S1 _ H1 r1 (λi S2 H2 k2 s2 _=>?_) s1 k1};have TL:=hq H2 k2;refine{λd hd=>?_,λhl=>{xs,TL,by rw[t.len];exact hl}};obtain⟨v,e1,r⟩:=(RvAll.ts k2 _ t).get hd;refine{⟨xs,v,TL,e1⟩,λx' H' ⟨e2,e3⟩=>?_};subst e2;have:=e3 xs TL;rw[e1]at this;cases this;exact{r,.refl _,s2},hZ}⟩
noncomputable def cR(lo:Int)(n:Nat):List D:=(List.range n).map λi=>D.int<|lo+(i:Nat)
theorem bE{lo:Int}{n:Nat} : (cR lo n).length=n:=by unfold cR;rw[zb,List.length_range]
theorem bU{lo:Int}{n i:Nat}{d:D}(h:(cR lo n)[i]?=some d):i<n/\d=.int (lo+i):=by unfold cR at h;rw[zi]at h;by_cases q:i<n;rw[List.getElem?_range q]at h;exact{q,(zS h).symm};rw[List.getElem?_eq_none<|by rw[List.length_range];omega]at h;cases h
theorem Jt{H0:Hp}{lo:Int}{n:Nat} : V8 K H0 (UC lo n) {cR lo n,λ_=>True}:=λi S H k s _=>{λd hd=>by obtain⟨h1,rfl⟩:=bU hd;exact{h1,by rintro x H' ⟨e1,e2⟩;exact by subst e1 e2;exact{aT _,.refl _,s}},λhl=>by rw[bE]at hl;exact hl}
def aax(t:iw):x8:=λσ S R Z=>t σ S (λds S1=>∃j:Int,ds=[.int j]/\-(2^62)<=j/\j<2^62/\R {cR 0 j.toNat,λ_=>True} S1) Z
theorem LG{t:iw}(hm:X.mg "range"= none)(ha:DA K X [a] t)(hg:autoParam (Gl X "range") qQJ)(hs:autoParam (starEach [a] X.env=[(false,eval a X.env)]) qQJ):DI K X tg (.Call (.Name "range" p) [a] [] pos) (aax t):=⟨λy=>(FY (X:=y.cx) hg hm (ha.of y) hs).mono <| by rintro τ H R ⟨σ,S,RI,Z,aC,hS,q,hR,hZ⟩;exact{σ,S,_,Z,aC,hS,q,by rintro ds S1 vs H1 ⟨j,e,h1,h2,r1⟩ v1 s1 k1;subst e;obtain⟨v,rfl,r⟩:=v1.one;exact{j,by rw[r.int],h1,h2,hR _ S1 _ H1 r1 Jt s1 k1},hZ}⟩
def V_(t:iw):x8:=λσ S R Z=>t σ S (λds S1=>∃i j:Int,ds=[.int i,.int j]/\(-(2^62)<=i/\i<2^62/\-(2^62)<=j/\j<2^62)/\R {cR i (j-i).toNat,λ_=>True} S1) Z
theorem ir2{t:iw}(hm:X.mg "range"= none)(ha:DA K X [a,c] t)(hg:autoParam (Gl X "range") qQJ)(hs:autoParam (starEach [a,c] X.env=[(false,eval a X.env),(false,eval c X.env)]) qQJ)(t5:autoParam (starEach [c] X.env=[(false,eval c X.env)]) qQJ): DI K X tg (.Call (.Name "range" p) [a,c] [] pos) (V_ t):=⟨λy=>(FZ (X:=y.cx) hg hm (ha.of y) hs t5).mono <| by rintro τ H R ⟨σ,S,RI,Z,aC,hS,q,hR,hZ⟩;exact{σ,S,_,Z,aC,hS,q,by rintro ds S1 vs H1 ⟨i,j,e,h1,r1⟩ v1 s1 k1;subst e;obtain⟨v,u,rfl,r,r'⟩:=v1.two;exact{i,j,by rw[r.int,r'.int],h1,hR _ S1 _ H1 r1 Jt s1 k1},hZ}⟩
end
section
variable{K:Frag}{X:Cx}{tg iter:Expr}{pos:Pos}
def aay(ti:x8)(g:Au)(tb:mr):mr:=λDe σ S Z=>ti σ S (λI S1=>∃P:Nat->SD->ao->Prop,P 0 σ S1/\(∀i σ S,P i σ S->I.ok S)/\(∀i d σ S,I.xs[i]?=some d->P i σ S->g d σ S λqM S2=>tb {De with nx:=P<|i+1,ct:=P<|i+1,bk:=De.nx} qM S2 Z)/\∀σ S,P I.xs.length σ S->De.nx σ S)<|Z σ
theorem GR(hi:DI K X tg iter ti)(hg:DG K X tg g)(hb:HY K X true body tb)(hs:autoParam (∀x,foldedSetIterable iter X.env x=pure x) qQ0)(hc:autoParam (X.calm=true) qQJ):DS K X true (.For tg iter body [] pos) (aay ti g tb):=
 ⟨λy=>(Qc (X:=y.cx) (y.ok.loop rfl) hc (hi.of y) (hg.of _ rfl rfl rfl rfl rfl) (hb.of y) hs).mono <| by rintro D τ H ⟨σ,S,De,Z,aC,hS,q,hD,hZ⟩;exact
  ⟨σ,S,_,_,aC,hS,q,by
   rintro I S1 J H1 ⟨P,p0,pok,pst,pend⟩ hJ s1 k1
   refine{λi m τ H=>m=I.xs.length-i/\i<=I.xs.length/\∃σ S,iE K H σ τ/\Rs K S H/\P i σ S/\Kp K H1 H,!{zU _,σ,S1,aC.ts k1,s1,p0,.refl _},?_}
   rintro i m τ2 H2 ⟨rfl,Wa,qM,S2,a2,s2,p2,k2⟩
   have ok:=hJ i S2 H2 k2 s2<|pok _ _ _ p2
   by_cases dY:i<I.xs.length
   ·obtain⟨go,yl⟩:=ok.1 _ (ze dY)
    refine .inr {go,λTF H'=>i+1<=I.xs.length/\∃σ S,iE K H' σ TF/\Rs K S H'/\P (i+1) σ S/\Kp K H1 H',λaA H' h'=>{_,by omega,rfl,h'},λx H' hy=>?_}
    obtain⟨rx,k3,s3⟩:=yl x H' hy
    refine{_,qM,S2,_,rx,a2.ts k3,s3,pst i _ qM S2 (ze dY) p2,λYc S4 τ4 H4 r4 a4 s4 k4=>?_}
    have kk:=(k2.trans k3).trans k4
    exact{Yc,S4,_,Z,a4,s4,r4,{λRl S5 τ5 H5 r5 a5 s5 k5=>{dY,Rl,S5,a5,s5,r5,kk.trans k5},hD.rt.kp<|k1.trans kk,(hD.nx.kp<|k1.trans kk),λRl S5 τ5 H5 r5 a5 s5 k5=>{dY,Rl,S5,a5,s5,r5,kk.trans k5}},hZ.kp<|k1.trans kk}
   ·have e:i=I.xs.length:=by omega
    subst e
    exact .inl {ok.2<|zq _,hD.nx _ _ _ _ (pend _ _ p2) a2 s2<|k1.trans k2},hZ.at aC⟩⟩
end
noncomputable def mL(σ:SD)(src:List<|Option Nat):SD:=src.map λo=>match o with|some j=>(σ[j]?).join|none=>none
theorem iE.pick{K:Frag}{H:Hp}{σ:SD}{τ:St}(h:iE K H σ τ):∀src:v0,iE K H (mL σ src) (pick τ src)|[]=>.nil|o::r=>.cons (λd e=>by cases o with|none=>(cases e)|some j=>dsimp only at e⊢;cases q:σ[j]? with|none=>(rw[q]at e;cases e)|some o'=>rw[q]at e;obtain rfl:o'=some d:=e;obtain⟨v,e1,r1⟩:=h.get q;exact{v,by rw[e1];rfl,r1})<|iE.pick h r
def Zf:KX:=λ_ _=>False
def Av(σ:SD)(src:List<|Option Nat)(g:Au)(tc:mq)(te:TD)(R:KD)(I:nV)(S1:ao):Prop:=∃P:Nat->List D->ao->Prop,P 0 [] S1/\(∀i out S,P i out S->I.ok S)/\(∀i d out S,I.xs[i]?=some d->P i out S->out.length<sizeLine/\g d (mL σ src) S λgu S3=>tc gu S3 (λb S4=>if b=true then te gu S4 (λv S5=>P (i+1) (out++[v]) S5) Zf else P (i+1) out S4) Zf)/\∀out S2,P I.xs.length out S2->∀p,S2 p=none->R (.ref p) (S2.set p<|.lst out)
def vg(ti:x8)(src:List<|Option Nat)(g:Au)(tc:mq)(te:TD):TD:=λσ S R Z=>ti σ S (λI S1=>Av σ src g tc te R I S1) Z
theorem GJ.f{K:Frag}{H:Hp}{e:XK} : GJ K H Zf e:=λ_ _ _ z=>z.elim
theorem T.comp{K:Frag}{E E':St->XK}{ti:x8}{src:List<|Option Nat}{g:TG}{gd:Au}{tc:mq}{te:TD}{τ:St}{H:Hp}{Q:VK}(hg:∀v τ H Q,Tg K gd v τ H Q->g v τ H Q)(h:T K E (vg ti src gd tc te) τ H Q):IW (Ti K E ti) src g (Tt K E' tc) (T K E' te) τ H Q:=by
 obtain⟨σ,S,R,Z,aC,hS,q,hR,hZ⟩:=h;refine{σ,S,_,Z,aC,hS,q,λI S1 J H1 ⟨P,p0,pok,pst,pend⟩ hJ s1 k1=>?_,hZ};refine{λi m out H=>m=I.xs.length-i/\i<=I.xs.length/\∃ds S,RvAll K H ds out/\Rs K S H/\P i ds S/\Kp K H1 H,!{zU _,[],S1,bx,s1,p0,.refl _},?_};rintro i m out H2 ⟨rfl,Wa,ds,S2,v2,s2,p2,k2⟩;have ok:=hJ i S2 H2 k2 s2<|pok _ _ _ p2;by_cases dY:i<I.xs.length;obtain⟨go,yl⟩:=ok.1 _<|ze dY;obtain⟨hz,st⟩:=pst i _ ds S2 (ze dY) p2;refine .inr {go,by rw[v2.len];exact hz,λx H' hy=>?_};obtain⟨rx,k3,s3⟩:=yl x H' hy;refine hg _ _ _ _ {_,_,S2,_,rx,(((aC.ts k1).ts k2).ts k3).pick src,s3,st,λYc S4 τ4 H4 r4 a4 s4 k4=>?_};refine{Yc,S4,_,Zf,a4,s4,r4,λc S5 H5 r5 s5 k5=>?_,.f};cases c with|true=>rw[if_pos rfl]at r5⊢;exact{Yc,S5,_,Zf,a4.ts k5,s5,r5,λd S6 v H6 r6 v6 s6 k6=>{_,by omega,rfl,dY,ds++[d],S6,(RvAll.ts (((k3.trans k4).trans k5).trans k6) _ v2).app<|aW v6 bx,s6,r6,(((k2.trans k3).trans k4).trans k5).trans k6},.f}|false=>rw[if_neg zd]at r5⊢;exact{_,by omega,rfl,dY,ds,S5,RvAll.ts ((k3.trans k4).trans k5) _ v2,s5,r5,((k2.trans k3).trans k4).trans k5}
 have e:i=I.xs.length:=by omega
 subst e;exact .inl {ok.2<|zq _,λp hp=>(hR.kp<|k1.trans k2).new s2 hp (pend _ _ p2 p) v2}
noncomputable def Ev.none(X:Cx)(h:X.xe=λ_ _=>False):Ev X false:={X.pn,X.xe,λ_=>E0,{by rintro p2 τ H s e s' _ ⟨_,_,_,_,_,_,_,_,_,z⟩;exact z.elim,λe=>(by cases e),λe=>(by cases e)}}
section
variable{K:Frag}{X:Cx}{b:Bool}{N:lc}{src:v0}{scope:Scope}{tg iter elt:Expr}{ifs:mt}{pos:Pos}{ti:x8}{g:TG}{gd:Au}{tc:mq}{te:TD}
structure TM(K:Frag)(X:Cx)(ifs:mt)(t:mq):Prop where
 of:∀{b:Bool}(y:Ev X b),Ts y.cx ifs<|Tt K y.E t
def mM:mq:=λ_ S R _=>R true S
theorem nW:TM K X [] mM:=⟨λy pins s τ H Q I ⟨σ,S,R,Z,aC,hS,q,hR,hZ⟩=>Mi pins s τ H Q I<|hR true S H q hS<|.refl _⟩
theorem if1{t:mq}(h:DT K X c t):TM K X [c] t:=⟨λy=>Mj<|h.of y⟩
theorem TN(S:bj X N src scope)(hit:DI K X tg iter ti)(hg:∀C s H ex pn,PG (gz X N scope C s H ex pn) tg g)(hx:Cp g src)(hgd:∀v τ H Q,Tg K gd v τ H Q->g v τ H Q)(hi:∀C s H ex pn,TM K (gz X N scope C s H ex pn) ifs tc)(he:∀C s H ex pn,DE K (gz X N scope C s H ex pn) elt te)(hs:autoParam (∀x,foldedSetIterable iter X.env x=pure x) qQ0)(hc:autoParam (X.calm=true) qQJ):DE K X (.ListComp elt [{tg,iter,ifs,0}] scope pos) (vg ti src gd tc te):=⟨λy=>(Mm (X:=y.cx) (tc:=Tt K (λ_=>E0) tc) (te:=T K (λ_=>E0) te) ⟨S.kind,S.gM,S.loc,S.BN,S.len,S.src⟩ hc (hit.of y) hg hx (λC s H ex pn=>(hi C s H ex pn).of<|.none _ rfl) (λC s H ex pn=>(he C s H ex pn).of<|.none _ rfl) hs).mono λ_ _ _ h=>h.comp hgd⟩
theorem stc(hN:X.N.Nodup)(S:bj X N src scope)(hit:DI K X tg iter ti)(hg:∀C s H ex pn,PG (gz X N scope C s H ex pn) tg g)(hx:Cp g src)(hgd:∀v τ H Q,Tg K gd v τ H Q->g v τ H Q)(hi:∀C s H ex pn,TM K (gz X N scope C s H ex pn) ifs tc)(he:∀C s H ex pn,DE K (gz X N scope C s H ex pn) elt te)(Vh:autoParam (X.N[i]?=some x) qQJ)(uk:autoParam (X.env.scope.names.lookup x=some .local) qQJ)(Vi:autoParam (swapsWith (.ListComp elt [{tg,iter,ifs,0}] scope pos) (some<|.Name x pos') GA.line X.env=pure true) qQJ)(hs:autoParam (∀x,foldedSetIterable iter X.env x=pure x) qQ0)(hc:autoParam (X.calm=true) qQJ):DS K X b (.Assign [.Name x pos'] (.ListComp elt [{tg,iter,ifs,0}] scope pos) GA) (Rf i<|vg ti src gd tc te):=⟨λy=>(Cq (X:=y.cx) (i:=i) (tc:=Tt K (λ_=>E0) tc) (te:=T K (λ_=>E0) te) hN Vh uk ⟨S.kind,S.gM,S.loc,S.BN,S.len,S.src⟩ hc (hit.of y) hg hx (λC s H ex pn=>(hi C s H ex pn).of<|.none _ rfl) (λC s H ex pn=>(he C s H ex pn).of<|.none _ rfl) Vi hs).mono <| by rintro D τ H ⟨σ,S,De,Z,aC,hS,q,hD,hZ⟩;exact T.comp hgd {σ,S,_,_,aC,hS,q,λd S1 v H1 r1 v1 s1 k1=>hD.nx _ _ _ _ r1 ((aC.ts k1).set i v1) s1 k1,hZ.at aC}⟩
theorem EM:∀v τ H Q,Tg K (TK i) v τ H Q->i5 i v τ H Q:=by rintro v τ H Q ⟨d,σ,S,R,rv,aC,hS,q,hR⟩;exact hR _ S _ H q (aC.set i rv) hS<|.refl _
end
structure wm(K:Frag)(x qual:Str)(st:Stmt)(f:Addr)(fd:FuncData):Prop where
 ex:∃(oc:Value)(od:re)(dV kV doc pm:Value)(an:re)(gy ct:Value)(Qt:ut),
  fd=fnOf x qual (bc st) (aZ st) (ai st) dV kV doc pm an gy ct/\K.lookup f=some {oc,od,.func fd,Qt}/\codeIn K gy qual=true
noncomputable def jC(N:lc)(ds:List D):SD:=ds.map some++List.replicate (N.length-ds.length) none
section
variable{i:Nat}{P:Program}{w:World}{K:Frag}{mg:Str->Option Value}{base:Heap}
theorem wm.okD{x qual:Str}{st:Stmt}{f:Addr}{fd:FuncData}{N ps:lc}{k:Nat}{sp:qS}(F:wm K x qual st f fd)(S:gx N ps<|ai st)(len:∀ds S R Z,sp ds S R Z->ds.length=ps.length)(mC:∀(gy:Value)(A:Around)(outer:j4)(s:Shared)(H:Hp)(E:XK)(ds:List D)(S:ao)(R:KD)(Z:KX),bR k (A.deeper<|envOfC qual (ai st) s.heap.objs.size f gy)->sp ds S R Z->∃t,HY K (kH (fH P w mg) P w K mg base N qual (ai st) f gy A outer s H E) true (aZ st) t/\t {nx:=λ_ S'=>R .av S',rt:=R} (jC N ds) S λ_=>Z):bI P w K mg base (fH P w mg) (k+1) f fd ps (qU K sp):=by
 obtain⟨oc,od,dV,kV,doc,pm,an,gy,ct,Qt,rfl,lk,tZ⟩:=F.ex;have dG:ps.length<=N.length:=by have:=congrArg List.length S.pre;rw[yi]at this;lia
 refine Ot lk tZ S (by rintro vs H Q E ⟨ds,S',R,Z,v,_,h,_⟩;exact by rw[v.len];exact len _ _ _ _ h) λA outer s H vs Q E hr ⟨ds,S',R,Z,v,hS,h,hR,hZ⟩=>?_;obtain⟨t,ht,q⟩:=mC gy A outer s H E ds S' R Z hr h;have L:cZ (kH (fH P w mg) P w K mg base N qual (ai st) f gy A outer s H E) E:=u_;let y:Ev (kH (fH P w mg) P w K mg base N qual (ai st) f gy A outer s H E) true:={_,(kH (fH P w mg) P w K mg base N qual (ai st) f gy A outer s H E).xe,λ_=>E,{λp2 τ H1 s1 e s' I h=>OA L p2 τ H1 s1 e s' I h,λ_ p2 τ H1 s1 h' a cls args I hx he=>pH L I hx he,λ_=>PassesOwn.leaving}};refine{Tl K (λ_=>E) t,ht.of y,jC N ds,S',_,λ_=>Z,?_,hS,q,{λσ S1 τ H1 r a b c=>hR.kp c |>.now b r jz,hR,λ_ _ _ _ z=>z.elim,λ_ _ _ _ z=>z.elim},λσ τ C S1 H1 z a b c=>hZ C S1 H1 z b c};unfold jC start;refine(rW v).app ?_;rw[v.len];exact rV _ _<|by rw[List.length_replicate]
theorem bI.Rm(F:bI P w K mg base (fH P w mg) k f fd ps<|qU K sp)(h:∀ds S R Z,XX ds S R Z->sp ds S R Z):bI P w K mg base (fH P w mg) k f fd ps (qU K XX):=F.imp <| by rintro vs H Q E ⟨ds,S,R,Z,a,b,c,d⟩;exact{ds,S,R,Z,a,b,h _ _ _ _ c,d}
theorem bI.calm(F:bI P w K mg base (fH P w mg) k f fd ps sp):bI P w K mg base X0 k f fd ps λvs H Q _=>sp vs H Q E0:=by refine{λvs H Q E h=>F.len vs H Q E0 h,λA outer s H args us vs Q E hr e0 hb r h=>yW (F.run A outer s H args us vs Q E0 hr e0 hb r h) λres s' q=>?_};cases res with|error e=>(obtain⟨_,_,_,_,_,_,_,_,_,z⟩:=q;exact z.elim)|ok fl=>cases fl<;>exact q
noncomputable def vf.less(De:vf)(i:Nat):vf:={nx:=λσ S=>De.nx (σ.set i none) S,rt:=De.rt,bk:=λσ S=>De.bk (σ.set i none) S,ct:=λσ S=>De.ct (σ.set i none) S}
end
theorem vh{P:Program}{w:World} : ∀{ss:lc}{vs:fv},vs.length=ss.length->(∀(j:Nat)(v:Value),vs[j]?=some v->∃x,ss[j]?=some x/\keyIs (.inr x) v=true)->StrsAre vs ss|[],[],_,_=>.nil|[],_::_,h,_=>by simp at h|_::_,[],h,_=>by simp at h|x::ss,v::vs,h,k=>by obtain⟨x',e,q⟩:=k 0 v rfl;cases e;rcases bD q with⟨i,t,e,_⟩|⟨y,t,e,rfl⟩;cases e;cases e;exact .cons x t<|vh (P:=P) (w:=w) (by simpa using h) λj v e=>k (j+1) v<|by simpa using e
theorem om:∀{vs:fv}{ss:lc},StrsAre vs ss->Vals (ss.map V.str) vs|_,_,.nil=>.nil|_,_,.cons y t h=>.cons ⟨t,rfl⟩<|om h
theorem KV.aaD{κ:Type}{kvs:List<|κ×V}{vs:List<|κ×Value}(h:KV kvs vs):vs.map (·.1)=kvs.map (·.1):=by unfold KV at h;induction h with|nil=>rfl|cons r t ih=>rw[zx,zx,ih,r.1]
theorem Ju{prog:Program}{w:World}{A:Around}{E:li}{s:Shared}{T:String}{r d:Addr}{n:Nat}{P:Nat->Value->Prop}{OK:Heap->Prop}{R:List Value->Shared->Prop}(K:PySem.W.KdlSrc prog w T r d n P OK)(hh:A.handled=none)(aN:OK s.heap)(hn:n<=sizeLine)(h:∀(h':Heap) (tk:Nat) (acc:im),(∀b o,s.heap.get? b=some o->h'.get? b=some o)->s.heap.objs.size<=h'.objs.size->ItemsOf P acc n->R acc.toList {s with heap:=h',toks:=tk}): wpAny (model prog w) A (collect<|.ref r) R E s:=by have dY:=K.there _ aN;unfold collect;refine zc<|wpAny_runValue<|yR entry_proto_collect' ?_;rw[Around.under_plainId PySem.F.plain_proto_collect _];show wpAny _ A.in1 (newList [] >>=λl=>again<|.builtin "list.__iadd__" {[l,.ref r],[]}) _ _ s;refine zc<|yj ?_;refine zo {plainId_quiet PySem.F.plain_list_iadd _,yR entry_list_iadd' ?_};rw[Around.under_plainId PySem.F.plain_list_iadd _];have Wb:(s.heap.push {cls:=.type "list",data:=.seq ([]:fv).toArray}).get? s.heap.objs.size=some {cls:=.type "list",data:=.seq #[]}:=zm _ rfl;show wpAny _ A.in1 (Builtin.List.listExtendWith (.ref s.heap.objs.size) (.ref r)<|.ref s.heap.objs.size) _ _ _;have key:=PySem.W.kdl_extend (A:=A) (s:={s with heap:=s.heap.push {cls:=.type "list",data:=.seq ([]:fv).toArray}}) (R:=λ(q:Result) (s':Shared)=>∃(h':Heap) (tk:Nat) (Aw:im) (c':Nat),q=.ok (.ret<|.ref s.heap.objs.size)/\s'={s with heap:=h',toks:=tk}/\(∀b o,s.heap.get? b=some o->h'.get? b=some o)/\h'.get? s.heap.objs.size=some {cls:=.type "list",dict:=none,data:=.seq Aw c',slots:=#[]}/\ItemsOf P Aw n) K hh (K.keep _ _ aN λb _ o e=>za _ e) s.heap.objs.size (yr dY.1) (yr dY.2) (.ref s.heap.objs.size) 0 Wb (λh' tk Aw c' hk qW rN=>{h',tk,Aw,c',rfl,rfl,λb o e=>hk b o (zD<|zw e)<|za _ e,qW,rN}) hn;refine yK key (λfin s' x=>?_) λe s' x=>?_;{cases fin with|done f=>(obtain⟨h',tk,Aw,c',e,rfl,hk,qW,rN⟩:=x;cases e;show wpAny _ A (load s.heap.objs.size >>=_) _ _ _;exact zc<|wpAny_load qW<|zo<|h h' tk Aw hk (yL<|zw qW) rN)|again c₁=>refine{x.1,yW x.2 λq bQ y=>?_};obtain⟨h',tk,Aw,c',rfl,rfl,hk,qW,rN⟩:=y;show wpAny _ A (load s.heap.objs.size >>=_) _ _ _;exact zc<|wpAny_load qW<|zo<|h h' tk Aw hk (yL<|zw qW) rN};obtain⟨_,_,_,_,e',_⟩:=x;cases e'
theorem wo{X:Cx}(hc:X.calm=true):eN X (.builtin "sorted") (λxs H Q=>∃(a:Addr)(kvs:List (Key×V))(ss:lc),xs=[.ref a]/\H a=some (.dK kvs)/\kvs.map (·.1)=ss.map Sum.inr/\kvs.length<64/\∀mO,mO.Perm ss->sortedS mO=true->∀l,H l=none->Q (.ref l) (upd H l<|.lst<|mO.map V.str)):=by
 intro pins s σ H xs us Q I r h;obtain⟨a,kvs,ss,rfl,e,hk,hl,q⟩:=h;obtain⟨u,rfl,ru⟩:=vals1 r;cases ru;obtain⟨z,hd,vs,rel,dd⟩:=ED I.aN e;obtain⟨ep,Yd⟩:=dd.dictAt;have hlen:vs.length<64:=by rw[<-rel.length];exact hl
 have hh:=I.ok.hd hc;refine PySem.Calls.call_function_entry kind_sorted plain_sorted entry_sorted (args_sorted1 _) ?_;unfold Builtin.«sorted»;refine zc (m:=checkCount "sorted" 1 1 _)<|zo ?_;refine zc<|Ju (A:=X.A.in1) (PySem.W.kdl_dict (knd:=aH X.prog X.w) (kvs:=vs) (ep:=ep) hd) hh Yd (by rw[yg];omega) λh' tk acc OP hB rN=>?_;have II:acc.toList.length=vs.length:=by rw[ya];exact rN.1
 refine zc<|wpAny_newList ?_ (by rw[II,yg];omega);have hS:StrsAre acc.toList ss:=by have hkv:=rel.aaD;refine vh (P:=X.prog) (w:=X.w) (by rw[II,<-rel.length];have:=congrArg List.length hk;simpa using this) λj v ev=>?_;obtain⟨k,x,e1,e2⟩:=rN.2 j v (by rw[<-Array.getElem?_toList];exact ev);have e3:(vs.map (·.1))[j]?=some k:=(by rw[zi,e1];rfl);rw[hkv,hk,zi]at e3;cases q2:ss[j]? with|none=>(rw[q2]at e3;cases e3)|some y=>rw[q2]at e3;cases e3;exact⟨y,rfl,e2⟩
 have HR:(h'.push<|seqObj "list" acc.toList.toArray 0).get? h'.objs.size=some (seqObj "list" acc.toList.toArray 0):=zm _ rfl;show wpAny _ _ _ _ _ {s with heap:=h'.push<|seqObj "list" acc.toList.toArray 0,toks:=tk};refine zc<|yJ<|yH slot_list_sort {_,HR,rfl} entry_list_sort (list_sort_treeK (s:={s with heap:=h'.push<|seqObj "list" acc.toList.toArray 0,toks:=tk}) strKind_oneLt HR hS.keysOf (λoo oq rest e=>keyKind_strs<|by rw[<-e];exact hS) (by rw[II];exact hlen) λeY hp hs=>!⟨?_⟩)<|args_list_sort _;refine zo !⟨?_⟩;obtain⟨mO,h1,h2,h3⟩:=sorted_out_str hS hp hs;obtain⟨e1,he1⟩:=sortedHeap_at (vs:=acc.toList) (n:=0) (out:=(arrOf eY).map (·.2)) HR;have Rn:mO.length<=sizeLine:=by rw[h2.length_eq,yg];have:=congrArg List.length hk;rw[zb,zb]at this;omega
 refine{.ref h'.objs.size,_,I.laid (a:=h'.objs.size) (o:=.lst<|mO.map V.str) (λb u hb=>?_) hB {by rw[zb];exact Rn,_,e1,om h1,he1},rfl,q mO h2 h3 _<|I.aN.fresh hB};have dY:=zw<|OP b u hb;rw[sortedHeap_old (zD dY)<|by rw[yd];exact Nat.lt_succ_of_lt dY,za _<|OP b u hb]
section
variable{K:Frag}
def MS:List D->ao->KD->Prop:=λds S R=>∃(a:Addr)(kvs:List (Key×D))(ss:lc),ds=[.ref a]/\S a=some (.dM kvs)/\kvs.map (·.1)=ss.map Sum.inr/\kvs.length<64/\∀mO,mO.Perm ss->sortedS mO=true->∀p,S p=none->R (.ref p) (S.set p<|.lst<|mO.map D.str)
theorem bT.keys{κ:Type}{H:Hp}{ks:List<|κ×D}{vs:List<|κ×V}(h:bT K H ks vs):vs.map (·.1)=ks.map (·.1):=by unfold bT at h;induction h with|nil=>rfl|cons r t ih=>rw[zx,zx,ih,r.1]
theorem Ax:g7 K (.builtin "sorted") MS:=by rintro X hK hc pins s σ H xs us Q I rx ⟨ds,S,R,r,hS,⟨a,kvs,ss,e,e1,hk,hl,h⟩,hR⟩;subst e;obtain⟨v,rfl,r1⟩:=r.one;obtain⟨vs,e2,t⟩:=hS.dM e1;exact wo hc pins s σ H _ us Q I rx {a,vs,ss,by rw[r1.ref],e2,by rw[t.keys];exact hk,by rw[t.len];exact hl,λmO p1 p2 l hl=>hR.new hS hl (h mO p1 p2 l)<|qR mO}
end
def OQ(K:Frag)(a:Addr)(n:Nat):It:={λi H=>∃xs x,jq K H a xs/\xs.length=n/\i<n/\xs[n-1-i]?=some x,λi H x H'=>H'=H/\∀xs,jq K H a xs->xs.length=n->xs[n-1-i]?=some x,λi _=>n<=i}
theorem Jv{P:Program}{w:World}{K:Frag}{tg:Expr}(a it:Addr)(n:Nat):Turn P w K tg (OQ K a n) [it] it (λi h=>i<=n/\h.IsRevIter it a ((n:Int)-1-(i:Int))) where
 mem:=by simp
 obj:=λi h st b hb=>by
  have e:b=it:=by simpa using hb
  subst e
  obtain⟨_,o,e,c,d⟩:=st
  exact{o,e,λv z=>by rw[d]at z;cases z}
 keep:=λi h h' st k=>{st.1,st.2.at λo e=>k it (by simp) o e}
 item:=by
  intro X hP hw hK hc i pins s σ H E I hf st hg
  subst hP hw hK
  obtain⟨xs,x,hq,hn,hi,hx⟩:=hg
  obtain⟨aw,rv,p,hz⟩:=I.list hq
  obtain⟨u,hu,ru⟩:=rv.get hx
  obtain⟨f0,f1,f2,f3,f4,f5⟩:=hf it<|by simp
  have e:(n:Int)-1-(i:Int)=((n-1-i:Nat):Int):=by lia
  have hit:=st.2
  rw[e]at hit
  refine wpAny_pyNext_rev_item hit p.isList (x:=u) (by simpa using hu) λh' eY sb=>?_
  have I1:Inv X pins σ H {s with heap:=h'}:=I.turned (t':=s.toks) (λb o hb e=>(sb.2 b hb).trans e) f0 f1 f3 f4 f5
  obtain⟨o,e1,c,d⟩:=id eY
  refine{u,rfl,uT (s:={s with heap:=h'}) e1 c d (by decide) {x,H,I1,ru,{rfl,λys hy _=>by rw[I.y3 hy hq];exact hx},{hi,?_},λb hb=>(hf b hb).1}}
  have e2:(n:Int)-1-((i+1:Nat):Int)=((n-1-i:Nat):Int)-1:=by lia
  rw[e2];exact eY
 done:=by
  intro X hP hw hK hc i pins s σ H E I hf st hg
  subst hP hw hK
  obtain⟨f0,f1,f2,f3,f4,f5⟩:=hf it<|by simp
  have hg:n<=i:=hg
  have e:(n:Int)-1-(i:Int) = -1:=by have:=st.1;lia
  have hit:=st.2
  rw[e]at hit
  exact wpAny_pyNext_rev_end (I.ok.hd hc) hit λh' eb=>{rfl,I.turned (t':=s.toks) (λb o hb e=>eb b o hb e) f0 f1 f3 f4 f5}
 self:=λ_ _ _ _ _ st h=>wpAny_pyIter_revIter st.2 h
def aaF(K:Frag)(ta:TA):TI:=λσ H R=>ta σ H λvs H1=>∃a xs,vs=[.ref a]/\jq K H1 a xs/\R (OQ K a xs.length) H1
theorem Ro{X:Cx}{tg a:Expr}{ta:TA}{p pos:Pos}(hg:Gl X "reversed")(hm:X.mg "reversed"= none)(ha:PA X [a] ta)(hs:starEach [a] X.env=[(false,eval a X.env)]):PI X tg (.Call (.Name "reversed" p) [a] [] pos) (aaF X.K ta):=by
 intro pins s σ H R I h;refine Call_<|fG I hg hm boot_reversed<|PyProof.Rows.callWith_type1 (br (ha pos pins s σ H _ I h) λus s1 ⟨vs,H1,I1,r1,q1⟩=>?_) hs rfl;obtain⟨l,xs,e,q,hR⟩:=q1;subst e;obtain⟨u,rfl,ru⟩:=vals1 r1;cases ru;obtain⟨aw,rv,pl,hz⟩:=I1.list q;have hn:aw.toArray.size=xs.length:=by rw[zp,rv.length]
 refine call_reversed_list pl.isList ?_;rw[hn];have st:(s1.heap.push<|revObj l<|(xs.length:Int)-1).IsRevIter s1.heap.objs.size l ((xs.length:Int)-1-((0:Nat):Int)):={_,zm _ rfl,rfl,by show Data.fields _=Data.fields _;simp};have I2:Inv X pins σ H1 {s1 with heap:=s1.heap.push<|revObj l<|(xs.length:Int)-1}:=I1.kept (t':=s1.toks) λb o e=>za _ e;refine wpAny_pyIter_revIter st {_,_,_,_,H1,rfl,I2,Jv l s1.heap.objs.size xs.length,{zU _,st},λb hb=>?_,hR};have hb:b=s1.heap.objs.size:=by simpa using hb
 subst hb;exact I1.qm (zq _)<|I1.aN.fresh<|zq _
section
variable{K:Frag}{X:Cx}{tg:Expr}
def Wc(t:iw):x8:=λσ S R Z=>t σ S (λds S1=>∃x es,ds=[x]/\rX S1 x es/\R {es.reverse,λS=>rX S x es} S1) Z
theorem irv{t:iw}(hm:X.mg "reversed"= none)(ha:DA K X [a] t)(hg:autoParam (Gl X "reversed") qQJ)(hs:autoParam (starEach [a] X.env=[(false,eval a X.env)]) qQJ)(hK:autoParam (X.K=K) qQJ):DI K X tg (.Call (.Name "reversed" p) [a] [] pos) (Wc t):=by subst hK;exact⟨λy=>(Ro (X:=y.cx) hg hm (ha.of y) hs).mono <| by rintro τ H R ⟨σ,S,RI,Z,aC,hS,q,hR,hZ⟩;exact{σ,S,_,Z,aC,hS,q,by rintro ds S1 vs H1 ⟨x,es,e,h1,r1⟩ v1 s1 k1;subst e;obtain⟨v,rfl,r⟩:=v1.one;obtain⟨a,xs,rfl,hq,t⟩:=h1.at s1 r;refine{a,xs,rfl,hq,hR _ S1 _ H1 r1 (λi S2 H2 k2 s2 Yb=>?_) s1 k1};obtain⟨a',Rj,e',Aq,t'⟩:=rX.at Yb s2<|Rv.ts k2 _ r;cases e';have hl:xs.length=es.length:=t.len;have hl':Rj.length=es.length:=t'.len;refine{λd hd=>?_,λh=>by rw[yp]at h;show xs.length<=i;lia};have hi:i<es.length:=(by have:=(zg.mp hd).1;rwa [yp]at this);rw[List.getElem?_reverse hi]at hd;obtain⟨v,e1,r⟩:=t'.get hd;rw[<-hl]at e1;refine{{Rj,v,Aq,by lia,by lia,e1},λx' H' ⟨e2,e3⟩=>?_};subst e2;have:=e3 Rj Aq (by lia);rw[e1]at this;cases this;exact{r,.refl _,s2},hZ}⟩
noncomputable def cA(xs ys:List D):List D:=List.zipWith (λa b=>D.tup [a,b]) xs ys
def Wd(t:iw):x8:=λσ S R Z=>t σ S (λds S1=>∃xs ys,ds=[.tup xs,.tup ys]/\xs.length=ys.length/\R {cA xs ys,λ_=>True} S1) Z
theorem mP:∀v τ H Q,Tg K (OO 2<|CQ (TK i)<|CQ (TK j) ON) v τ H Q->LX K 2 (rB (i5 i)<|rB (i5 j) LW) v τ H Q:=by rintro v τ H Q ⟨d,σ,S,R,rv,aC,hS,⟨ds,e,hl,a,r,e1,b,r',e2,e3,q⟩,hR⟩;subst e e1 e2 e3;obtain⟨p,xs,rfl,hp,t⟩:=rv.tup;obtain⟨v1,v2,rfl,r1,r2⟩:=t.two;exact{p,_,rfl,.of hp,rfl,v1,[v2],rfl,v2,[],rfl,rfl,hR _ S _ H q ((aC.set i r1).set j r2) hS<|.refl _}
end
section
variable{K:Frag}{X:Cx}{b:Bool}{pos:Pos}
def We(tl ti tv:TD):mr:=λDe σ S Z=>tv σ S (λv S1=>tl σ S1 (λx S2=>ti σ S2 (λy S3=>∃a es i j,x=.ref a/\y=.int i/\S3 a=some (.lst es)/\IC es.length i=some j/\De.nx σ (S3.set a<|.lst<|es.set j v))<|Z σ)<|Z σ)<|Z σ
theorem sls{o i value:Expr}{tl ti tv:TD}{pos':Pos}(ho:DE K X o tl)(hi:DE K X i ti)(hv:DE K X value tv)
  (ha:autoParam (∀v,assign (.Subscript o i pos') X.env v=(do
   let ov <-holding [v] (eval o X.env)
   let iv <-holding [v,ov] (eval i X.env)
   standAt pos'
   holding [v,ov,iv] (setItem ov iv v)
   release [v,ov,iv] [])) qQ0)
  (hs:autoParam (swapsWithSole [.Subscript o i pos'] value pos.line X.env=pure false) qQJ) (hw:autoParam (swappedStores [.Subscript o i pos'] value X.env=pure none) qQJ) (h1:autoParam ((assignEach [.Subscript o i pos'] X.env).map (·.2)=[assign (.Subscript o i pos') X.env]) qQJ):
  DS K X b (.Assign [.Subscript o i pos'] value pos) (We tl ti tv):=
 ⟨λy=>(Io (X:=y.cx) (hv.of y) (P5 (ho.of y) (hi.of y) set_list ha) hs hw h1).mono <| by rintro D τ H ⟨σ,S,De,Z,aC,hS,q,hD,hZ⟩;exact
  ⟨σ,S,_,_,aC,hS,q,λv S1 vv H1 r1 v1 s1 k1=>⟨σ,S1,_,_,aC.ts k1,s1,r1,λx S2 xv H2 r2 v2 s2 k2=>⟨σ,S2,_,_,aC.ts<|k1.trans k2,s2,r2,by
   rintro y S3 yv H3 ⟨a,es,i,j,e1,e2,e3,e4,r3⟩ v3 s3 k3
   subst e1 e2
   obtain⟨xs,e5,t⟩:=s3.lst e3
   have kk:=s3.iD (o:=.lst<|xs.set j vv) e3
   refine{a,xs,i,j,(Rv.ts k3 _ v2).ref,v3.int,e5,by rw[t.len];exact e4,?_}
   exact hD.nx _ _ _ _ r3 (aC.ts<|((k1.trans k2).trans k3).trans kk) (s3.put (c:=.lst _) e3 {_,aG,RvAll.ts kk _<|t.set j<|Rv.ts (k2.trans k3) _ v1})<|((k1.trans k2).trans k3).trans kk,hZ.on (k1.trans k2)<|aC.ts<|k1.trans k2⟩,hZ.on k1<|aC.ts k1⟩,hZ.at aC⟩⟩
noncomputable def fI(z:Str):List D:=z.cps.toList.map λc=>D.str ⟨#[c]⟩
def OR(t:TD):x8:=λσ S R Z=>t σ S (λx S1=>∃z,x=.str z/\R {fI z,λ_=>True} S1) Z
theorem Rp{t:TD}(h:DE K X l t):DI K X tg l (OR t):=⟨λy=>(QN (X:=y.cx)<|h.of y).mono <| by rintro τ H R ⟨σ,S,RI,Z,aC,hS,q,hR,hZ⟩;exact⟨σ,S,_,Z,aC,hS,q,by
 rintro x S1 v H1 ⟨z,e,r1⟩ v1 s1 k1;subst e;refine{z,v1.str,hR _ S1 _ H1 r1 (λi S2 H2 k2 s2 _=>{λd hd=>?_,λhl=>?_}) s1 k1};unfold fI at hd;rw[zi,Array.getElem?_toList]at hd;cases q:z.cps[i]? with|none=>(rw[q]at hd;cases hd)|some c=>rw[q]at hd;cases hd;refine{(Array.getElem?_eq_some_iff.mp q).1,λx' H' ⟨e1,c',e2,e3⟩=>?_};rw[q]at e2;cases e2;subst e1 e3;exact{dZ _,.refl _,s2}
 unfold fI at hl;rw[zb,ya]at hl;exact hl,hZ⟩⟩
def MT(t:TD):TD:=λσ S R Z=>t σ S (λx S1=>∃ss:lc,rX S1 x (ss.map D.str)/\ss.length<4000/\R (.int (i7 ss).length) S1) Z
theorem lse{t:TD}(h:DE K X e t)(hm:X.mg "len"= none)(hm':X.mg "set"= none)(hp:autoParam (isPlain e=true) qQJ)(hg:autoParam (Gl X "len") qQJ)(hg':autoParam (Gl X "set") qQJ)(he:autoParam (starEach [e] X.env=[(false,eval e X.env)]) qQJ)(he2:autoParam (starEach [Expr.Call (.Name "set" p') [e] [] pos'] X.env=[(false,eval (.Call (.Name "set" p') [e] [] pos') X.env)]) qQJ)(hK:autoParam (X.K=K) qQJ)(hc:autoParam (X.calm=true) qQJ): DE K X (.Call (.Name "len" p) [.Call (.Name "set" p') [e] [] pos'] [] pos) (MT t):=by subst hK;refine⟨λy=>(y8 (X:=y.cx) (GC (X:=y.cx) rfl rfl) hg hm aD (ZI (uZ (X:=y.cx) (GB (X:=y.cx) rfl rfl rfl hc) hg' hm' QR (ZI (h.of y) Ca hp) (by decide) (by decide) he rfl) Ca rfl) (by decide) (by decide) he2 rfl).mono λτ H Q ⟨σ,S,R,Z,aC,hS,q,hR,hZ⟩=>?_⟩;refine{σ,S,_,Z,aC,hS,q,λx S1 v H1 ⟨ss,h1,hl,r1⟩ v1 s1 k1=>?_,hZ};obtain⟨a,xs,rfl,hq,t⟩:=h1.at s1 v1;rw[t.strs]at hq;exact{a,ss,rfl,hq,hl,λl hl=>{l,ss,rfl,aG,hR _ _ _ _ r1 (aT _) (s1.grow hl)<|k1.trans<|.new hl}}
end
theorem d_:bootBuiltins "sorted"= some (.builtin "sorted"):=by trivial
def Sub(S S':ao):Prop:=∀b c,S b=some c->S' b=some c
theorem Sub.refl(S:ao):Sub S S:=λ_ _ h=>h
theorem Sub.trans(a:Sub S S1)(b:Sub S1 S2):Sub S S2:=λp c h=>b p c<|a p c h
theorem Sub.new(h:S p=none):Sub S (S.set p c):=λb c' hb=>by rw[ae<|gA hb h];exact hb
theorem Rs.sub{K:Frag}{S S':ao}{H:Hp}(h:Rs K S' H)(s:Sub S S'):Rs K S H:=λa c e=>h a c<|s a c e
inductive Fo(S':ao)(p:ao->Prop):Prop where
 |mk (S:ao)(h:Sub S S')(r:p S):Fo S' p
theorem fo(h:p S):Fo S p:={S,.refl S,h}
section
variable{P:Program}{w:World}{K:Frag}{mg:Str->Option Value}{base:Heap}
theorem wm.ok{x qual:Str}{st:Stmt}{f:Addr}{fd:FuncData}{N ps:lc}{k:Nat}{sp:qS}(F:wm K x qual st f fd)(S:gx N ps<|ai st)(len:∀ds S R Z,sp ds S R Z->ds.length=ps.length)(mC:∀(gy:Value)(A:Around)(outer:j4)(s:Shared)(H:Hp)(E:XK)(ds:List D)(S:ao)(R:KD)(Z:KX),bR k (A.deeper<|envOfC qual (ai st) s.heap.objs.size f gy)->sp ds S R Z->∃t,HY K (kH (fH P w mg) P w K mg base N qual (ai st) f gy A outer s H E) true (aZ st) t/\t {nx:=λ_ S'=>Fo S'<|R .av,rt:=λd S'=>Fo S'<|R d} (jC N ds) S λ_ C S'=>Fo S'<|Z C):bI P w K mg base (fH P w mg) (k+1) f fd ps (qU K sp):=by
 have F2:bI P w K mg base (fH P w mg) (k+1) f fd ps (qU K λds S R' Z'=>∃R Z,sp ds S R Z/\R'=(λd S'=>Fo S'<|R d)/\Z'=λC S'=>Fo S'<|Z C):=by refine F.okD S (by rintro ds S R Z ⟨R0,Z0,h,_⟩;exact len _ _ _ _ h) λgy A outer s H E ds S R Z hr ⟨R0,Z0,h,e1,e2⟩=>?_;subst e1 e2;exact mC gy A outer s H E ds S R0 Z0 hr h
 refine F2.imp <| by rintro vs H Q E ⟨ds,S,R,Z,v,hS,h,hR,hZ⟩;exact{ds,S,_,_,v,hS,⟨R,Z,h,rfl,rfl⟩,by rintro d S' u H' ⟨S2,sb,r⟩ rv rs kp;exact hR d S2 u H' r rv (rs.sub sb) kp,by rintro C S' H' ⟨S2,sb,r⟩ rs kp;exact hZ C S2 H' r (rs.sub sb) kp}
end
section
variable{K:Frag}{X:Cx}{b:Bool}
def Wf(t:mr):mr:=λDe σ S Z=>∃P:SD->ao->Prop,t {De with nx:=λaA S'=>Fo S'<|P aA} σ S Z/\∀aA S',P aA S'->De.nx aA S'
theorem qX{st:Stmt}{t:mr}(h:DS K X b st t):DS K X b st (Wf t):=⟨λy=>(h.of y).mono <| by rintro D τ H ⟨σ,S,De,Z,aC,hS,⟨P,q,hP⟩,hD,hZ⟩;exact{σ,S,_,Z,aC,hS,q,{by rintro x5 S1 τ1 H1 ⟨S2,sb,r1⟩ a b c;exact hD.nx _ _ _ _ (hP _ _ r1) a (b.sub sb) c,hD.rt,hD.bk,hD.ct},hZ}⟩
def dFo(t:TD):TD:=λσ S R Z=>t σ S (λd S'=>Fo S'<|R d) Z
theorem wq{t:TD}(h:DE K X e t):DE K X e (dFo t):=⟨λy=>(h.of y).mono <| by rintro τ H Q ⟨σ,S,R,Z,aC,hS,q,hR,hZ⟩;exact{σ,S,_,Z,aC,hS,q,by rintro d S' v H' ⟨S2,sb,r⟩ rv rs kp;exact hR d S2 v H' r rv (rs.sub sb) kp,hZ}⟩
theorem cg1(nd:N.Nodup)(h0:autoParam (N[0]?=some a) qQJ)(hx:autoParam (∀C s H ex pn,Loc (gz X N scope C s H ex pn).env.scope a/\(gz X N scope C s H ex pn).env.scope.names.lookup a=some .local) qJX): ∀C s H ex pn,PG (gz X N scope C s H ex pn) (.Name a p) (i5 0):=λC s H ex pn=>qL (i:=0) nd h0 (hx C s H ex pn).1<|.inr (hx C s H ex pn).2
theorem Wh(nd:N.Nodup)(h0:autoParam (N[0]?=some a) qQJ)(h1:autoParam (N[1]?=some c) qQJ)(hx:autoParam (∀C s H ex pn,Loc (gz X N scope C s H ex pn).env.scope a/\(gz X N scope C s H ex pn).env.scope.names.lookup a=some .local) qJX)(hy:autoParam (∀C s H ex pn,Loc (gz X N scope C s H ex pn).env.scope c/\(gz X N scope C s H ex pn).env.scope.names.lookup c=some .local) qJX)(hl:∀env:Env,(assignEach [.Name a p,.Name c p'] env).length=2/\(assignEach [.Name a p,.Name c p'] env).findIdx? (·.1)=none/\(assignEach [.Name a p,.Name c p'] env).map (·.2)=assign (.Name a p) env::(assignEach [.Name c p'] env).map (·.2)/\(assignEach [.Name c p'] env).map (·.2)=assign (.Name c p') env::(assignEach [] env).map (·.2):=by intro _;exact⟨rfl,rfl,rfl,rfl⟩)(hK:autoParam (X.K=K) qQJ)(hc:autoParam (X.calm=true) qQJ): ∀C s H ex pn,PG (gz X N scope C s H ex pn) (.Tuple [.Name a p,.Name c p'] j p2) (LX K 2<|rB (i5 0)<|rB (i5 1) LW):=λC s H ex pn=>by subst hK;have e:=hl (gz X N scope C s H ex pn).env;exact Im (X:=gz X N scope C s H ex pn) hc (rC (qL (i:=0) nd h0 (hx C s H ex pn).1<|.inr (hx C s H ex pn).2) (rC (qL (i:=1) nd h1 (hy C s H ex pn).1<|.inr (hy C s H ex pn).2) Er e.2.2.2) e.2.2.1) e.1 e.2.1
end
theorem lR:∀{ss:lc}{aw:fv},Vals (ss.map V.str) aw->StrsAre aw ss|[],_,.nil=>.nil|z::ss,_,.cons r t=>by obtain⟨tk,rfl⟩:=r;exact .cons z tk<|lR t
theorem wu:eN X (.builtin "sorted") (λxs H Q=>∃(a:Addr)(ss:lc),xs=[.ref a]/\jq X.K H a (ss.map V.str)/\ss.length<64/\∀mO,mO.Perm ss->sortedS mO=true->∀l,H l=none->Q (.ref l) (upd H l<|.lst<|mO.map V.str)):=by
 intro pins s σ H xs us Q I r h;obtain⟨a,ss,rfl,e,hl,q⟩:=h;obtain⟨u,rfl,ru⟩:=vals1 r;cases ru;obtain⟨aw,rv,p,_⟩:=I.list e;have hS:=lR rv;have hlen:aw.length<64:=by have:=rv.length;rw[zb]at this;lia
 refine sorted_strs p.isList hS hlen λout mO a1 a2 a3=>?_;obtain⟨e1,he1⟩:=sortedAll_at s.heap aw out;have Rn:mO.length<=sizeLine:=by rw[a2.length_eq,yg];lia
 exact{.ref<|s.heap.objs.size+1,_,I.laid (a:=s.heap.objs.size+1) (o:=.lst<|mO.map V.str) (λb u hb=>sortedAll_old hb) (yM _) {by rw[zb];exact Rn,_,e1,om a1,he1},rfl,q mO a2 a3 _<|I.aN.fresh<|yM _}
def Jw:List D->ao->KD->Prop:=λds S R=>∃(x:D)(ss:lc),ds=[x]/\rX S x (ss.map D.str)/\ss.length<64/\∀mO,mO.Perm ss->sortedS mO=true->∀p,S p=none->R (.ref p) (S.set p<|.lst<|mO.map D.str)
section
variable{K:Frag}
theorem GS:g7 K (.builtin "sorted") Jw:=by rintro X hK hc pins s σ H xs us Q I rx ⟨ds,S,R,r,hS,⟨x,ss,e,e1,hl,h⟩,hR⟩;subst hK e;obtain⟨v,rfl,r1⟩:=r.one;obtain⟨a,ys,rfl,q,t⟩:=e1.at hS r1;have et:=t.strs;subst et;exact wu pins s σ H _ us Q I rx {a,ss,rfl,q,hl,λmO p1 p2 l hl=>hR.new hS hl (h mO p1 p2 l)<|qR mO}
end
end L2
namespace HT
open PySem PySem.Spec PyProof.Rows
end HT
namespace L2
open PySem PySem.Spec PyProof.Rows
inductive Jx(S:ao):List D->List PyData->Prop where
 |nil:Jx S [] []
 |cons {d:D}{p:PyData}{ds:wp}{ps:wl} : Dl S d p->Jx S ds ps->Jx S (d::ds) (p::ps)
section
variable{K:Frag}
noncomputable def Jy(p:Str×D):D:=.tup [.str p.1,p.2]
noncomputable def so(l:wE):ww:=l.foldl (λc p=>dput c (.inr p.1) p.2) []
theorem EN:∀{kvs:wE}{ys:dL},RvAll K H (kvs.map Jy) ys->∃kv:ii,Prs H ys kv/\∀c c',bT K H c c'->bT K H (kvs.foldl (λc p=>dput c (.inr p.1) p.2) c) (kv.foldl (λc p=>putK c (.inr p.1) p.2) c')|[],ys,h=>(by rw[h.nil];exact{[],{rfl,λi x p e=>(by cases i<;>cases e)},λc c' h=>h})|p::kvs,ys,h=>by obtain⟨y,ys,rfl,r1,r2⟩:=h.cons;obtain⟨b,zs,rfl,hb,tz⟩:=Rv.tup<|show Rv K H (.tup [.str p.1,p.2]) y from r1;obtain⟨v,u,rfl,rv,ru⟩:=tz.two;have ev:=rv.str;subst ev;obtain⟨kv,⟨hl,hp⟩,hf⟩:=EN r2;refine{(p.1,u)::kv,{by rw[zQ,zQ,hl],λi x q e1 e2=>?_},λc c' h=>hf _ _<|h.put (.inr p.1) ru};cases i with|zero=>(cases e1;cases e2;exact⟨b,rfl,hb⟩)|succ i=>exact hp i x q e1 e2
def Wj:List D->ao->KD->Prop:=λds S R=>∃kvs:wE,ds=[.tup<|kvs.map Jy]/\∀p,S p=none->R (.ref p) (S.set p<|.dM<|so kvs)
theorem Rq:g7 K (.type "dict") Wj:=by rintro X hK hc pins s σ H xs us Q I rx ⟨ds,S,R,r,hS,⟨kvs,e,h⟩,hR⟩;subst hK e;obtain⟨v,rfl,r1⟩:=r.one;obtain⟨a,ys,rfl,q,t⟩:=r1.tup;obtain⟨kv,hp,hf⟩:=EN t;refine Cv hc pins s σ H _ us Q I rx {a,ys,kv,rfl,q,hp,λl hl=>?_};have kn:Kp X.K H (upd H l<|.dK<|EG kv):=.new hl;exact hR _ _ _ _ (h l<|hS.fresh hl) (iC l) (hS.new (c:=.dM<|so kvs) hl {_,aG,(hf [] [] .nil).ts kn}) kn
theorem Ay(kvs:ww)(k k':Key)(d:D):bY (dput kvs k d) k'=if k'=k then some d else bY kvs k':=by
 unfold dput;by_cases hk:(kvs.any λkv=>decide<|kv.1=k)=true;rw[if_pos hk];unfold bY;induction kvs with|nil=>(cases hk)|cons r kvs ih=>rw[zx,yc,yc];by_cases e:r.1=k;rw[if_pos e];by_cases e2:k'=k;rw[if_pos e2,show decide (r.1=k')=true from zu (e.trans e2.symm)];rfl;rw[if_neg e2,show decide (r.1=k')=false from zA λq=>e2<|q.symm.trans e];by_cases dH:(kvs.any λkv=>decide<|kv.1=k)=true;have:=ih dH;rw[if_neg e2]at this;exact this;have em:kvs.map (λkv=>if kv.1=k then (kv.1,d) else kv)=kvs:=(by(conv=>rhs;rw[<-List.map_id kvs]);refine zY λx hx=>?_;rw[if_neg λq=>dH<|yx.mpr {x,hx,zu q}];rfl);rw[em];rw[if_neg e];have dH:(kvs.any λkv=>decide<|kv.1=k)=true:=(by rw[yT,zA e,Bool.false_or]at hk;exact hk);by_cases e3:r.1=k';rw[zu e3,if_neg λq=>e<|e3.trans q];rw[zA e3];exact ih dH
 rw[if_neg hk];unfold bY;rw[List.find?_append];have hn:∀x∈kvs,x.1≠k:=λx hx q=>hk<|yx.mpr {x,hx,zu q};by_cases e:k'=k;subst e;rw[if_pos rfl,List.find?_eq_none.mpr λx hx=>by simp[hn x hx]];simp;rw[if_neg e];have:([(k,d)].find? λkv=>decide<|kv.1=k')=none:=by rw[yc,show decide (k=k')=false from zA λq=>e q.symm];rfl
 rw[this,Option.or_none]
theorem GU(l:wE)(z:Str):(bY (so l)<|.inr z).isSome=l.any λp=>decide (p.1=z):=by
 have all:∀(l:wE)(c:ww),(bY (l.foldl (λc p=>dput c (.inr p.1) p.2) c)<|.inr z).isSome=((bY c<|.inr z).isSome||l.any λp=>decide<|p.1=z):=by intro l;induction l with|nil=>intro c;simp|cons p l ih=>intro c;rw[yQ,ih,Ay,yT];by_cases e:p.1=z;rw[if_pos<|by rw[e],zu e];simp;rw[if_neg λq=>e (yP q).symm,zA e];simp
 exact(all l []).trans<|by rfl
def Wl(a:Addr)(kvs:ii):ve:=λx y S R=>∃z,x=.str z/\y=.ref a/\R (.bl (kvs.lookup z).isSome) S
theorem cmk{X:Cx}{a b:Expr}{ta tb:TD}{pos:Pos}{w:World}{ad:Addr}{kvs:ii}(d:LF w K ad kvs)(ha:DE K X a ta)(hb:DE K X b tb)(hw:autoParam (X.w=w) qQJ)(hm:autoParam (behindInMarks .In b=false) qQ2)(hK:autoParam (X.K=K) qQJ): DE K X (.Compare a [.In] [b] pos) (Q6 (Wl ad kvs) ta tb):=by refine⟨λy=>(Ex (X:=y.cx) (r:=Lr K<|Wl ad kvs) ?_ (ha.of y) (hb.of y) hm).mono λ_ _ _ h=>h.op⟩;rintro pins s σ H x y' v u Q I rx ry ⟨d',e,S,R,r1,r2,hS,⟨z,e1,e2,h⟩,hR⟩;subst e1 e2;exact Jf (X:=y.cx) hw hK pins s σ H x y' v u Q I rx ry {z,ad,kvs,r1.str,r2.ref,d,hR.now hS h<|bO _}
end
structure Wm(k:Nat)(A:Around):Prop where
 dp:A.depth+3*k+5<recursionLimit
 un:A.units+16*k+200<cLine
structure FnH(P:Program)(w:World)(K:Frag)(mg:Str->Option Value)(base:Heap)(k:Nat)(f:Addr)(fd:FuncData)(ps:lc)(sp:qS):Prop where
 len:∀ds S R Z,sp ds S R Z->ds.length=ps.length
 run:∀(A:Around)(outer:j4)(s:Shared)(H:Hp)(args:Args)(us:fv)(vs:dL)(Q:VK),Wm k A->y6 P w K mg base A outer s H->BindsTo s fd args (ps.zip us)->Vals vs us->qU K sp vs H Q E0 ->
  codeAny (model P w) A (.call (.ref f) args) (CR (fH P w mg) outer P w H s Q E0) s
def PEg(pre:Nat)(X:Cx)(e:Expr)(t:TE):Prop:=∀(pins:jp)(s:Shared)(σ:St)(H:Hp)(Q:VK),Inv X pins σ H s->pre<=s.toks->t σ H Q->wpAny (model X.prog X.w) X.A (eval e X.env) (λu s'=>EP X pins σ Q u s'/\1<=s'.toks) X.xe s
structure DEg(pre:Nat)(K:Frag)(X:Cx)(e:Expr)(t:TD):Prop where
 of:∀{b:Bool}(y:Ev X b),PEg pre y.cx e<|T K y.E t
theorem aaI{a b:Str}(h:a.cps.toList=b.cps.toList):a=b:=by obtain⟨⟨x⟩⟩:=a;obtain⟨⟨y⟩⟩:=b;cases h;rfl
end L2
namespace HT
open PySem PySem.Spec PyProof.Rows
end HT
namespace L2
open PySem PySem.Spec PyProof.Rows
section
variable{K:Frag}{X:Cx}
def Wn:HX:=λx ds S R=>∃a es fs,x=.ref a/\ds=[.tup fs]/\S a=some (.lst es)/\es.length+fs.length<=sizeLine/\R .av (S.set a<|.lst<|es++fs)
theorem GV:OH K "list.extend" Wn:=by rintro X hK pins s σ H x xs v us Q I rx rs ⟨d,ds,S,R,r1,r2,hS,⟨a,es,fs,e1,e2,e3,hl,h⟩,hR⟩;subst e1 e2;obtain⟨w0,rfl,q2⟩:=r2.one;obtain⟨zs,e5,t⟩:=hS.lst e3;obtain⟨p,ys,rfl,q,t2⟩:=q2.tup;exact CM pins s σ H x _ v us Q I rx rs {a,p,zs,ys,r1.ref,rfl,e5,q,by rw[t.len,t2.len];exact hl,hR.put hS e3 h jz<|t.app t2}
end
section
variable{K:Frag}{X:Cx}{E:XK}
structure DEx(K:Frag)(X:Cx)(E:XK)(e:Expr)(t:TD):Prop where
 of:∀(y:Ev X true),y.E=(λ_=>E)->cZ y.cx E->PE y.cx e (T K y.E t)
structure DAx(K:Frag)(X:Cx)(E:XK)(es:mt)(t:iw):Prop where
 of:∀(y:Ev X true),y.E=(λ_=>E)->cZ y.cx E->PA y.cx es (Ta K y.E t)
structure DSx(K:Frag)(X:Cx)(E:XK)(b:pc)(t:mr):Prop where
 of:∀(y:Ev X true),y.E=(λ_=>E)->cZ y.cx E->En y.cx b (Tl K y.E t)
variable{N:lc}{src:v0}{scope:Scope}{tg iter elt:Expr}{ifs:mt}{ti:x8}{g:TG}{gd:Au}{tc:mq}{te:TD}
end
open PySem.Builtin PySem.Builtin.Str
structure M3(X:Cx)(o:Expr)(m:Str)(apos:Pos)(e f g:Expr)(aQ:Pos):Prop where
 base:attributeBase o m X.env (eval o X.env)=eval o X.env
 HS:((backTo aQ<|starEach [e,f,g] X.env).all (λx=>!x.1)&&(backToKw aQ<|keywordEach [] X.env).all (λx=>x.1.isSome)
  && decide (([e,f,g]:mt).length+([]:tt).length+(if ([]:tt).isEmpty then 0 else 1)<30))=true
 line:(apos.endLine==aQ.line)=true
 trees:backTo aQ (starEach [e,f,g] X.env)=[(false,eval e X.env),(false,eval f X.env),(false,eval g X.env)]
section
variable{X:Cx}{t:TE}
def PAg(pre:Nat)(X:Cx)(es:mt)(t:TA):Prop:=∀(pos:Pos)(pins:jp)(s:Shared)(σ:St)(H:Hp)(Q:List V->Hp->Prop),Inv X pins σ H s->pre<=s.toks->t σ H Q->wpAny (model X.prog X.w) X.A (spliced<|backTo pos<|starEach es X.env) (AP X pins σ Q) X.xe s
end
section
variable{K:Frag}{X:Cx}
structure DAg(pre:Nat)(K:Frag)(X:Cx)(es:mt)(t:iw):Prop where
 of:∀{b:Bool}(y:Ev X b),PAg pre y.cx es<|Ta K y.E t
end
structure Gh(a₀:Array Keyed)(g:Nat->Nat)(xs:Array Keyed):Prop where
 at_:∀k,k<a₀.size->xs[k]?=a₀[g k]?
 lt:∀k,k<a₀.size->g k<a₀.size
 inj:∀i j,i<a₀.size->j<a₀.size->g i=g j->i=j
def Log(κ:KeyKind)(a₀:Array Keyed)(i j:Nat):Prop:=κ.klt (KK κ a₀ i) (KK κ a₀ j)\/(KK κ a₀ i=KK κ a₀ j/\i<j)
def CU(κ:KeyKind)(a₀:Array Keyed)(g:Nat->Nat)(k:Nat):Prop:=∀i j,i<j->j<k->Log κ a₀ (g i) (g j)
def Ye(κ:KeyKind)(a₀:Array Keyed)(g:Nat->Nat)(k:Nat):Prop:=∀i j,i<j->j<k->Log κ a₀ (g j) (g i)
def GW(g:Nat->Nat)(m n:Nat):Prop:=∀k,m<=k->k<n->g k=k
noncomputable def Jz(g:Nat->Nat)(i j k:Nat):Nat:=if i<=k/\k<j then g (i+j-1-k) else g k
noncomputable def MU(g:Nat->Nat)(src l k:Nat):Nat:=if k=l then g src else if l<k/\k<=src then g (k-1) else g k
section
variable{κ:KeyKind}{a₀ xs:Array Keyed}{g:Nat->Nat}
theorem Log.kle(h:Log κ a₀ i j):κ.kle (KK κ a₀ i) (KK κ a₀ j):=by rcases h with h|⟨h,_⟩;exact KeyOrd.kle_of_klt h;rw[h];exact KeyOrd.kle_refl _
theorem OS(h:κ.kle (KK κ a₀ i)<|KK κ a₀ j)(hl:i<j):Log κ a₀ i j:=by cases q:κ.blt (KK κ a₀ i) (KK κ a₀ j) with|true=>exact .inl q|false=>exact .inr {KeyOrd.kle_antisymm h q,hl}
theorem Gh.low(h:Gh a₀ g xs)(t:GW g m a₀.size)(hm:m<=a₀.size)(hi:i<m):g i<m:=by refine Nat.lt_of_not_le λq=>?_;have h1:=h.lt i (by lia);have h2:=h.inj (g i) i h1 (by lia)<|t (g i) q h1;lia
theorem Gh.key(h:Gh a₀ g xs)(hk:k<a₀.size):KK κ xs k=KK κ a₀ (g k):=KK_congr<|h.at_ k hk
theorem Gh.mirror(h:Gh a₀ g xs)(hs:xs.size=a₀.size)(hj:j<=a₀.size):Gh a₀ (Jz g i j) (mirror xs i j<|(j-i)/2) where
 at_:=λk hk=>by
  rw[getElem?_mirror_all<|by lia]
  unfold Jz
  by_cases q:i<=k/\k<j
  ·rw[if_pos q,if_pos q];exact h.at_ _<|by lia
  ·rw[if_neg q,if_neg q];exact h.at_ _ hk
 lt:=λk hk=>by
  unfold Jz
  by_cases q:i<=k/\k<j
  ·rw[if_pos q];exact h.lt _<|by lia
  ·rw[if_neg q];exact h.lt _ hk
 inj:=λa b ha hb e=>by
  unfold Jz at e
  by_cases q:i<=a/\a<j<;>by_cases r:i<=b/\b<j
  ·rw[if_pos q,if_pos r]at e;have:=h.inj _ _ (by lia) (by lia) e;lia
  ·rw[if_pos q,if_neg r]at e;have:=h.inj _ _ (by lia) (by lia) e;lia
  ·rw[if_neg q,if_pos r]at e;have:=h.inj _ _ (by lia) (by lia) e;lia
  ·rw[if_neg q,if_neg r]at e;exact h.inj _ _ ha hb e
theorem Gh.bubble(h:Gh a₀ g xs)(hs:xs.size=a₀.size)(hl:l<=src)(hj:src<a₀.size):Gh a₀ (MU g src l) (bubble xs src<|src-l) where
 at_:=λk hk=>by
  rw[getElem?_bubble (by lia) _<|by lia,show src-(src-l)=l by lia]
  unfold MU
  by_cases q:k=l
  ·rw[if_pos q,if_pos q];exact h.at_ _ hj
  ·rw[if_neg q,if_neg q]
   by_cases r:l<k/\k<=src
   ·rw[if_pos r,if_pos r];exact h.at_ _<|by lia
   ·rw[if_neg r,if_neg r];exact h.at_ _ hk
 lt:=λk hk=>by
  unfold MU
  by_cases q:k=l
  ·rw[if_pos q];exact h.lt _ hj
  ·rw[if_neg q]
   by_cases r:l<k/\k<=src
   ·rw[if_pos r];exact h.lt _<|by lia
   ·rw[if_neg r];exact h.lt _ hk
 inj:=λa b ha hb e=>by
  unfold MU at e
  repeat' split at e
  all_goals (have:=h.inj _ _ (by lia) (by lia) e;lia)
theorem iG(h:i<=k/\k<j):Jz g i j k=g (i+j-1-k):=by unfold Jz;rw[if_pos h]
theorem gB(h:¬(i<=k/\k<j)):Jz g i j k=g k:=by unfold Jz;rw[if_neg h]
end
section
variable{prog:Program}{w:World}{A:Around}{E:li}{s:Shared}{a₀:Array Keyed}{κ:KeyKind}
theorem OT{st:SortSt}{g:Nat->Nat}{a top:Nat}{Q:AscSt->SortSt->Prop}(hO:κ.OneLt)(h0:KeysOf κ a₀)(ht:top<=a₀.size)(h1:1<=a)(h2:a<=top)(B:SBase a₀ st)(G:Gh a₀ g<|arrOf st)(T:GW g a a₀.size)(U:CU κ a₀ g a)(h:∀n,a<=n->n<=top->CU κ a₀ g n->(n=top\/κ.klt (KK κ a₀<|g n) (KK κ a₀<|g<|n-1))->Q (none,n) st):wpS (model prog w) A E s (ascLoop a top) Q st:=by
 unfold ascLoop;refine wpS_forRange (I:=λx c t=>t=st/\c=(none,x)/\CU κ a₀ g x) ?_ ?_ ⟨rfl,rfl,U⟩;rintro x c t H9 MR ⟨rfl,rfl,V⟩;dsimp only;refine wpS_bind<|wpS_ltKK hO B h0 (by lia) (by lia) ?_;rw[G.key<|by lia,G.key<|by lia];cases q:κ.blt (KK κ a₀<|g x) (KK κ a₀<|g<|x-1) with|true=>exact wpS_pure (h x H9 (by lia) V<|.inr q)|false=>refine wpS_pure {rfl,rfl,λi j jt hj=>?_};rcases Nat.lt_or_ge j x with z|z;exact V i j jt z;obtain rfl:j=x:=(by lia);have lw:=G.low (m:=j) (λk hk dH=>T k (by lia) dH) (by lia) jt;rw[T j H9<|by lia]at q⊢;refine OS ?_ lw;rcases Nat.lt_or_ge i (j-1) with y|y;exact KeyOrd.kle_trans (V i (j-1) y<|by lia).kle q;obtain rfl:i=j-1:=(by lia);exact q
 rintro c t ⟨rfl,rfl,V⟩;rw[show max a top=top by lia]at V⊢;exact h top h2 (zq _) V<|.inl rfl
theorem JA{st:SortSt}{g:Nat->Nat}{n top:Nat}{Q:Option Nat->SortSt->Prop}(hO:κ.OneLt)(h0:KeysOf κ a₀)(ht:top<=a₀.size)(h1:1<=n)(h2:n<=top)(B:SBase a₀ st)(G:Gh a₀ g<|arrOf st)(T:GW g n a₀.size)(D:Ye κ a₀ g n)(h:∀m g' eY,SBase a₀ eY->Gh a₀ g' (arrOf eY)->GW g' m a₀.size->1<=m->m<=top->CU κ a₀ g' m->Q (some m) eY):wpS (model prog w) A E s (tail3 n top) Q st:=by
 unfold tail3;refine wpS_bind<|wpS_reverse ?_;have B':SBase a₀ (setArr st<|mirror (arrOf st) 0 n<|(n-0)/2):=B.setArr<|mirror_perm _ _ _ _;have G':Gh a₀ (Jz g 0 n) (arrOf<|setArr st<|mirror (arrOf st) 0 n<|(n-0)/2):=G.mirror B.size (by lia);have T':GW (Jz g 0 n) n a₀.size:=λk hk dH=>by rw[gB<|by lia];exact T k hk dH
 refine wpS_bind<|OT hO h0 ht h1 h2 B' G' T' (λi j jt hj=>?_) λm hm1 OU V _=>wpS_pure<|h m _ _ B' G' (λk hk dH=>T' k (by lia) dH) (by lia) OU V;rw[iG<|by lia,iG<|by lia];exact D _ _ (by lia)<|by lia
structure LH(κ:KeyKind)(a₀:Array Keyed)(g:Nat->Nat)(x q:Nat):Prop where
 le:q+1<=x
 tl:GW g (x-(q+1)) a₀.size
 dn:∀i j,i<j->j<x->i<x-(q+1)->Log κ a₀ (g j) (g i)
 eq:∀i,x-(q+1)<=i->i<x->KK κ a₀ (g i)=KK κ a₀ (g<|x-1)
theorem LH.full(F:LH κ a₀ g x q)(hx:x<=a₀.size):Ye κ a₀ (Jz g (x-(q+1)) x) x:=λi j jt hj=>by have le:=F.le;by_cases hi:i<x-(q+1);rw[gB (k:=i)<|by lia];by_cases Yf:j<x-(q+1);rw[gB<|by lia];exact F.dn i j jt hj hi;rw[iG<|by lia];exact F.dn i _ (by lia) (by lia) hi;rw[iG<|by lia,iG<|by lia];refine .inr {(F.eq _ (by lia)<|by lia).trans (F.eq _ (by lia)<|by lia).symm,?_};rw[F.tl _ (by lia)<|by lia,F.tl _ (by lia)<|by lia];lia
theorem LH.OV(F:LH κ a₀ g x 0):Ye κ a₀ g x:=λi j jt hj=>F.dn i j jt hj<|by lia
theorem LH.next(D:Ye κ a₀ g x)(T:GW g x a₀.size)(hx:x<a₀.size)(h1:1<=x)(hl:κ.klt (KK κ a₀<|g x)<|KK κ a₀<|g<|x-1):LH κ a₀ g (x+1) 0 where
 le:=by lia
 tl:=λk hk dH=>T k (by lia) dH
 dn:=λi j jt hj hi=>by
  by_cases Yf:j<x
  ·exact D i j jt Yf
  ·obtain rfl:j=x:=by lia
   refine .inl ?_
   by_cases q:i=j-1
   ·rw[q];exact hl
   ·exact KeyOrd.klt_of_klt_of_kle hl (D i (j-1) (by lia)<|by lia).kle
 eq:=λi hi hj=>by rw[show i=x+1-1 by lia]
theorem Rr{st:SortSt}{g:Nat->Nat}{n top:Nat}{Q:DescSt->SortSt->Prop}(hO:κ.OneLt)(h0:KeysOf κ a₀)(ht:top<=a₀.size)(h1:1<=n)(h2:n<=top)(B:SBase a₀ st)(G:Gh a₀ g<|arrOf st)(F:LH κ a₀ g n 0)(h:∀m q g' eY,SBase a₀ eY->Gh a₀ g' (arrOf eY)->n<=m->m<=top->LH κ a₀ g' m q->Q (none,m,q) eY):wpS (model prog w) A E s (descLoop n top) Q st:=by
 unfold descLoop;refine wpS_forRange (I:=λx c t=>∃q g',c=(none,x,q)/\SBase a₀ t/\Gh a₀ g' (arrOf t)/\LH κ a₀ g' x q) ?_ ?_ {0,g,rfl,B,G,F};rintro x c t H9 MR ⟨q,g',rfl,B',G',F'⟩;have le:=F'.le;dsimp only;refine wpS_bind<|wpS_ltKK hO B' h0 (by lia) (by lia) ?_;rw[G'.key<|by lia,G'.key<|by lia];cases hl:κ.blt (KK κ a₀<|g' x) (KK κ a₀<|g'<|x-1) with|true=>(simp only[if_true];by_cases hq:q>0;rw[if_pos hq];refine wpS_bind<|wpS_reverse<|wpS_pure {0,_,rfl,B'.setArr<|mirror_perm _ _ _ _,G'.mirror B'.size<|by lia,?_};refine .next (F'.full<|by lia) (λk hk dH=>?_) (by lia) (by lia) ?_;rw[gB<|by lia];exact F'.tl k (by lia) dH;rw[gB<|by lia,iG<|by lia,F'.eq (x-(q+1)+x-1-(x-1)) (by lia)<|by lia];exact hl;rw[if_neg hq];obtain rfl:q=0:=(by lia);exact wpS_pure {0,g',rfl,B',G',.next F'.OV (λk hk dH=>F'.tl k (by lia) dH) (by lia) (by lia) hl})|false=>simp only[yt,if_false];refine wpS_bind<|wpS_ltKK hO B' h0 (by lia) (by lia) ?_;rw[G'.key<|by lia,G'.key<|by lia];cases hg:κ.blt (KK κ a₀<|g'<|x-1) (KK κ a₀<|g' x) with|true=>exact wpS_pure (h x q g' t B' G' H9 (by lia) F')|false=>have e:KK κ a₀ (g' x)=KK κ a₀ (g'<|x-1):=KeyOrd.kle_antisymm hg hl;refine wpS_pure {q+1,g',rfl,B',G',{by lia,λk hk dH=>F'.tl k (by lia) dH,λi j jt hj hi=>?_,λi hi hj=>?_}};by_cases Yf:j<x;exact F'.dn i j jt Yf (by lia);obtain rfl:j=x:=(by lia);have:=F'.dn i (j-1) (by lia) (by lia) (by lia);rcases this with z|⟨_,z⟩;exact .inl (by rw[e];exact z);rw[F'.tl (j-1) (by lia)<|by lia]at z;have:=G'.low (m:=j-(q+1)) F'.tl (by lia) (i:=i) (by lia);lia;rw[show x+1-1=x by lia];by_cases Wa:i=x;rw[Wa];rw[e];exact F'.eq i (by lia)<|by lia
 rintro c t ⟨q,g',rfl,B',G',F'⟩;rw[show max n top=top by lia]at F'⊢;exact h top q g' t B' G' h2 (zq _) F'
theorem JB{st:SortSt}{g:Nat->Nat}{n top:Nat}{Q:Option Nat->SortSt->Prop}(hO:κ.OneLt)(h0:KeysOf κ a₀)(ht:top<=a₀.size)(h2:n+1<=top)(B:SBase a₀ st)(G:Gh a₀ g<|arrOf st)(F:LH κ a₀ g (n+1) 0)(h:∀m g' eY,SBase a₀ eY->Gh a₀ g' (arrOf eY)->GW g' m a₀.size->1<=m->m<=top->CU κ a₀ g' m->Q (some m) eY):wpS (model prog w) A E s (descPart n top) Q st:=by
 unfold descPart;refine wpS_bind<|wpS_lift<|yX {rfl,?_};refine wpS_bind<|Rr hO h0 ht (by lia) h2 B G F λm q g' eY B' G' hm1 OU F'=>?_;have le:=F'.le;dsimp only;by_cases hq:q>0;rw[if_pos hq];refine wpS_bind<|wpS_reverse<|JA hO h0 ht (by lia) OU (B'.setArr<|mirror_perm _ _ _ _) (G'.mirror B'.size<|by lia) (λk hk dH=>?_) (F'.full<|by lia) h;rw[gB<|by lia];exact F'.tl k (by lia) dH;rw[if_neg hq];obtain rfl:q=0:=by lia
 exact JA hO h0 ht (by lia) OU B' G' (λk hk dH=>F'.tl k (by lia) dH) F'.OV h
theorem Wo{st:SortSt}{g:Nat->Nat}{top:Nat}{Q:Option Nat->SortSt->Prop}(hO:κ.OneLt)(h0:KeysOf κ a₀)(ht:top<=a₀.size)(h1:1<=top)(B:SBase a₀ st)(G:Gh a₀ g<|arrOf st)(T:GW g 0 a₀.size)(h:∀m g' eY,SBase a₀ eY->Gh a₀ g' (arrOf eY)->GW g' m a₀.size->1<=m->m<=top->CU κ a₀ g' m->Q (some m) eY):wpS (model prog w) A E s (countRun' 0 top) Q st:=by
 rw[countRun0_eq];refine wpS_bind<|OT hO h0 ht (zq 1) h1 B G (λk hk dH=>T k (by lia) dH) (λi j jt hj=>by lia) λn OW Oo U hor=>?_;dsimp only;have Tn:∀m,GW g m a₀.size:=λm k hk dH=>T k (by lia) dH;by_cases OX:n=top;rw[if_pos<|by simpa using OX];exact wpS_pure<|h n g st B G (Tn n) OW Oo U;rw[if_neg<|by simpa using OX];have dY:=hor.resolve_left OX;by_cases Yg:n>1;rw[if_pos Yg];refine wpS_bind<|wpS_ltKK hO B h0 (by lia) (by lia) ?_;rw[G.key<|by lia,G.key<|by lia];cases hr:κ.blt (KK κ a₀<|g 0) (KK κ a₀<|g<|n-1) with|true=>exact wpS_pure (h n g st B G (Tn n) OW Oo U)|false=>simp only[yt,if_false];have all:∀k,k<n->KK κ a₀ (g k)=KK κ a₀ (g<|n-1):=λk hk=>(by have a1:κ.kle (KK κ a₀<|g 0) (KK κ a₀<|g k):=(by by_cases z:k=0;rw[z];exact KeyOrd.kle_refl _;exact(U 0 k (by lia) hk).kle);have a2:κ.kle (KK κ a₀<|g k) (KK κ a₀<|g<|n-1):=(by by_cases z:k=n-1;rw[z];exact KeyOrd.kle_refl _;exact(U k (n-1) (by lia)<|by lia).kle);exact KeyOrd.kle_antisymm a2<|KeyOrd.kle_trans hr a1);refine wpS_bind<|wpS_reverse<|JB hO h0 ht (by lia) (B.setArr<|mirror_perm _ _ _ _) (G.mirror B.size<|by lia) ?_ h;refine .next (λi j jt hj=>?_) (λk hk dH=>by rw[gB<|by lia];exact T k (by lia) dH) (by lia) (by lia) ?_;rw[iG<|by lia,iG<|by lia];refine .inr {(all _<|by lia).trans (all _<|by lia).symm,?_};rw[T _ (by lia)<|by lia,T _ (by lia)<|by lia];lia;rw[gB<|by lia,iG<|by lia,all (0+n-1-(n-1))<|by lia];exact dY
 rw[if_neg Yg];obtain rfl:n=1:=by lia
 exact JB hO h0 ht (by lia) B G (.next (λi j jt hj=>by lia) (Tn 1) (by lia) (by lia) dY) h
theorem Wq{st:SortSt}{g:Nat->Nat}{n ok:Nat}{Q:Bool->SortSt->Prop}(hO:κ.OneLt)(h0:KeysOf κ a₀)(hn:n<=a₀.size)(aN:ok<=n)(B:SBase a₀ st)(G:Gh a₀ g<|arrOf st)(T:GW g ok a₀.size)(U:CU κ a₀ g ok)(h:∀g' eY,SBase a₀ eY->Gh a₀ g' (arrOf eY)->CU κ a₀ g' n->Q true eY):wpS (model prog w) A E s (binarySort' 0 n ok) Q st:=by
 rw[binarySort'_eq];simp only[Nat.zero_add];refine wpS_bind<|wpS_mono (wpS_forRange (I:=λk c t=>c=(none,())/\∃g',SBase a₀ t/\Gh a₀ g' (arrOf t)/\GW g' k a₀.size/\CU κ a₀ g' (min k n)) (Q:=λc t=>c=(none,())/\∃g',SBase a₀ t/\Gh a₀ g' (arrOf t)/\CU κ a₀ g' n) ?_ ?_ ?_) ?_;rintro k c t LI dH ⟨rfl,g',B',G',T',V⟩;rw[show min k n=k by lia]at V;have hk:k<a₀.size:=by lia
 refine wpS_bind<|wpS_mono (wpS_forRange (I:=λx c t2=>t2=t/\∃l r,c=(none,l,r)/\l<=r/\r<=k/\r-l<=k-x/\(∀i,i<l->κ.kle (KK κ a₀<|g' i) (KK κ a₀<|g' k))/\(∀i,r<=i->i<k->κ.klt (KK κ a₀<|g' k) (KK κ a₀<|g' i))) (Q:=λc t2=>t2=t/\∃l r,c=(none,l,r)/\l<=k/\(∀i,i<l->κ.kle (KK κ a₀<|g' i) (KK κ a₀<|g' k))/\(∀i,l<=i->i<k->κ.klt (KK κ a₀<|g' k) (KK κ a₀<|g' i))) ?_ ?_ ?_) ?_;rintro x c t2 _ hxk ⟨rfl,l,r,rfl,JC,hrk,hm,lo,hi⟩;dsimp only;by_cases Ru:l>=r;rw[if_pos Ru];obtain rfl:l=r:=by lia
 exact wpS_pure ⟨rfl,l,l,rfl,hrk,lo,hi⟩;rw[if_neg Ru];refine wpS_bind<|wpS_ltKK hO B' h0 hk (by lia) ?_;rw[G'.key hk,G'.key<|by lia];cases hl:κ.blt (KK κ a₀<|g' k) (KK κ a₀<|g'<|(l+r)/2) with|true=>refine wpS_pure {rfl,l,(l+r)/2,rfl,by lia,by lia,by lia,lo,λi a b=>?_};by_cases z:i=(l+r)/2;rw[z];exact hl;exact KeyOrd.klt_of_klt_of_kle hl (V _ _ (by lia) b).kle|false=>refine wpS_pure {rfl,(l+r)/2+1,r,rfl,by lia,by lia,by lia,λi a=>?_,hi};by_cases z:i=(l+r)/2;rw[z];exact hl;exact KeyOrd.kle_trans (V i ((l+r)/2) (by lia)<|by lia).kle hl
 rintro c t2 ⟨rfl,l,r,rfl,JC,hrk,hm,lo,hi⟩;obtain rfl:l=r:=by lia
 exact⟨rfl,l,l,rfl,hrk,lo,hi⟩;exact{rfl,0,k,rfl,by lia,by lia,by lia,λi hi=>by lia,λi a b=>by lia};rintro c t2 ⟨rfl,l,r,rfl,hlk,lo,hi⟩;show wpS _ _ _ _ (do moveDown' k l;pure (ForInStep.yield (none,()))) _ _;rw[moveDown'_eq];refine wpS_bind<|wpS_modify<|wpS_pure {rfl,_,B'.setArr<|bubble_perm _ _ _,G'.bubble B'.size hlk hk,λx H9 MR=>?_,?_};show MU g' k l x=x;unfold MU;rw[if_neg<|by lia,if_neg<|by lia];exact T' x (by lia) MR;rw[show min (k+1) n=k+1 by lia];have lw:∀i,i<k->g' i<k:=λi q=>G'.low T' (by lia) q;have ek:=T' k (zq _) hk;intro i j jt hj;show Log κ a₀ (MU g' k l i) (MU g' k l j);unfold MU;by_cases i1:i=l;rw[if_pos i1,if_neg<|by lia,if_pos<|by lia];exact .inl<|hi _ (by lia) (by lia);rw[if_neg i1];by_cases j1:j=l;rw[if_pos j1,if_neg<|by lia];have h1:=lo i (by lia);have h2:=lw i (by lia);rw[ek]at h1⊢;exact OS h1 h2;rw[if_neg j1];by_cases i2:l<i/\i<=k<;>by_cases j2:l<j/\j<=k;rw[if_pos i2,if_pos j2];exact V _ _ (by lia) (by lia);lia;rw[if_neg i2,if_pos j2];exact V _ _ (by lia) (by lia);rw[if_neg i2,if_neg j2];exact V _ _ (by lia) (by lia);rintro c t ⟨hc,g',B',G',T',V⟩;refine{hc,g',B',G',?_};rwa [show min (max (max ok 1) n) n=n by lia]at V;refine{rfl,g,B,G,λk hk dH=>T k (by lia) dH,λi j jt hj=>?_};exact U i j jt (by lia);rintro c t ⟨rfl,g',B',G',V⟩;exact wpS_pure<|h g' t B' G' V
def Rw(κ:KeyKind)(a₀:Array Keyed)(st:SortSt):Prop:=failedOf st=none/\pendingOf st=#[(0,a₀.size,0)]/\∃g,(arrOf st).size=a₀.size/\Gh a₀ g (arrOf st)/\CU κ a₀ g a₀.size
theorem Rx{st:SortSt}{Q:Unit->SortSt->Prop}(hO:κ.OneLt)(h0:KeysOf κ a₀)(B:SBase a₀ st)(e0:arrOf st=a₀)(h2:2<=a₀.size)(H_:a₀.size<64)(h:∀eY g,failedOf eY=none->(arrOf eY).size=a₀.size->Gh a₀ g (arrOf eY)->CU κ a₀ g a₀.size->Q () eY):wpS (model prog w) A E s sortRuns' Q st:=by
 have G:Gh a₀ (λk=>k) (arrOf st):={λk _=>by rw[e0],λk hk=>hk,λ_ _ _ _ e=>e};have fin:∀(t:SortSt)(g:Nat->Nat),SBase a₀ t->Gh a₀ g (arrOf t)->CU κ a₀ g a₀.size->Rw κ a₀ (setPending t<|(pendingOf t).push (0,a₀.size,0)):=λt g B' G' U=>{B'.failed,by show(pendingOf t).push _=_;rw[B'.pend];rfl,g,B'.size,G',U};rw[sortRuns'_eq];refine wpS_bind<|wpS_get ?_;dsimp only;have hm:minRun' a₀.size a₀.size 0=a₀.size:=by obtain⟨f,hf⟩:∃f,a₀.size=f+1:={a₀.size-1,by lia};have:minRun' (f+1) a₀.size 0=a₀.size:=(by rw[minRun'_succ,if_pos H_];rfl);rwa [<-hf]at this
 simp only[B.size,hm];refine wpS_bind<|wpS_mono (wpS_forRange (I:=λx c t=>(x=0/\c=(none,0)/\t=st)\/(1<=x/\c=(none,a₀.size)/\Rw κ a₀ t)) (Q:=λc t=>c=(none,a₀.size)/\Rw κ a₀ t) ?_ ?_<|.inl ⟨rfl,rfl,rfl⟩) ?_;rintro x c t _ hx (⟨rfl,rfl,rfl⟩|⟨H9,rfl,D⟩);dsimp only;rw[if_neg<|by lia];simp only[Nat.sub_zero,Nat.min_self,Nat.zero_add];refine wpS_bind<|Wo hO h0 (zq _) (by lia) B G (λ_ _ _=>rfl) λm g' t2 B2 G2 T2 hm1 OU U2=>?_;dsimp only;by_cases dY:m<a₀.size;rw[if_pos dY];refine wpS_bind<|wpS_lift<|yX {rfl,?_};refine wpS_bind<|Wq hO h0 (zq _) OU B2 G2 T2 U2 λg3 t3 B3 G3 U3=>?_;simp only[Bool.not_true,yt,if_false];refine wpS_bind<|wpS_get ?_;rw[show(pendingOf t3).back?=none by rw[B3.pend];rfl];dsimp only;exact wpS_bind<|wpS_modify<|wpS_pure<|.inr {by lia,rfl,fin t3 g3 B3 G3 U3};rw[if_neg dY];obtain rfl:m=a₀.size:=by lia
 refine wpS_bind<|wpS_get ?_;rw[show(pendingOf t2).back?=none by rw[B2.pend];rfl];dsimp only;exact wpS_bind<|wpS_modify<|wpS_pure<|.inr {by lia,rfl,fin t2 g' B2 G2 U2};dsimp only;rw[if_pos<|zq _];exact wpS_pure ⟨rfl,D⟩;rintro c t (⟨hx,_,_⟩|⟨_,hc,D⟩);lia;exact⟨hc,D⟩;rintro c t ⟨rfl,D⟩;dsimp only;obtain⟨d1,d2,g,d3,d4,d5⟩:=D;refine wpS_bind<|wpS_mono (wpS_forRange (I:=λ_ c t2=>t2=t/\c=(none,())) (Q:=λc t2=>t2=t/\c=(none,())) ?_ (λ_ _ z=>z) ⟨rfl,rfl⟩) ?_;rintro x c t2 _ _ ⟨rfl,rfl⟩;refine wpS_bind<|wpS_get ?_;rw[if_pos<|by rw[d2];exact zq 1];exact wpS_pure ⟨rfl,rfl⟩;rintro c t2 ⟨rfl,rfl⟩;exact wpS_pure<|h _ g d1 d3 d4 d5
end
noncomputable abbrev MV(X:Cx)(qual:Str)(scope:Scope)(L f:Addr)(cv:Value):Env:=envX qual scope L f cv<|clOf X.env.cells scope.names
noncomputable def TQ(X:Cx)(N:lc)(qual:Str)(scope:Scope)(f:Addr)(cv:Value)(A:Around)(s:Shared)(H:Hp):Cx:={X with A:=A.deeper<|MV X qual scope s.heap.objs.size f cv,N:=N,dw:=s,vX:=H,env:=MV X qual scope s.heap.objs.size f cv,outer:=X.stack,stack:=MV X qual scope s.heap.objs.size f cv::X.stack,ex:=[],fn:=λ_=>false,calm:=true,pn:=[],xe:=λ_ _=>False}
noncomputable abbrev Az(X:Cx)(qual:Str)(params:Arguments)(body:Expr)(scope:Scope)(pm cv mw:Value):Obj:={cls:=.type "function",data:=.func<|kla_fn "<lambda>" qual params body scope (clOf X.env.cells scope.names) pm cv mw}
section
variable{X:Cx}{pins:jp}{σ:St}{H:Hp}{s:Shared}{N:lc}{src:v0}{scope:Scope}{params:Arguments}{body:Expr}{qual p:Str}{pm cv mw u:Value}{f:Addr}{A:Around}{v:V}{te:TE}{Q:VK}
theorem MW(I:Inv X pins σ H s)(S:bj X N src scope)(MX:N[0]?=some p)(hp:scope.names.lookup p=some .local)(h0:src[0]?=some none)(x6:A.frames=some X.stack)(hh:A.handled=none)(r:RelV v u)(Ry:h₁.Ns s.heap.objs.size λx=>[(p,u)].reverse.lookup x)(old:∀b o,s.heap.get? b=some o->h₁.get? b=some o): Inv (TQ X N qual scope f cv A s H) [] ((pick σ src).set 0<|some v) H {s with heap:=h₁,toks:=tk}:=by
 have i6:∀x c,(clOf X.env.cells scope.names).lookup x=some c->X.env.cells.lookup x=some c:=rL X.env.cells scope.names [] (by intro x c h;simp at h);have L_:∀b:Addr,b∉(TQ X N qual scope f cv A s H).ex:=λb z=>absurd (show b∈([]:io) from z) (by simp);have BN:∀x,scope.names.lookup x=some .free->∃c,(clOf X.env.cells scope.names).lookup x=some c:=λx hl=>by have hm:=yn hl;obtain⟨c,Mh⟩:=I.ok.has x<|S.BN _ hm rfl;exact{c,jw X.env.cells scope.names [] x c (by intro x c h;simp at h) hm Mh}
 refine{{I.ok.mod,S.kind,rfl,rfl,zq _,λx y c h1 h2=>I.ok.inj x y c (i6 _ _ h1)<|i6 _ _ h2,λx hk=>?_,λx c h=>(nomatch h),λ_=>hh,Around.frames_deeper x6,.inr ⟨rfl,rfl⟩,λb z=>absurd z<|L_ b,I.bs,zJ I.ok.LQ I.sz,λb _ _=>L_ b,λb z=>absurd z<|L_ b,I.stack,I.qI},rfl,I.bare,Un.kept old,{_,Ry,λi x w e1 e2 e3=>?_},λx c e=>?_,I.aN.fresh<|zq _,λx c e=>I.gw x c<|i6 x c e,λq hq=>absurd (show q∈([]:jp) from hq)<|by simp,I.aN.kept old,?_};have hk:scope.names.lookup x=some .cell\/scope.names.lookup x=some .free:=hk;rcases hk with hk|hk;exact absurd rfl<|S.gM _<|yn hk;exact BN x hk;have e1:N[i]?=some x:=e1;by_cases hi:i=0;subst hi;rw[MX]at e1;cases e1;have hl:0<(pick σ src).length:=by unfold pick;rw[zb];exact(zg.mp h0).1
 rw[List.getElem?_set_self hl]at e2;cases e2;exact{u,r,.inl {hp,by simp[yh]}};rw[List.getElem?_set_ne<|Ne.symm hi]at e2;unfold pick at e2;rw[zi]at e2;cases es:src[i]? with|none=>(rw[es]at e2;cases e2)|some o=>rw[es]at e2;cases o with|none=>(cases e2)|some j=>have e3:(σ[j]?).join=some w:=zS e2;have e4:σ[j]?=some (some w):=(by cases q:σ[j]? with|none=>(rw[q]at e3;cases e3)|some z=>rw[q]at e3;exact congrArg some e3);obtain⟨a1,a2,a3⟩:=S.src i j x es e1;obtain⟨m0,_,hl⟩:=I.loc;obtain⟨u',r',l⟩:=hl j x w a1 e4 a3;have hm:=yn a2;have hk:=S.BN _ hm rfl;rcases l with⟨k,_⟩|⟨_,c,Mh,⟨o,ho,hd⟩⟩;rcases hk with hk|hk<;>(rw[k]at hk;cases hk);exact{u',r',.inr {.inr a2,c,jw X.env.cells scope.names [] x c (by intro x c h;simp at h) hm Mh,o,old _ _ ho,hd}}
 obtain⟨w,o,ho,hd⟩:=I.cell x c<|i6 x c e;exact{w,o,old _ _ ho,hd};show((pick σ src).set 0<|some v).length=N.length;unfold pick;rw[List.length_set,zb,S.len]
theorem JD(I:Inv X pins σ H s)(S:bj X N src scope)(MX:N[0]?=some p)(hp:scope.names.lookup p=some .local)(h0:src[0]?=some none)(x6:A.frames=some X.stack)(hh:A.handled=none)(Wr:A.depth<recursionLimit)(r:RelV v u)(ho:s.heap.get? f=some (Az X qual params body scope pm cv mw))(tZ:s.heap.CodeRec cv qual)(MY:scope.isCoroutine=false)(CV:scope.isGenerator=false)(hb:bindArgs (kla_fn "<lambda>" qual params body scope (clOf X.env.cells scope.names) pm cv mw) {[u],[]}=pure [(p,u)])(he:PE (TQ X N qual scope f cv A s H) body te)(h:te ((pick σ src).set 0<|some v) H Q): codeAny (model X.prog X.w) A (.call (.ref f) {[u],[]}) (λq s'=>∃w,q=.ok (.ret w)/\CE X.stack X.prog X.w H s Q w s') s:=by refine PySem.W.kla_callFunE Wr ho rfl MY CV rfl tZ ?_;show wpAny _ _ (bindArgs (kla_fn "<lambda>" qual params body scope (clOf X.env.cells scope.names) pm cv mw) {[u],[]}) _ _ _;rw[hb];refine zo<|wpAny_newFunctionEnv S.gM (λx hx=>?_) (λh₁ Ry Mu=>{I.nolimit.fresh _ Mu,?_}) S.kind;rw[zK.mp hx];exact hp;have old:∀b o,s.heap.get? b=some o->h₁.get? b=some o:=λb o e=>Mu.extBut b o (zD<|zw e)<|za _ e;show codeAny _ _ (.expr body<|MV X qual scope s.heap.objs.size f cv) _ _;refine PySem.W.kla_codeExpr<|yK (he [] _ _ H Q (MW I S MX hp h0 x6 hh r Ry old) h) (by rintro w s' ⟨x,H',J,rv,q⟩;exact⟨w,rfl,x,H',J.os,J.bare,J.base,J.aN,rv,q⟩) λ_ _ z=>z.elim
end
@[reducible] def intK:KeyKind where
 α:=Int
 blt a b:=decide<|a<b
 irrefl a:=by simp
 trans a b c h1 h2:=by simp only[zR]at *;lia
 negTrans a b c h:=by simp only[zR]at *;lia
 total a b h1 h2:=by simp only[yq]at *;lia
 keyOf v:=match v with|.int x _=>some x|_=>none
 dflt:=0
theorem JE:intK.OneLt:=by intro prog w A E s x y a b Q ha hb h;cases x<;>simp only[intK,reduceCtorEq,Option.some.injEq]at ha;cases y<;>simp only[intK,reduceCtorEq,Option.some.injEq]at hb;cases ha;cases hb;exact oneLt_int h
structure Yh(κ:KeyKind)(b:Bool)(key:Nat->κ.α)(n:Nat)(g:Nat->Nat):Prop where
 lt:∀k,k<n->g k<n
 inj:∀i j,i<n->j<n->g i=g j->i=j
 ord:∀i j,i<j->j<n->(if b=true then κ.klt (key<|g j) (key<|g i) else κ.klt (key<|g i) (key<|g j))\/(key (g i)=key (g j)/\g i<g j)
noncomputable def i_(κ:KeyKind)(us:fv)(j:Nat):κ.α:=(κ.keyOf<|us.getD j .none).getD κ.dflt
theorem JF{us vs:fv}(hl:us.length=vs.length){j:Nat}(hj:j<vs.length):(us.toArray.zip vs.toArray)[j]?=some (us.getD j .none,vs.getD j .none):=by have e:(us.zip vs)[j]?=some (us.getD j .none,vs.getD j .none):=List.getElem?_zip_eq_some.mpr {by show us[j]?=some (us.getD j .none);rw[zB,ze<|by lia];rfl,by show vs[j]?=some (vs.getD j .none);rw[zB,ze hj];rfl};rw[<-Array.getElem?_toList,ksk_zip,List.toList_toArray];exact e
theorem wA{κ:KeyKind}{us vs:fv}(hl:us.length=vs.length){j:Nat}(hj:j<vs.length):KK κ (us.toArray.zip vs.toArray) j=i_ κ us j:=by unfold KK i_;rw[JF hl hj]
theorem AA{l m:fv}{n:Nat}(h1:l.length=n)(h2:m.length=n)(h:∀k,k<n->l[k]?=m[k]?):l=m:=by apply List.ext_getElem?;intro k;by_cases hk:k<n;exact h k hk;rw[List.getElem?_eq_none<|by lia,List.getElem?_eq_none<|by lia]
section
variable{prog:Program}{w:World}{A:Around}{E:li}{s:Shared}{a kS:Addr}{b:Bool}{us vs:fv}{e e1:Nat}{P:PySem.Fin->Shared->Prop}{κ:KeyKind}
theorem EO{st:SortSt}{keys:im}(hk:s.heap.get? kS=some (seqObj "list" keys e))(ha:s.heap.get? a=some (seqObj "list" #[] e1))(Rz:kS≠a)(hz:keys.size<64)(JG:(arrOf st).size<64)(Vn:failedOf st=none)(h:∀h' c,(∀b o,b≠a->b≠kS->s.heap.get? b=some o->h'.get? b=some o)->h'.get? a=some (seqObj "list" (if b then ((arrOf st).map (·.2)).reverse else (arrOf st).map (·.2)) c)->P (.done<|.ret .none) {s with heap:=h'}): wpAny (model prog w) A (ksk_tail a b e1 (.ref kS) st) P E s:=by
 have s1:=yE s.heap kS<|Obj.mapSeq λ_=>(#[]:im);have na1:(s.heap.update kS<|Obj.mapSeq λ_=>(#[]:im)).get? a=some (seqObj "list" #[] e1):=(s1.2 a Rz.symm).trans ha;have CW:∀o:im,o=(if b then ((arrOf st).map (·.2)).reverse else (arrOf st).map (·.2))->o.size<64:=by rintro o rfl;cases b with|false=>rw[if_neg zd,Array.size_map];exact JG|true=>rw[if_pos rfl,Array.size_reverse,Array.size_map];exact JG
 generalize ho:(if b then ((arrOf st).map (·.2)).reverse else (arrOf st).map (·.2))=out at h CW;have CW:=CW out rfl;have s2:=yE (s.heap.update kS<|Obj.mapSeq λ_=>(#[]:im)) a<|Obj.mapSeq λ_=>out;obtain⟨c2,hc2⟩:∃c2,((s.heap.update kS<|Obj.mapSeq λ_=>(#[]:im)).update a<|Obj.mapSeq λ_=>out).get? a=some (seqObj "list" out c2):={_,get?_update_seq na1 λ_=>out};unfold ksk_tail;try dsimp only
 refine zc<|listUpdate_at hk rfl ?_ (by rw[yg];lia)<|zU _;refine zc<|wpAny_letGo ?_;refine zc<|seqEpoch_at na1 rfl ?_;rw[ho];refine zc<|listUpdate_at na1 rfl ?_ (zU _)<|zJ (yL CW) (by rw[yg];lia);rw[Vn];simp only[bne_self_eq_false,yt,if_false];exact zo<|h _ c2 (λb o h1 h2 q=>(s2.2 b h1).trans<|(s1.2 b h2).trans q) hc2
theorem JH{xs:Array Keyed}{g:Nat->Nat}(hl:us.length=vs.length)(hs:xs.size=vs.length)(G:Gh (if b=true then (us.toArray.zip vs.toArray).reverse else us.toArray.zip vs.toArray) g xs)(U:CU κ (if b=true then (us.toArray.zip vs.toArray).reverse else us.toArray.zip vs.toArray) g vs.length): ∃g',Yh κ b (i_ κ us) vs.length g'/\(if b then (xs.map (·.2)).reverse else xs.map (·.2)).toList=(List.range vs.length).map λk=>vs.getD (g' k) .none:=by
 have x9:(us.toArray.zip vs.toArray).size=vs.length:=by rw[Array.size_zip,zp,zp,hl,Nat.min_self]
 have zat:∀k,k<vs.length->(us.toArray.zip vs.toArray)[k]?=some (us.getD k .none,vs.getD k .none):=λk hk=>JF hl hk;cases b with|false=>rw[if_neg zd]at G U;refine{g,{λk hk=>by have:=G.lt k (by rw[x9];exact hk);rwa [x9]at this,λi j hi hj=>G.inj i j (by rw[x9];exact hi)<|by rw[x9];exact hj,λi j jt hj=>?_},?_};have h1:=G.lt i (by rw[x9];lia);have h2:=G.lt j (by rw[x9];lia);rw[x9]at h1 h2;have:=U i j jt hj;unfold Log at this;rw[wA hl h1,wA hl h2]at this;rw[if_neg zd];exact this;rw[if_neg zd];refine AA (n:=vs.length) (by rw[ya,Array.size_map,hs]) (by simp) λk hk=>?_;have h1:=G.lt k (by rw[x9];lia);rw[x9]at h1;rw[Array.getElem?_toList,Array.getElem?_map,G.at_ k<|by rw[x9];exact hk,zat _ h1,zi,List.getElem?_range hk];rfl|true=>rw[if_pos rfl]at G U;have t9:(us.toArray.zip vs.toArray).reverse.size=vs.length:=(by rw[Array.size_reverse,x9]);have lt:∀k,k<vs.length->g k<vs.length:=λk hk=>(by have:=G.lt k (by rw[t9];exact hk);rwa [t9]at this);have rat:∀k,k<vs.length->(us.toArray.zip vs.toArray).reverse[k]?=(us.toArray.zip vs.toArray)[vs.length-1-k]?:=λk hk=>(by rw[Array.getElem?_reverse<|by rw[x9];exact hk,x9]);refine{λk=>vs.length-1-g (vs.length-1-k),{λk hk=>by have:=lt (vs.length-1-k) (by lia);lia,λi j hi hj e=>?_,λi j jt hj=>?_},?_};have h1:=lt (vs.length-1-i) (by lia);have h2:=lt (vs.length-1-j) (by lia);have:=G.inj (vs.length-1-i) (vs.length-1-j) (by rw[t9];lia) (by rw[t9];lia) (by lia);lia;have h1:=lt (vs.length-1-i) (by lia);have h2:=lt (vs.length-1-j) (by lia);have:=U (vs.length-1-j) (vs.length-1-i) (by lia) (by lia);unfold Log at this;have e1:KK κ (us.toArray.zip vs.toArray).reverse (g<|vs.length-1-i)=i_ κ us (vs.length-1-g (vs.length-1-i)):=(KK_congr<|rat _ h1).trans<|wA hl (by lia);have e2:KK κ (us.toArray.zip vs.toArray).reverse (g<|vs.length-1-j)=i_ κ us (vs.length-1-g (vs.length-1-j)):=(KK_congr<|rat _ h2).trans<|wA hl (by lia);rw[e1,e2]at this;rw[if_pos rfl];rcases this with z|⟨z1,z2⟩;exact .inl z;exact .inr {z1.symm,by lia};rw[if_pos rfl];refine AA (n:=vs.length) (by rw[ya,Array.size_reverse,Array.size_map,hs]) (by simp) λk hk=>?_;have h1:=lt (vs.length-1-k) (by lia);rw[Array.getElem?_toList,Array.getElem?_reverse<|by rw[Array.size_map,hs];exact hk,Array.size_map,hs,Array.getElem?_map,G.at_ _<|by rw[t9];lia,rat _ h1,zat _<|by lia,zi,List.getElem?_range hk];rfl
theorem RA(hO:κ.OneLt)(hk:s.heap.get? kS=some (seqObj "list" us.toArray e))(ha:s.heap.get? a=some (seqObj "list" #[] e1))(Rz:kS≠a)(hl:us.length=vs.length)(H_:vs.length<64)(h0:∀u∈us,∃x,κ.keyOf u=some x)(hkk:∀oo oq rest,us=oo::oq::rest->keyKind' (oo::oq::rest).toArray=pure oneType')(h:∀h' c g out,(∀b o,b≠a->b≠kS->s.heap.get? b=some o->h'.get? b=some o)->h'.get? a=some (seqObj "list" out c)->Yh κ b (i_ κ us) vs.length g->out.toList=(List.range vs.length).map (λk=>vs.getD (g k) .none)->P (.done<|.ret .none) {s with heap:=h'}): wpAny (model prog w) A (ksk_end a b vs.toArray e1 (.ref kS) us.toArray) P E s:=by
 have x9:(us.toArray.zip vs.toArray).size=vs.length:=by rw[Array.size_zip,zp,zp,hl,Nat.min_self]
 have step:∀t:Sem PySem.Fin,wpAny (model prog w) A t P E s->wpAny (model prog w) A (if b=true then (do let _ <-rule "list.sort.reverse";t) else t) P E s:=by intro t ht;split;exact zc<|yX ht;exact ht
 have hsz:(if b=true then (us.toArray.zip vs.toArray).reverse else us.toArray.zip vs.toArray).size=vs.length:=by cases b with|false=>exact x9|true=>rw[if_pos rfl,Array.size_reverse,x9]
 have keys:KeysOf κ (if b=true then (us.toArray.zip vs.toArray).reverse else us.toArray.zip vs.toArray):=λp hp=>by have hp:p∈us.zip vs:=(by have e2:(us.toArray.zip vs.toArray).toList=us.zip vs:=(by rw[ksk_zip]);cases b with|false=>rw[if_neg zd,e2]at hp;exact hp|true=>rw[if_pos rfl,Array.toList_reverse,e2]at hp;exact List.mem_reverse.mp hp);obtain⟨x,y⟩:=p;exact h0 _ (List.of_mem_zip hp).1
 unfold ksk_end;try dsimp only
 refine step _ ?_;by_cases h2:vs.toArray.size<2;{rw[if_pos h2,if_pos h2];refine zc<|zo ?_;rw[StateT.run_pure];refine zc<|zo ?_;(try dsimp only);rw[zp]at h2;refine EO (st:=SortSt.mk' general' (if b=true then (us.toArray.zip vs.toArray).reverse else us.toArray.zip vs.toArray) #[] 7 none) hk ha Rz (by rw[zp];lia) (by show(if b=true then (us.toArray.zip vs.toArray).reverse else us.toArray.zip vs.toArray).size<64;lia) rfl λh' c k1 k2=>?_;obtain⟨g,g1,g2⟩:=JH (κ:=κ) (b:=b) (xs:=if b=true then (us.toArray.zip vs.toArray).reverse else us.toArray.zip vs.toArray) (g:=λk=>k) hl hsz {λ_ _=>rfl,λ_ hk=>hk,λ_ _ _ _ e=>e} (λi j jt hj=>by lia);exact h h' c g _ k1 k2 g1 g2};{rw[if_neg h2,if_neg h2];rw[zp]at h2;obtain⟨oo,oq,rest,eu⟩:∃oo oq rest,us=oo::oq::rest:=(by match us,hl with|[],hl=>simp at hl;lia|[_],hl=>simp at hl;lia|oo::oq::rest,_=>exact⟨oo,oq,rest,rfl⟩);have ek:keyKind' us.toArray=pure oneType':=(by rw[eu];exact hkk _ _ _ eu);rw[ek];refine zc<|zo ?_;refine zc<|yK (Rx (κ:=κ) hO (a₀:=if b=true then (us.toArray.zip vs.toArray).reverse else us.toArray.zip vs.toArray) (st:=SortSt.mk' oneType' (if b=true then (us.toArray.zip vs.toArray).reverse else us.toArray.zip vs.toArray) #[] 7 none) (Q:=λ_ eY=>failedOf eY=none/\(arrOf eY).size=vs.length/\∃g,Gh (if b=true then (us.toArray.zip vs.toArray).reverse else us.toArray.zip vs.toArray) g (arrOf eY)/\CU κ (if b=true then (us.toArray.zip vs.toArray).reverse else us.toArray.zip vs.toArray) g vs.length) keys {Array.Perm.refl _,rfl,rfl,rfl} rfl (by lia) (by lia) λeY g q1 q2 q3 q4=>{q1,q2.trans hsz,g,q3,by rw[hsz]at q4;exact q4}) ?_ λ_ _ e=>e;rintro⟨⟨⟩,eY⟩ s' ⟨rfl,hf,TR,g,G,U⟩;(try dsimp only);have TR:(arrOf eY).size=vs.length:=TR;refine EO hk ha Rz (by rw[zp];lia) (by lia) hf λh' c k1 k2=>?_;obtain⟨g',g1,g2⟩:=JH (κ:=κ) hl TR G U;exact h h' c g' _ k1 k2 g1 g2}
end
structure OY(X:Cx)(pins:jp)(b:Addr):Prop where
 loc:b≠X.env.locals
 fs:b∉X.fs
 cell:∀x c,X.env.cells.lookup x=some c->c≠b
 pin:∀p∈X.pn++pins,p.1≠b
 new:X.dw.heap.objs.size<=b
section
variable{X:Cx}{pins:jp}{σ:St}{H:Hp}{s:Shared}
theorem Inv.Yi(I:Inv X pins σ H s)(h:s.heap.objs.size<=b):OY X pins b:={yr<|zr I.lt h,I.Up h,λx c e=>by obtain⟨v,q⟩:=I.cell x c e;exact zD<|zr q.lt h,λp hp=>zD<|zr (zw (I.pin p hp).1) h,zJ I.sz h}
theorem Inv.MZ(I:Inv X pins σ H s)(kp:∀b o,b≠a->b≠k->s.heap.get? b=some o->h'.get? b=some o)(ha:H a=none)(hk:H k=none)(Aa:OY X pins a)(Ak:OY X pins k):Inv X pins σ H {s with heap:=h',toks:=t'}:=by have PM:∀b u,H b=some u->b≠a/\b≠k:=λb u e=>{λz=>(by rw[z,ha]at e;cases e),λz=>(by rw[z,hk]at e;cases e)};refine I.step (g':=s.gens) (d':=s.drawn) (ch:=[a,k]) (λb hb=>?_) (λb o _ _ hc e _=>kp b o (λz=>hc<|by simp[z]) (λz=>hc<|by simp[z]) e) (λb o _ _ hc e _=>{o.slots,kp b o (λz=>hc<|by simp[z]) (λz=>hc<|by simp[z]) e}) (λ_ _ _ _ n=>n) (λb o hc e=>{o,kp b o (λz=>hc<|by simp[z]) (λz=>hc<|by simp[z]) e}) (λ_ _ e=>e) (λ_ _ _ e=>e) (λb ps e=>{#[],by rw[e];simp}) (λm hm=>?_) (λb u e=>?_) I.bare;simp only[zk,zO,or_false]at hb;rcases hb with rfl|rfl;exact{.inr Aa.new,Aa.loc,Aa.cell,Aa.pin};exact{.inr Ak.new,Ak.loc,Ak.cell,Ak.pin};obtain⟨o,es,ep,ho,r⟩:=hm;exact{o,es,ep,kp _ o (Ne.symm Aa.loc) (Ne.symm Ak.loc) ho,r};refine(I.aN b u e).qh (λc v hc q=>?_) (λ_ q=>q) λ_ _ q=>q;rcases hc with z|z;rw[z]at q⊢;exact kp b v (PM b u e).1 (PM b u e).2 q;exact kp c v (PM c _ z).1 (PM c _ z).2 q
theorem Inv.Ws(I:Inv X pins σ H s)(ha:H a=none)(A:OY X pins a)(new:bt X.prog X.w (upd H a o) s.heap a o):Inv X pins σ (upd H a o) s:=by refine I.step (h':=s.heap) (g':=s.gens) (d':=s.drawn) (t':=s.toks) (ch:=[a]) (λb hb=>?_) (λb o _ _ hc e _=>e) (λb o _ _ hc e _=>⟨o.slots,e⟩) (λb u hc e n=>?_) (λb o hc e=>⟨o,e⟩) (λb xs e=>?_) (λb u v e=>?_) (λb ps e=>?_) (λm hm=>hm) (λb u e=>?_) I.bare;rw[zK.mp hb];exact{.inr A.new,A.loc,A.cell,A.pin};rw[ax λz=>hc<|by simp[z]];exact n;rw[ax<|aE e ha];exact e;rw[ax<|aE e ha];exact e;exact{#[],by rw[ax<|aE e ha,e];simp};by_cases hb:b=a;subst hb;rw[aG]at e;cases e;exact new;rw[ax hb]at e;exact(I.aN b u e).qh (λc v _ q=>q) (λc q=>by rw[ax<|aE q ha];exact q) λc xs q=>by rw[ax<|aE q ha];exact q
end
def JI(X:Cx)(pins:jp)(σ:St)(A:Around)(f:Addr)(xs:dL)(W:Nat->List V->Hp->Prop):Prop:=∀i x u ks s' H' more,Inv X (pins++more) σ H' s'->W i ks H'->xs[i]?=some x->RelV x u->codeAny (model X.prog X.w) A (.call (.ref f) {[u],[]}) (λq Cc=>∃w,q=.ok (.ret w)/\CE X.stack X.prog X.w H' s' (λk H''=>W (i+1) (ks++[k]) H'') w Cc) s'
structure OZ(κ:KeyKind)(us:fv):Prop where
 all:∀u∈us,∃x,κ.keyOf u=some x
 kind:∀oo oq rest,us=oo::oq::rest->keyKind' (oo::oq::rest).toArray=pure oneType'
section
variable{X:Cx}{pins:jp}{σ:St}{H:Hp}{s:Shared}{A:Around}{E:li}{xs:dL}{vs:fv}{f:Addr}{b:Bool}{κ:KeyKind}{W:Nat->List V->Hp->Prop}
theorem GX{P:PySem.Fin->Shared->Prop}(hO:κ.OneLt)(I:Inv X pins σ H s)(ha:s.heap.get? a=some (seqObj "list" #[] e1))(hk:s.heap.get? kS=some (seqObj "list" #[] 0))(Rz:kS≠a)(na:H a=none)(nk:H kS=none)(Aa:OY X pins a)(Ak:OY X pins kS)(hv:Vals xs vs)(H_:vs.length<64)(T:JI X pins σ A f xs W)(w0:W 0 [] H)(G:∀ks us H',W vs.length ks H'->Vals ks us->ks.length=vs.length->OZ κ us)(h:∀s' H' ks us c g out,Inv X pins σ H' s'->H' a=none->s'.heap.get? a=some (seqObj "list" out c)->W vs.length ks H'->Vals ks us->ks.length=vs.length->Yh κ b (i_ κ us) vs.length g->out.toList=(List.range vs.length).map (λk=>vs.getD (g k) .none)->P (.done<|.ret .none) s'): wpAny (model X.prog X.w) A (ksk_rest a (.ref f) b vs.toArray e1<|.ref kS) P E s:=by
 have nc:∀(k:im) (n:Nat) (v:Option Value),(seqObj "list" k n).data≠.cell v:=λ_ _ _ z=>nomatch z;unfold ksk_rest;refine zc<|yX ?_;rw[List.forIn_toArray];refine zc<|ksk_fold (λi s'=>∃ks kA e H',Inv X pins σ H' s'/\W i ks H'/\Vals ks kA.toList/\ks.length=i/\H' a=none/\H' kS=none/\s'.heap.get? a=some (seqObj "list" #[] e1)/\s'.heap.get? kS=some (seqObj "list" kA e)) vs 0 s {[],#[],0,H,I,w0,.nil,rfl,na,nk,ha,hk} ?_ ?_;rintro j x s' hx ⟨ks,kA,e,H',I',w',v',l',Yj,nk',ha',IV⟩;simp only[Nat.zero_add]at l' w'⊢;have hj:j<vs.length:=(zg.mp hx).1;have hl:xs.length=vs.length:=hv.length;obtain⟨y,hy⟩:∃y,xs[j]?=some y:={_,ze<|by lia};obtain⟨u,hu,ru⟩:=hv.get hy;rw[hx]at hu;cases hu;have Ip:Inv X (pins++[(a,seqObj "list" #[] e1),(kS,seqObj "list" kA e)]) σ H' s':=by refine{I'.ok,I'.os,I'.bare,I'.base,I'.loc,I'.cell,I'.free,I'.gw,λp hp=>?_,I'.aN,I'.len};rcases zP.mp hp with hp|hp;exact I'.pin p<|yo _ hp;rcases zP.mp hp with hp|hp;exact I'.pin p<|zH _ hp;simp only[zk,zO,or_false]at hp;rcases hp with rfl|rfl;exact{ha',Yj,Aa.loc,Aa.fs,nc _ _};exact{IV,nk',Ak.loc,Ak.fs,nc _ _}
 have hz:kA.size=j:=by have h1:ks.length=kA.toList.length:=v'.length;have h2:kA.toList.length=kA.size:=ya;lia
 refine zc<|wpAny_attempt<|wpAny_call<|yW (T j y x ks s' H' _ Ip w' hy ru) λr s2 hq=>?_;obtain⟨w,rfl,ce⟩:=hq;obtain⟨k,H2,I2,rk,w2⟩:=Ip.after ce;dsimp only;have pa:=I2.pin (a,seqObj "list" #[] e1)<|zH _<|zH _ (by simp);have pk:=I2.pin (kS,seqObj "list" kA e)<|zH _<|zH _ (by simp);have I3:Inv X pins σ H2 s2:={I2.ok,I2.os,I2.bare,I2.base,I2.loc,I2.cell,I2.free,I2.gw,λp hp=>I2.pin p<|by rcases zP.mp hp with z|z;exact yo _ z;exact zH _<|yo _ z,I2.aN,I2.len};have s1:=yE s2.heap kS (Obj.mapSeq (·.push w));obtain⟨c2,hc2⟩:∃c2,(s2.heap.update kS (Obj.mapSeq (·.push w))).get? kS=some (seqObj "list" (kA.push w) c2):={_,get?_update_seq pk.1 (·.push w)};refine zc<|listUpdate_at pk.1 rfl ?_ (by rw[yg];lia)<|zJ (Nat.le_of_eq<|Array.size_push ..) (by rw[yg];lia);refine zo {rfl,ks++[k],kA.push w,c2,H2,I3.turned (t':=s2.toks) (it:=kS) (λb o hb q=>(s1.2 b hb).trans q) pk.2.1 Ak.loc (.inr Ak.new) Ak.cell Ak.pin,w2,?_,by simp[l'],pa.2.1,pk.2.1,(s1.2 a Rz.symm).trans pa.1,hc2};rw[show(kA.push w).toList=kA.toList++[w] by simp];exact v'.append<|.cons rk .nil;rintro s' ⟨ks,kA,e,H',I',w',v',l',Yj,nk',ha',IV⟩;simp only[Nat.zero_add]at l' w';refine zc<|listItems_at IV rfl ?_;have eA:kA=kA.toList.toArray:=by simp
 have good:=G ks kA.toList H' w' v' l';have hl:kA.toList.length=vs.length:=by have h1:ks.length=kA.toList.length:=v'.length;lia
 rw[eA]at IV;show wpAny _ _ (ksk_end a b vs.toArray e1 (.ref kS) kA) _ _ _;rw[eA];refine RA (κ:=κ) hO IV ha' Rz hl H_ good.all good.kind λh' c g out k1 k2 k3 k4=>?_;exact h _ H' ks kA.toList c g out (I'.MZ (t':=s'.toks) k1 Yj nk' Aa Ak) Yj k2 w' v' l' k3 k4
theorem vi(hO:κ.OneLt)(I:Inv X pins σ H s)(hl:jq X.K H l xs)(H_:xs.length<64)(Yk:argsOk "sorted" {[.ref l],kw})(Yl:∀x,argsOk "list.sort" {[.ref x],kw})(ht:∀x,Builtin.«list.sort» {[.ref x],kw}=ksk_tree x (.ref f) b)(T:JI X pins σ A.in1.in1 f xs W)(w0:W 0 [] H)(G:∀ks us H',W xs.length ks H'->Vals ks us->ks.length=xs.length->OZ κ us)(h:∀H' ks us g D,W xs.length ks H'->Vals ks us->ks.length=xs.length->Yh κ b (i_ κ us) xs.length g->H' D=none->Q (.ref D) (upd H' D<|.lst<|(List.range xs.length).map λk=>xs.getD (g k) .av)): wpAny (model X.prog X.w) A (call (.builtin "sorted") [.ref l] kw) (EP X pins σ Q) E s:=by
 obtain⟨vs,hv,pl,_⟩:=I.list hl;have TU:xs.length=vs.length:=hv.length;rw[TU]at H_ G h;refine call_function_entry_kw kind_sorted plain_sorted entry_sorted Yk ?_;unfold Builtin.«sorted»;refine zc (m:=checkCount "sorted" 1 1 _)<|zo ?_;refine zc<|collect_list pl.isList ?_ (by rw[yg];lia);refine zc<|wpAny_newList ?_ (by rw[yg];lia);have hsz:((s.heap.push<|seqObj "list" #[] 0).update s.heap.objs.size (Obj.mapSeq (·++vs.toArray))).objs.size=s.heap.objs.size+1:=by rw[Heap.size_update,size_push']
 have HR:(((s.heap.push<|seqObj "list" #[] 0).update s.heap.objs.size (Obj.mapSeq (·++vs.toArray))).push<|seqObj "list" vs.toArray 0).get? (s.heap.objs.size+1)=some (seqObj "list" vs.toArray 0):=by rw[<-hsz];exact zm _ rfl
 have keep:∀b o,s.heap.get? b=some o->(((s.heap.push<|seqObj "list" #[] 0).update s.heap.objs.size (Obj.mapSeq (·++vs.toArray))).push<|seqObj "list" vs.toArray 0).get? b=some o:=λb o q=>by have dY:b<s.heap.objs.size:=zw q;rw[Heap.get?_push_ne _ _ _<|by rw[hsz];exact zD<|Nat.lt_succ_of_lt dY,Heap.get?_update_ne _ _ _ _<|zD dY,Heap.get?_push_ne _ _ _<|zD dY];exact q
 show wpAny _ _ _ _ _ {s with heap:=((s.heap.push<|seqObj "list" #[] 0).update s.heap.objs.size (Obj.mapSeq (·++vs.toArray))).push<|seqObj "list" vs.toArray 0};rw[hsz];generalize hg:((s.heap.push<|seqObj "list" #[] 0).update s.heap.objs.size (Obj.mapSeq (·++vs.toArray))).push (seqObj "list" vs.toArray 0)=h1 at HR keep⊢;have I1:Inv X pins σ H {s with heap:=h1}:=I.kept (t':=s.toks) keep;have Aa:OY X pins (s.heap.objs.size+1):=I.Yi<|yM _;have na:H (s.heap.objs.size+1)=none:=I.aN.fresh<|yM _;generalize s.heap.objs.size+1=a at HR Aa na⊢;refine zc<|yJ<|wpAny_call_entry_kw slot_list_sort {_,HR,rfl} entry_list_sort ?_<|Yl _;show wpAny (model X.prog X.w) A.in1.in1 (Builtin.«list.sort» {[.ref a],kw}) _ _ _;rw[ht a];have s1:=yE h1 a<|Obj.mapSeq λ_=>(#[]:im);obtain⟨e1,TV⟩:∃e1,(h1.update a<|Obj.mapSeq λ_=>(#[]:im)).get? a=some (seqObj "list" #[] e1):={_,get?_update_seq HR λ_=>#[]};have I2:Inv X pins σ H {s with heap:=h1.update a<|Obj.mapSeq λ_=>(#[]:im)}:=Inv.turned (s:={s with heap:=h1}) (h':=h1.update a<|Obj.mapSeq λ_=>(#[]:im)) (t':=s.toks) (it:=a) I1 (λb o hb q=>(s1.2 b hb).trans q) na Aa.loc (.inr Aa.new) Aa.cell Aa.pin;unfold ksk_tree;refine zc<|listItems_at HR rfl ?_;refine zc<|listUpdate_at HR rfl ?_ (by rw[zp,yg];lia)<|zU _;refine zc<|seqEpoch_at TV rfl ?_;refine zc<|wpAny_newTuple ?_ (by show vs.length<=_;rw[yg];lia);refine zc<|wpAny_newList ?_<|zU _;refine yJ ?_;generalize h1.update a (Obj.mapSeq λ_=>(#[]:im))=h2 at TV I2⊢;have k3:∀b u,h2.get? b=some u->((h2.push<|seqObj "tuple" vs.toArray 0).push<|seqObj "list" #[] 0).get? b=some u:=λb u q=>za _<|za _ q;have I3:Inv X pins σ H {s with heap:=(h2.push<|seqObj "tuple" vs.toArray 0).push<|seqObj "list" #[] 0}:=I2.kept (t':=s.toks) k3;have BP:h2.objs.size<=(h2.push<|seqObj "tuple" vs.toArray 0).objs.size:=by rw[size_push'];exact yM _
 refine GX (s:={s with heap:=(h2.push<|seqObj "tuple" vs.toArray 0).push<|seqObj "list" #[] 0}) (kS:=(h2.push<|seqObj "tuple" vs.toArray 0).objs.size) hO I3 (k3 _ _ TV) (zm _ rfl) (yr<|zr (zw TV) BP) na (I2.aN.fresh BP) Aa (I2.Yi BP) hv H_ T w0 G λs' H' ks us c g out J n1 o1 w1 v1 l1 q1 q2=>{.none,rfl,?_};refine zo !{.ref a,_,J.Ws (o:=.lst<|(List.range vs.length).map λk=>xs.getD (g k) .av) n1 Aa {?_,out.toList,c,?_,?_},rfl,h H' ks us g a w1 v1 l1 q1 n1};rw[zb,List.length_range,yg];lia;rw[q2];have:∀(ns:wS),(∀k∈ns,g k<vs.length)->Vals (ns.map λk=>xs.getD (g k) .av) (ns.map λk=>vs.getD (g k) .none):=λns=>by induction ns with|nil=>exact λ_=>.nil|cons k ns ih=>intro hk;have hk0:=hk k zj;obtain⟨y,hy⟩:∃y,xs[g k]?=some y:={_,ze<|by lia};obtain⟨u,hu,ru⟩:=hv.get hy;refine .cons ?_<|ih λk dH=>hk k<|zf _ dH;show RelV (xs.getD (g k) .av) (vs.getD (g k) .none);rw[zB,hy,zB,hu];exact ru
 exact this _ λk hk=>q1.lt k<|zT.mp hk;rw[o1]
end
def Bm(mg:Str->Option Value)(base:Heap):Prop:=∃bm o,mg "__builtins__"= some (.ref bm)/\bm≠builtinsNs/\base.get? bm=some o/\o.cls=.type "module"/\o.dict=some builtinsNs/\o.data=.plain
structure Mkr(K:Frag)(mg:Str->Option Value)(base:Heap)(c P:Addr):Prop where
 hd:codeHdIn K c P=true
 bm:Bm mg base
theorem CY{pos p2:Pos}{c cv:Value}(l:fv)(h:TriplesOk l)(e:codeAmong pos (l++[rawInt p2.line,rawInt p2.col,c])=some cv):codeAmong pos l=some cv\/cv=c:=by fun_induction TriplesOk l with|case1=>(simp only[List.nil_append,rawInt,codeAmong]at e;split at e;cases e;exact .inr rfl;cases e)|case2 a t b u x rest ih=>simp only[List.cons_append,codeAmong]at e⊢;split at e;rename_i hc;rw[if_pos hc];exact .inl e;rename_i hc;rw[if_neg hc];exact ih h e|case3 l h1 h2=>exact h.elim
section
variable{X:Cx}{pins:jp}{σ:St}{H:Hp}{s:Shared}
theorem Inv.tab{h':Heap}{tk:Nat}{P c:Addr}{ps TY:im}{oc fo:Obj}(I:Inv X pins σ H s)(hP:H P=some (.qH ps))(hx:Heap.ExtBut P s.heap h')(h1:s.heap.objs.size<=c)(h2:c<h'.objs.size)(hc:h'.get? c=some oc)(hp:h'.get? P=some (tabObj<|ps++TY)): Inv X pins σ (upd (upd H P<|.qH<|ps++TY) c<|.lM oc<|.own 0) {s with heap:=h'.push fo,toks:=tk}:=by
 have hcP:c≠P:=λz=>absurd (zr (I.aN.lt hP)<|z ▸ h1)<|yD _;have nc:H c=none:=I.aN.fresh h1;have other:∀b,b≠P->b≠c->upd (upd H P<|.qH<|ps++TY) c (.lM oc<|.own 0) b=H b:=λb z1 z2=>by rw[ax z2,ax z1]
 have nP:∀b o,H b=some o->(∀q,o≠.qH q)->b≠P:=λb o e z q=>by rw[q,hP]at e;cases e;exact z _ rfl
 have nP0:∀b,H b=none->b≠P:=λb e q=>by rw[q,hP]at e;cases e
 have lt:∀b o,s.heap.get? b=some o->b≠c:=λb o e=>zD<|zr (zw e) h1;refine I.un (h':=h'.push fo) {λb o e n _ _=>za _<|hx b o (nP0 b n) e,λb o e n _ _=>{o.slots,za _<|hx b o (nP0 b n) e},λb o e n _=>by rw[other b (nP0 b n)<|lt b o e];exact n,λb o e _=>?_,λb xs e=>by rw[other b (nP b _ e λ_=>nofun)<|aE e nc];exact e,λb o u e=>by rw[other b (nP b _ e λ_=>nofun)<|aE e nc];exact e,λb q e=>?_} λb u e=>?_;by_cases hb:b=P;rw[hb];exact{_,za _ hp};exact{o,za _<|hx b o hb e};by_cases hb:b=P;subst hb;rw[hP]at e;cases e;exact{TY,by rw[ax<|Ne.symm hcP,aG]};exact{#[],by rw[other b hb<|aE e nc,e];simp};by_cases TZ:b=c;subst TZ;rw[aG]at e;cases e;exact{za _ hc,_,za _ hc};rw[ax TZ]at e;by_cases hb:b=P;subst hb;rw[aG]at e;cases e;exact za _ hp;rw[ax hb]at e;refine(I.aN b u e).qh (λd v hd q=>?_) (λd q=>by rw[other d (nP d _ q λ_=>nofun)<|aE q nc];exact q) λd xs q=>by rw[other d (nP d _ q λ_=>nofun)<|aE q nc];exact q
 rcases hd with rfl|hd;exact za _<|hx d v hb q;exact za _<|hx d v (nP d _ hd λ_=>nofun) q
theorem Inv.ER(I:Inv X pins σ H s)(ho:s.heap.get? f=some o)(hn:H f=none)(A:OY X pins f)(d:∀v,o.data≠.cell v):Inv X (pins++[(f,o)]) σ H s:=by refine{I.ok,I.os,I.bare,I.base,I.loc,I.cell,I.free,I.gw,λp hp=>?_,I.aN,I.len};rcases zP.mp hp with hp|hp;exact I.pin p<|yo _ hp;rcases zP.mp hp with hp|hp;exact I.pin p<|zH _ hp;rw[zK.mp hp];exact⟨ho,hn,A.loc,A.fs,d⟩
structure Wt(X:Cx)(pins:jp)(σ:St)(H H':Hp)(P:Addr)(q:Str)(params:Arguments)(body:Expr)(scope:Scope)(u:Value)(s':Shared)(f:Addr)(pm cv mw:Value):Prop where
 u:u=.ref f
 inv:Inv X (pins++[(f,Az X q params body scope pm cv mw)]) σ H' s'
 code:∃c o vs t,cv=.ref c/\H' c=some (.lM o<|.own 0)/\o.data=.fields vs/\vs[1]?=some (.str q t)
 same:∀b,H' b=H b\/(b=P/\∃ps,H' b=some (.qH ps)/\EI H' q ps)\/(H b=none/\∃o,H' b=some (.lM o<|.own 0))
theorem AB{M:Model}{A:Around}{E:li}{N:lc}{src:List<|Option Nat}{scope:Scope}{params:Arguments}{body:Expr}{pos:Pos}{c P:Addr}{q:Str}{ps:im}{Q:li}(I:Inv X pins σ H s)(S:bj X N src scope)(pJ:X.env.code=.ref c)(mk:Mkr X.K X.mg X.base c P)(hP:H P=some (.qH ps))(ok:EI H q ps)(hq:X.env.qual ++ "<lambda>"= q)(JJ:defaultsOf params X.env=([],[]))(h:∀u s' H' f pm cv mw,Wt X pins σ H H' P q params body scope u s' f pm cv mw->Q u s'):wpAny M A (eval (.Lambda params body scope pos) X.env) Q E s:=by
 have BO:closureFor scope X.env=pure (clOf X.env.cells scope.names):=gL λy hy hf=>I.ok.has y.1<|S.BN y hy hf;have Ym:s.heap.get? P=some (tabObj ps):=I.aN P _ hP;have hg:s.heap.Ns mainGlobals X.mg:=I.mod.glob.keeps I.bk;have hC:=codeHd_of_K I.pj mk.hd;obtain⟨bm,ob,b1,b2,b3,b4,b5,b6⟩:=mk.bm;have Yn:s.heap.get? bm=some ob:=I.bk _ _ b3;have hgP:mainGlobals≠P:=λz=>by obtain⟨o,es,ep,e,d,_⟩:=id hg;rw[z,Ym]at e;cases e;cases d
 have hbG:bm≠mainGlobals:=λz=>by obtain⟨o,es,ep,e,d,_⟩:=id hg;rw[<-z,Yn]at e;cases e;rw[b6]at d;cases d
 have hbP:bm≠P:=λz=>by rw[z,Ym]at Yn;cases Yn;cases b4
 have hB:s.heap.BuiltinsAt X.mg P:=⟨bm,ob,b1,b2,hbG,hbP,Yn,b4,b5,b6⟩;have hqs:H P≠none:=by rw[hP];nofun
 refine PySem.W.kla_eval JJ ?_;rw[hq];cases hf:codeAmong pos ps.toList with|none=>(refine PySem.W.kla_makeFunction BO I.ok.glob hg pJ hC Ym ok.1 hf hgP hB λc' mw h' tk hx h1 h2 hr hp=>?_;obtain⟨c2,oc,vs,t,e2,XR,hd,hv⟩:=hr;cases e2;have J:=I.tab (tk:=tk) (fo:=Az X q params body scope ((X.mg "__name__").getD .none) (.ref c') mw) hP hx h1 h2 XR hp;have hcP:c'≠P:=λz=>absurd (zr (I.aN.lt hP)<|z ▸ h1)<|yD _;have nc:H c'=none:=I.aN.fresh h1;have fresh:∀b,h'.objs.size<=b->upd (upd H P<|.qH<|ps++#[rawInt pos.line,rawInt pos.col,.ref c']) c' (.lM oc<|.own 0) b=none:=λb hb=>(by have t5:s.heap.objs.size<=b:=zJ (zJ h1<|yL h2) hb;rw[ax<|yr<|zr h2 hb,ax<|yr<|zr (I.aN.lt hP) t5];exact I.aN.fresh t5);have hsz:s.heap.objs.size<=h'.objs.size:=zJ h1<|yL h2;refine h _ _ _ h'.objs.size _ _ _ {rfl,J.ER (zm _ rfl) (fresh _<|zq _) (I.Yi hsz) (λv z=>nomatch z),⟨c',oc,vs,t,rfl,aG,hd,hv⟩,λb=>?_};by_cases TZ:b=c';subst TZ;exact .inr<|.inr ⟨nc,oc,aG⟩;by_cases hb:b=P;subst hb;refine .inr<|.inl {rfl,_,by rw[ax TZ,aG],?_,λp2 cv e=>?_};rw[Array.toList_append];exact TriplesOk_snoc _ _ _ _ ok.1;rw[Array.toList_append]at e;rcases CY _ ok.1 e with e|e;obtain⟨d,o,ws,t2,z1,z2,z3⟩:=ok.2 p2 cv e;exact{d,o,ws,t2,z1,by rw[ax<|aE z2 nc,ax λz=>by rw[z,hP]at z2;cases z2];exact z2,z3};exact⟨c',oc,vs,t,e,aG,hd,hv⟩;exact .inl<|by rw[ax TZ,ax hb])|some cv=>refine PySem.W.kla_makeFunctionHit BO I.ok.glob hg pJ hC Ym ok.1 hf hB λmw h' tk hk hsz=>?_;have J:Inv X pins σ H {s with heap:=h'.push<|Az X q params body scope ((X.mg "__name__").getD .none) cv mw,toks:=tk}:=I.kept λb u e=>za _<|hk b u e;exact h _ _ _ h'.objs.size _ _ _ {rfl,J.ER (zm _ rfl) (I.aN.fresh hsz) (I.Yi hsz) (λv z=>nomatch z),ok.2 pos cv hf,λb=>.inl rfl}
end
def Wu:D->D->Prop|.int a,.int b=>a<b|.str a,.str b=>a.cps.toList<b.cps.toList|_,_=>False
def AD(ks:wp):Prop:=(∃zs:lc,ks=zs.map D.str)\/∃ns:ul,ks=ns.map D.int
structure RB(b:Bool)(key:Nat->D)(n:Nat)(g:Nat->Nat):Prop where
 lt:∀k,k<n->g k<n
 inj:∀i j,i<n->j<n->g i=g j->i=j
 ord:∀i j,i<j->j<n->(if b=true then Wu (key<|g j) (key<|g i) else Wu (key<|g i) (key<|g j))\/(key (g i)=key (g j)/\g i<g j)
def AE(b:Bool)(P:Addr)(q:Str)(src:List<|Option Nat)(te:TD)(σ:SD)(R:KD)(d:D)(S1:ao):Prop:=∃(l:Addr)(xs:wp)(f:D->D),d=.ref l/\S1 l=some (.lst xs)/\xs.length<64/\S1 P=some (.tab q)/\AD (xs.map f)/\(∀x,x∈xs->∀S',Sub S1 S'->∀Qk:KD,(∀S2,Sub S' S2->Qk (f x) S2)->te ((mL σ src).set 0<|some x) S' Qk Zf)/\∀g S2 p,RB b (λj=>f<|xs.getD j .av) xs.length g->Sub S1 S2->S2 p=none->R (.ref p) (S2.set p<|.lst<|(List.range xs.length).map λk=>xs.getD (g k) .av)
def O0(b:Bool)(P:Addr)(q:Str)(src:List<|Option Nat)(tl te:TD):TD:=λσ S R Z=>tl σ S (λd S1=>AE b P q src te σ R d S1) Z
def JK(F:D->ao->Prop):List D->ao->Prop|[d],S=>F d S|_,_=>False
theorem ES{F:D->ao->Prop}{ds:wp}{S:ao}(h:JK F ds S):∃d,ds=[d]/\F d S:=by match ds,h with|[d],h=>exact⟨d,rfl,h⟩
theorem su:∀{ss:ul}{aw:fv},Vals (ss.map V.int) aw->IntsAre aw ss|[],_,.nil=>.nil|z::ss,_,.cons r t=>by obtain⟨tk,rfl⟩:=r;exact .cons z tk<|su t
theorem sv:∀{us:fv}{zs:lc},StrsAre us zs->∀j,j<zs.length->i_ strKind us j=(zs.getD j "").cps.toList|_,_,.cons z t h,0,_=>rfl|_,_,.cons z t h,j+1,hj=>by have:=sv h j (by simpa using hj);unfold i_ at this⊢;rw[List.getD_cons_succ,List.getD_cons_succ];exact this
theorem sx:∀{us:fv}{zs:ul},IntsAre us zs->∀j,j<zs.length->i_ intK us j=zs.getD j 0|_,_,.cons z t h,0,_=>rfl|_,_,.cons z t h,j+1,hj=>by have:=sx h j (by simpa using hj);unfold i_ at this⊢;rw[List.getD_cons_succ,List.getD_cons_succ];exact this
theorem JL(h:StrsAre us zs):∀u∈us,∃x,strKind.keyOf u=some x:=by induction h with|nil=>(intro u hu;cases hu)|cons z t h ih=>intro u hu;rcases zk.mp hu with rfl|hu;exact{_,rfl};exact ih u hu
theorem JM(h:IntsAre us zs):∀u∈us,∃x,intK.keyOf u=some x:=by induction h with|nil=>(intro u hu;cases hu)|cons z t h ih=>intro u hu;rcases zk.mp hu with rfl|hu;exact{_,rfl};exact ih u hu
theorem JN{xs:wp}{f:D->D}{j:Nat}(hj:j<xs.length):(xs.map f)[j]?=some (f<|xs.getD j .av):=by rw[zi,zB,ze hj];rfl
theorem wB{K:Frag}{H:Hp}{ds:wp}{xs:dL}(h:RvAll K H ds xs)(g:Nat->Nat):∀(ns:wS),(∀k∈ns,g k<ds.length)->RvAll K H (ns.map λk=>ds.getD (g k) .av) (ns.map λk=>xs.getD (g k) .av)|[],_=>bx|k::ns,hk=>by have hk0:=hk k zj;obtain⟨v,e,r⟩:=h.get<|ze hk0;refine aW ?_<|wB h g ns λk dH=>hk k<|zf _ dH;show Rv K H (ds.getD (g k) .av) (xs.getD (g k) .av);rw[zB,ze hk0,zB,e];exact r
section
variable{K:Frag}{Y:Cx}{pins:jp}{τ:St}{H H2:Hp}{s:Shared}{N:lc}{src:v0}{scope:Scope}{params:Arguments}{body:Expr}{q p:Str}{pm cv mw:Value}{f l:Addr}{te:TD}{b:Bool}{kw:pi}{k:Nat}
theorem AF{σ:SD}{S1:ao}{xs:wp}{fD:D->D}{Q:VK}{R:KD}{E:li}(I:Inv Y (pins++[(f,Az Y q params body scope pm cv mw)]) τ H s)(hK:Y.K=K)(Wv:Y.calm=true)(hr:bR k Y.A)(pJ:∃c o vs t,cv=.ref c/\H c=some (.lM o<|.own 0)/\o.data=.fields vs/\vs[1]?=some (.str q t))(CS:bj Y N src scope)(MX:N[0]?=some p)(hp:scope.names.lookup p=some .local)(h0:src[0]?=some none)(MY:scope.isCoroutine=false)(CV:scope.isGenerator=false)(hb:∀cl pm cv mw u,bindArgs (kla_fn "<lambda>" q params body scope cl pm cv mw) {[u],[]}=pure [(p,u)])(he:∀cv s H,DE K (TQ Y N q scope f cv Y.A.in1.in1 s H) body te)(aC:iE K H σ τ)(hS:Rs K S1 H)(hl:S1 l=some (.lst xs))(H_:xs.length<64)(kd:AD<|xs.map fD)(step:∀x,x∈xs->∀S',Sub S1 S'->∀Qk:KD,(∀S2,Sub S' S2->Qk (fD x) S2)->te ((mL σ src).set 0<|some x) S' Qk Zf)(hR:Cn K H R Q)(fin:∀g S2 p,RB b (λj=>fD<|xs.getD j .av) xs.length g->Sub S1 S2->S2 p=none->R (.ref p) (S2.set p<|.lst<|(List.range xs.length).map λk=>xs.getD (g k) .av))(Yk:argsOk "sorted" {[.ref l],kw})(Yl:∀x,argsOk "list.sort" {[.ref x],kw})(ht:∀x,Builtin.«list.sort» {[.ref x],kw}=ksk_tree x (.ref f) b): wpAny (model Y.prog Y.w) Y.A (call (.builtin "sorted") [.ref l] kw) (EP Y pins τ Q) E s:=by
 subst hK;obtain⟨vs,hv,rv⟩:=hS.lst hl;have TU:vs.length=xs.length:=rv.len;obtain⟨c,oc,ws,tk,ecv,hc,tZ,hcq⟩:=pJ;have drop:∀{u:Value}{s':Shared},EP Y (pins++[(f,Az Y q params body scope pm cv mw)]) τ Q u s'->EP Y pins τ Q u s':=λ⟨v,H',J,r,q⟩=>{v,H',{J.ok,J.os,J.bare,J.base,J.loc,J.cell,J.free,J.gw,λp hp=>J.pin p<|by rcases zP.mp hp with z|z;exact yo _ z;exact zH _<|yo _ z,J.aN,J.len},r,q};have T:JI Y (pins++[(f,Az Y q params body scope pm cv mw)]) τ Y.A.in1.in1 f vs λi ks H'=>∃S',Sub S1 S'/\Rs Y.K S' H'/\Kp Y.K H H'/\RvAll Y.K H' ((xs.take i).map fD) ks:=by rintro i x u ks s' H' more I' ⟨S',sb,rs,kp,rk⟩ hx ru;have hi:i<xs.length:=(by have:=(zg.mp hx).1;lia);obtain⟨v,e1,r1⟩:=rv.get<|ze hi;rw[hx]at e1;cases e1;have po:=(I'.pin (f,Az Y q params body scope pm cv mw)<|zH _<|yo _<|zH _<|by simp).1;have hcr:s'.heap.CodeRec cv q:={c,oc,ws,tk,ecv,(I'.aN c _<|kp.f _ _ _ hc).1,tZ,hcq};refine JD (A:=Y.A.in1.in1) I' CS MX hp h0 I'.ok.frames (I'.ok.hd Wv) (by have:=hr.dp;show Y.A.depth<_;lia) ru po hcr MY CV (hb _ _ _ _ _) ((he cv s' H').of<|.none _ rfl) ?_;refine{_,S',λkk S2=>kk=fD xs[i]/\Sub S' S2,Zf,((aC.ts kp).pick src).set 0<|Rv.ts kp _ r1,rs,step _ (List.getElem_mem hi) S' sb _ λS2 h2=>⟨rfl,h2⟩,λkk S2 v2 H2 ⟨e2,LD⟩ T4 rs2 Yo=>?_,.f};subst e2;refine{S2,sb.trans LD,rs2,kp.trans Yo,?_};rw[show xs.take (i+1)=xs.take i++[xs[i]] by rw[List.take_add_one,ze hi];rfl,zC];exact(RvAll.ts Yo _ rk).app<|aW T4 bx
 have w0:∃S',Sub S1 S'/\Rs Y.K S' H/\Kp Y.K H H/\RvAll Y.K H ((xs.take 0).map fD) []:={S1,.refl _,hS,.refl _,by rw[List.take_zero];exact bx};have XW:jq Y.K H l vs:=.of hv;rcases kd with⟨zs,ez⟩|⟨zs,ez⟩;have hzl:zs.length=xs.length:=by have:=congrArg List.length ez;rw[zb,zb]at this;exact this.symm
 have ka:∀j,j<xs.length->fD (xs.getD j .av)=.str (zs.getD j ""):=λj hj=>by have e1:=JN (f:=fD) hj;rw[ez,zi,ze<|by lia]at e1;rw[zB (l:=zs),ze<|by lia];exact(zS e1).symm
 have kv:∀ks us H',(∃S',Sub S1 S'/\Rs Y.K S' H'/\Kp Y.K H H'/\RvAll Y.K H' ((xs.take vs.length).map fD) ks)->Vals ks us->StrsAre us zs:=λks us H' ⟨S',_,_,_,rk⟩ hu=>by rw[TU,yI,ez]at rk;rw[rk.strs]at hu;exact lR hu
 refine yK (vi (κ:=strKind) (Q:=Q) (b:=b) strKind_oneLt I XW (by lia) Yk Yl ht T w0 (λks us H' w1 v1 l1=>{JL<|kv ks us H' w1 v1,λoo oq rest e=>keyKind_strs<|by rw[<-e];exact kv ks us H' w1 v1}) λH' ks us g D w1 v1 l1 sr hD=>?_) (λu s' z=>drop z) λ_ _ z=>z;have sk:=kv ks us H' w1 v1;obtain⟨S',sb,rs,kp,rk⟩:=w1;rw[TU]at sr⊢;refine(hR.kp kp).new rs hD (λhp=>fin g S' D {sr.lt,sr.inj,λi j jt hj=>?_} sb hp)<|wB (RvAll.ts kp _ rv) g _ λk hk=>sr.lt k<|zT.mp hk;have h1:=sr.lt i (by lia);have h2:=sr.lt j hj;have:=sr.ord i j jt hj;rw[sv sk _<|by lia,sv sk _<|by lia]at this;rw[ka _ h1,ka _ h2];rcases this with z|⟨z1,z2⟩;left;cases b with|false=>rw[if_neg zd]at z⊢;show(zs.getD (g i) "").cps.toList<(zs.getD (g j) "").cps.toList;exact zG z|true=>rw[if_pos rfl]at z⊢;show(zs.getD (g j) "").cps.toList<(zs.getD (g i) "").cps.toList;exact zG z
 exact .inr {by rw[aaI z1],z2};have hzl:zs.length=xs.length:=by have:=congrArg List.length ez;rw[zb,zb]at this;exact this.symm
 have ka:∀j,j<xs.length->fD (xs.getD j .av)=.int (zs.getD j 0):=λj hj=>by have e1:=JN (f:=fD) hj;rw[ez,zi,ze<|by lia]at e1;rw[zB (l:=zs),ze<|by lia];exact(zS e1).symm
 have kv:∀ks us H',(∃S',Sub S1 S'/\Rs Y.K S' H'/\Kp Y.K H H'/\RvAll Y.K H' ((xs.take vs.length).map fD) ks)->Vals ks us->IntsAre us zs:=λks us H' ⟨S',_,_,_,rk⟩ hu=>by rw[TU,yI,ez]at rk;rw[rk.ints]at hu;exact su hu
 refine yK (vi (κ:=intK) (Q:=Q) (b:=b) JE I XW (by lia) Yk Yl ht T w0 (λks us H' w1 v1 l1=>{JM<|kv ks us H' w1 v1,λoo oq rest e=>keyKind_ints<|by rw[<-e];exact kv ks us H' w1 v1}) λH' ks us g D w1 v1 l1 sr hD=>?_) (λu s' z=>drop z) λ_ _ z=>z;have sk:=kv ks us H' w1 v1;obtain⟨S',sb,rs,kp,rk⟩:=w1;rw[TU]at sr⊢;refine(hR.kp kp).new rs hD (λhp=>fin g S' D {sr.lt,sr.inj,λi j jt hj=>?_} sb hp)<|wB (RvAll.ts kp _ rv) g _ λk hk=>sr.lt k<|zT.mp hk;have h1:=sr.lt i (by lia);have h2:=sr.lt j hj;have:=sr.ord i j jt hj;rw[sx sk _<|by lia,sx sk _<|by lia]at this;rw[ka _ h1,ka _ h2];rcases this with z|⟨z1,z2⟩;left;cases b with|false=>rw[if_neg zd]at z⊢;show zs.getD (g i) 0<zs.getD (g j) 0;exact zG z|true=>rw[if_pos rfl]at z⊢;show zs.getD (g j) 0<zs.getD (g i) 0;exact zG z
 exact .inr {by rw[z1],z2}
end
section
variable{K:Frag}{X:Cx}{N:lc}{src:v0}{scope:Scope}{params:Arguments}{e body:Expr}{q p x:Str}{np pos lp kq kq2 cp:Pos}{ci}{tl te:TD}{k:Nat}{c P:Addr}
theorem Wt.kp{pins:jp}{τ:St}{H H':Hp}{u:Value}{s':Shared}{f:Addr}{pm cv mw:Value}{Y:Cx}(L:Wt Y pins τ H H' P q params body scope u s' f pm cv mw){ps:im}(hP:H P=some (.qH ps)):Kp K H H':=.of λb o e=>by rcases L.same b with z|⟨z,_⟩|⟨z,_⟩;exact .inl (by rw[z];exact e);rw[z,hP]at e;cases e;exact .inr {λ_=>nofun,λ_ _=>nofun};rw[z]at e;cases e
theorem Wt.rs{pins:jp}{τ:St}{H H':Hp}{u:Value}{s':Shared}{f:Addr}{pm cv mw:Value}{Y:Cx}{S:ao}(L:Wt Y pins τ H H' P q params body scope u s' f pm cv mw)(hS:Rs K S H)(ht:S P=some (.tab q)):Rs K S H':=λb x hb=>by obtain⟨ps,hP,_⟩:=hS P _ ht;have kp:Kp K H H':=L.kp hP;rcases L.same b with z|⟨rfl,TY,z1,z2⟩|⟨z,_⟩;exact(hS b x hb).keep (λo e=>by rw[z];exact e) kp;rw[ht]at hb;cases hb;exact⟨TY,z1,z2⟩;obtain⟨o,e,_⟩:=(hS b x hb).has;rw[z]at e;cases e
theorem Wx(pJ:X.env.code=.ref c)(mk:Mkr K X.mg X.base c P)(hr:bR k X.A)(CS:bj X N src scope)(hl:DE K X e tl)(he:∀f cv s H,DE K (TQ X N q scope f cv X.A.in1.in1 s H) body te)(hm:X.mg x=none)(hv:bootBuiltins x=some (.builtin "sorted"))(hq:autoParam (X.env.qual ++ "<lambda>"= q) qQJ)(MX:autoParam (N[0]?=some p) qQJ)(hp:autoParam (scope.names.lookup p=some .local) qQJ)(h0:autoParam (src[0]?=some none) qQJ)(MY:autoParam (scope.isCoroutine=false) qQJ)(CV:autoParam (scope.isGenerator=false) qQJ)(hb:autoParam (∀cl pm cv mw u,bindArgs (kla_fn "<lambda>" q params body scope cl pm cv mw) {[u],[]}=pure [(p,u)]) qJ3)(JJ:autoParam (defaultsOf params X.env=([],[])) qQJ)(hg:autoParam (Gl X x) qQJ)(hn:autoParam (x≠"__name__") qQZ)(qp:autoParam ((x==("__debug__": Str))=false) qQZ)(hse:autoParam (backTo pos (starEach [e] X.env)=(false,eval e X.env)::backTo pos (starEach [] X.env)) qQJ)(dG:autoParam ((backTo pos<|starEach [e] X.env).any (·.1)=false) qQJ)(vj:autoParam (isPlain e=true) qQJ)(hK:autoParam (X.K=K) qQJ)(hC:autoParam (X.calm=true) qQJ): DE K X (.Call (.Name x np) [e] [{some "key",.Lambda params body scope lp,kq}] pos) (O0 false P q src tl te):=by subst hK;refine⟨λy=>?_⟩;rintro pins s τ H Q I ⟨σ,S,R,Z,aC,hS,t,hR,hZ⟩;refine wpAny_Call_Name_kw<|fG I hg hm hv ?_ hn qp;refine callWith_kw (br (((ac hl an vj).of y) pos pins s τ H (λvs H1=>∃ds S1,JK (AE false P q src te σ R) ds S1/\RvAll X.K H1 ds vs/\Rs X.K S1 H1/\Kp X.K H H1) I {σ,S,JK<|AE false P q src te σ R,Z,aC,hS,t,λds S1 vs H1 r rv rs k1=>⟨ds,S1,r,rv,rs,k1⟩,hZ}) λus s1 ⟨vs,H1,I1,r1,ds,S1,r,rv,rs,k1⟩=>?_) hse dG;obtain⟨d,rfl,l,xs,fD,rfl,el,H_,et,kd,step,fin⟩:=ES r;obtain⟨v,ZJ,rfl,Wy,T4⟩:=rv.cons;cases T4.nil;cases Wy.ref;obtain⟨u,rfl,ru⟩:=vals1 r1;cases ru;obtain⟨ps,hP,aN⟩:=rs P _ et;refine kws_cons<|AB I1 ⟨CS.kind,CS.gM,CS.loc,CS.BN,CS.len,CS.src⟩ pJ mk hP aN hq JJ λw s2 H2 f pm cv mw L=>?_;refine kws_nil ?_;cases L.u;have k2:Kp X.K H1 H2:=L.kp hP;exact AF L.inv rfl hC hr L.code ⟨CS.kind,CS.gM,CS.loc,CS.BN,CS.len,CS.src⟩ MX hp h0 MY CV hb (he f) ((aC.ts k1).ts k2) (L.rs rs et) el H_ kd step (hR.kp<|k1.trans k2) fin (ksk_s1 _ _) (λx=>ksk_l1 _ _) λx=>ksk_t1 _ _
theorem O3(pJ:X.env.code=.ref c)(mk:Mkr K X.mg X.base c P)(hr:bR k X.A)(CS:bj X N src scope)(hl:DE K X e tl)(he:∀f cv s H,DE K (TQ X N q scope f cv X.A.in1.in1 s H) body te)(hm:X.mg x=none)(hv:bootBuiltins x=some (.builtin "sorted"))(hq:autoParam (X.env.qual ++ "<lambda>"= q) qQJ)(MX:autoParam (N[0]?=some p) qQJ)(hp:autoParam (scope.names.lookup p=some .local) qQJ)(h0:autoParam (src[0]?=some none) qQJ)(MY:autoParam (scope.isCoroutine=false) qQJ)(CV:autoParam (scope.isGenerator=false) qQJ)(hb:autoParam (∀cl pm cv mw u,bindArgs (kla_fn "<lambda>" q params body scope cl pm cv mw) {[u],[]}=pure [(p,u)]) qJ3)(JJ:autoParam (defaultsOf params X.env=([],[])) qQJ)(hg:autoParam (Gl X x) qQJ)(hn:autoParam (x≠"__name__") qQZ)(qp:autoParam ((x==("__debug__": Str))=false) qQZ)(hse:autoParam (backTo pos (starEach [e] X.env)=(false,eval e X.env)::backTo pos (starEach [] X.env)) qQJ)(dG:autoParam ((backTo pos<|starEach [e] X.env).any (·.1)=false) qQJ)(vj:autoParam (isPlain e=true) qQJ)(hK:autoParam (X.K=K) qQJ)(hC:autoParam (X.calm=true) qQJ): DE K X (.Call (.Name x np) [e] [{some "key",.Lambda params body scope lp,kq},{some "reverse",.Constant (.bool true) ci cp,kq2}] pos) (O0 true P q src tl te):=by subst hK;refine⟨λy=>?_⟩;rintro pins s τ H Q I ⟨σ,S,R,Z,aC,hS,t,hR,hZ⟩;refine wpAny_Call_Name_kw<|fG I hg hm hv ?_ hn qp;refine callWith_kw (br (((ac hl an vj).of y) pos pins s τ H (λvs H1=>∃ds S1,JK (AE true P q src te σ R) ds S1/\RvAll X.K H1 ds vs/\Rs X.K S1 H1/\Kp X.K H H1) I {σ,S,JK<|AE true P q src te σ R,Z,aC,hS,t,λds S1 vs H1 r rv rs k1=>⟨ds,S1,r,rv,rs,k1⟩,hZ}) λus s1 ⟨vs,H1,I1,r1,ds,S1,r,rv,rs,k1⟩=>?_) hse dG;obtain⟨d,rfl,l,xs,fD,rfl,el,H_,et,kd,step,fin⟩:=ES r;obtain⟨v,ZJ,rfl,Wy,T4⟩:=rv.cons;cases T4.nil;cases Wy.ref;obtain⟨u,rfl,ru⟩:=vals1 r1;cases ru;obtain⟨ps,hP,aN⟩:=rs P _ et;refine kws_cons<|AB I1 ⟨CS.kind,CS.gM,CS.loc,CS.BN,CS.len,CS.src⟩ pJ mk hP aN hq JJ λw s2 H2 f pm cv mw L=>?_;refine kws_cons<|br (Od (X:=y.cx) _ s2 τ H2 (λv H'=>v=.bl true/\H'=H2) L.inv ⟨rfl,rfl⟩) ?_;rintro w2 s3 ⟨v2,H3,I3,r3,e3,e4⟩;subst e3 e4;obtain rfl:w2=Value.bool true:=r3;refine kws_nil ?_;cases L.u;have k2:Kp X.K H1 H3:=L.kp hP;exact AF I3 rfl hC hr L.code ⟨CS.kind,CS.gM,CS.loc,CS.BN,CS.len,CS.src⟩ MX hp h0 MY CV hb (he f) ((aC.ts k1).ts k2) (L.rs rs et) el H_ kd step (hR.kp<|k1.trans k2) fin (ksk_s2 _ _ _) (λx=>ksk_l2 _ _ _) λx=>ksk_t2 _ _ _
end
section
variable{P:Program}{w:World}{K:Frag}{mg:Str->Option Value}{base:Heap}
theorem wm.okC{x qual:Str}{st:Stmt}{f:Addr}{fd:FuncData}{N ps:lc}{k:Nat}{sp:qS}(F:wm K x qual st f fd)(S:gx N ps<|ai st)(len:∀ds S R Z,sp ds S R Z->ds.length=ps.length)(mC:∀(gy:Value)(A:Around)(outer:j4)(s:Shared)(H:Hp)(E:XK)(ds:wp)(S:ao)(R:KD)(Z:KX),gy=fd.code->bR k (A.deeper<|envOfC qual (ai st) s.heap.objs.size f gy)->sp ds S R Z->∃t,HY K (kH (fH P w mg) P w K mg base N qual (ai st) f gy A outer s H E) true (aZ st) t/\t {nx:=λ_ S'=>Fo S'<|R .av,rt:=λd S'=>Fo S'<|R d} (jC N ds) S λ_ C S'=>Fo S'<|Z C):bI P w K mg base (fH P w mg) (k+1) f fd ps (qU K sp):=by
 obtain⟨oc,od,dV,kV,doc,pm,an,gy,ct,Qt,rfl,lk,tZ⟩:=F.ex;have dG:ps.length<=N.length:=by have:=congrArg List.length S.pre;rw[yi]at this;lia
 refine Ot lk tZ S (by rintro vs H Q E ⟨ds,S',R,Z,v,_,h,_⟩;exact by rw[v.len];exact len _ _ _ _ h) λA outer s H vs Q E hr ⟨ds,S',R,Z,v,hS,h,hR,hZ⟩=>?_;obtain⟨t,ht,q⟩:=mC gy A outer s H E ds S' R Z rfl hr h;have L:cZ (kH (fH P w mg) P w K mg base N qual (ai st) f gy A outer s H E) E:=u_;let y:Ev (kH (fH P w mg) P w K mg base N qual (ai st) f gy A outer s H E) true:={_,(kH (fH P w mg) P w K mg base N qual (ai st) f gy A outer s H E).xe,λ_=>E,{λp2 τ H1 s1 e s' I h=>OA L p2 τ H1 s1 e s' I h,λ_ p2 τ H1 s1 h' a cls args I hx he=>pH L I hx he,λ_=>PassesOwn.leaving}};refine{L2.Tl K (λ_=>E) t,ht.of y,jC N ds,S',_,λ_ C S'=>Fo S'<|Z C,?_,hS,q,{by rintro σ S1 τ H1 ⟨S2,sb,r⟩ a b c;exact(hR.kp c).now (b.sub sb) r jz,by rintro d S1 v H1 ⟨S2,sb,r⟩ a b c;exact hR _ _ _ _ r a (b.sub sb) c,λ_ _ _ _ z=>z.elim,λ_ _ _ _ z=>z.elim},by rintro σ τ C S1 H1 ⟨S2,sb,r⟩ a b c;exact hZ C S2 H1 r (b.sub sb) c};unfold jC start;refine(rW v).app ?_;rw[v.len];exact rV _ _<|by rw[List.length_replicate]
end
structure AG(ts:io)(H:Hp):Prop where
 all:∀b,H b=none\/(∃o xs,H b=some (.lM o<|.lst xs))\/(b∈ts/\H b=some (.qH #[]))
 tab:∀b∈ts,H b=some (.qH #[])
theorem GY{P:Program}{w:World}{K:Frag}{mg mb:Str->Option Value}{CX:Cb}{k:Nat}{fa a:Addr}{fd:FuncData}{x:Str}{sp:Sp}{ba:Shared}{vs:fv}{ns:ul}{ts:io}(KX:K.In ba.heap)(Ry:ba.heap.Ns mainGlobals mg)(hb:ba.heap.Ns builtinsNs mb)(hbb:∀x:Str,x≠"__name__"->mb x=bootBuiltins x)(aaV:ba.heap.NoLimit)(hbm:Bm mg ba.heap)(hg:ba.gens=#[])(hT:∀b∈ts,ba.heap.get? b=some (tabObj #[]))(hC:∀b∈ts,isCodeTable ba.heap b)(hN:∀b∈ts,K.lookup b=none)(ha:ba.heap.get? a=some {cls:=.type "list",data:=.seq vs.toArray})(hi:IntsAre vs ns)(hl:ns.length<=sizeLine)(hr:bR k callerA)(F:∀base:Heap,Bm mg base->K.In base->base.Ns mainGlobals mg->bI P w K mg base CX k fa fd [x] sp)(Wz:∀(s:Shared) (u:Value),BindsTo s fd {[u],[]} [(x,u)])(Th:∀H:Hp,AG ts H->jq K H a (ns.map V.int)->sp [.ref a] H (λv _=>v=.bl true) λ_ _ _=>False)(hCX:∀H e s',CX [] H ba (λ_ _ _=>False) e s'->False): codeAny (model P w) callerA (.call (.ref fa) {[.ref a],[]}) (λr s'=>r=.ok (.ret<|.bool true)/\OldK ba.heap s'.heap/\s'.os=ba.os/\AllBare s'.gens) ba:=by
 have rv:=u5 hi;have aaX:=hi.length;have Yd:a∉ts:=λz=>by rw[hT a z]at ha;cases ha
 have core:∀H:Hp,AG ts H->jq K H a (ns.map V.int)->lN P w H ba.heap->(∀b,H b≠none->b=a\/b∈ts)->(H a≠none->K.lookup a=none)->codeAny (model P w) callerA (.call (.ref fa) {[.ref a],[]}) (λr s'=>r=.ok (.ret<|.bool true)/\OldK ba.heap s'.heap/\s'.os=ba.os/\AllBare s'.gens) ba:=by intro H hO hS aN hA hK;have wC:∀{b:Addr}{o:Obj},ba.heap.get? b=some o->H b=none->(ue ba.heap H).get? b=some o:=λe n=>Ii e n;have L_:∀{b:Addr}{o:Obj}{es:Array DictEntry}{ep:Nat},ba.heap.get? b=some o->o.data=.dict es ep->H b=none:=λ{b o es ep} e d=>(by cases q:H b with|none=>rfl|some u=>rcases hA b (by rw[q];simp) with e'|e';subst e';rw[ha]at e;cases e;have d':Data.seq vs.toArray _=Data.dict es ep:=d;cases d';rw[hT b e']at e;cases e;cases d);have Yp:∀{b:Addr}{m:Str->Option Value},ba.heap.Ns b m->(ue ba.heap H).Ns b m:=λ{b m} ⟨o,es,ep,e,d,r⟩=>{o,es,ep,wC e<|L_ e d,d,r};have hKb:K.In (ue ba.heap H):=λb o e=>wC (KX b o e) (by cases q:H b with|none=>rfl|some u=>rcases hA b (by rw[q];simp) with e'|e';subst e';rw[hK<|by rw[q];simp]at e;cases e;rw[hN b e']at e;cases e);have hM:Mod K mg (ue ba.heap H):={hKb,Yp Ry,{mb,Yp hb,hbb},by obtain⟨mc,h1,h2⟩:=aaV;exact{mc,Yp h1,h2}};have e0:y6 P w K mg (ue ba.heap H) callerA [] ba H:={rfl,hM,λb o e=>LO e,Nat.le_of_eq<|FU _ _,trivial,λb hb=>absurd (show b∈([]:io) from hb)<|by simp,aN,.of_eq hg};have hBm:Bm mg (ue ba.heap H):=(by obtain⟨bm,ob,b1,b2,b3,b4,b5,b6⟩:=hbm;refine{bm,ob,b1,b2,wC b3 ?_,b4,b5,b6};cases q:H bm with|none=>rfl|some u=>rcases hA bm (by rw[q];simp) with e'|e';rw[e',ha]at b3;cases b3;cases b6;rw[hT bm e']at b3;cases b3;cases b4);refine yW ((F _ hBm hKb<|Yp Ry).run callerA [] ba H {[.ref a],[]} [.ref a] [.ref a] _ _ hr e0 (Wz ba<|.ref a) (.cons rfl .nil)<|Th H hO hS) λr s' h=>?_;cases r with|error e=>exact(hCX H e s' h).elim|ok fl=>cases fl with|next=>exact False.elim h|brk=>exact False.elim h|cont=>exact False.elim h|ret u=>obtain⟨v,H',os,bare,un,WA,r',q⟩:=h;have q':v=.bl true:=q;subst q';obtain rfl:u=Value.bool true:=r';refine{rfl,{λb o e=>?_,λb o e=>un.there b o e<|by simp},os,bare};rcases hO.all b with z|⟨ob,xs,z⟩|⟨z1,z⟩;exact .inl<|un.keep b o e z (by intro z;exact absurd (show b∈([]:io) from z)<|by simp) (by simp);have z2:=un.lO b ob _ z;obtain⟨e1,_⟩:=aN b _ z;obtain⟨e2,_⟩:=WA b _ z2;rw[e]at e1;cases e1;exact .inl e2;obtain⟨more,z2⟩:=un.lP b _ z;have e2:=hT b z1;rw[e]at e2;cases e2;exact .inr<|.inl {hC b z1,rfl,#[],more,rfl,by have:=WA b _ z2;exact this}
 have tabs:∀(H:Hp),(∀b,b∈ts->H b=some (.qH #[]))->∀b u,b∈ts->H b=some u->bt P w H ba.heap b u:=λH h b u hb e=>by rw[h b hb]at e;cases e;exact hT b hb
 cases hk:K.lookup a with|some o=>(have e:=KX a o hk;rw[ha]at e;cases e;refine core (λb=>if b∈ts then some (.qH #[]) else none) {λb=>?_,λb hb=>if_pos hb} (.inr {_,vs.toArray,_,hk,rfl,rfl,rfl,by rw[zp,aaX];exact hl,by simpa using rv}) (λb u z=>?_) (λb z=>?_) λz=>absurd (if_neg Yd) z;by_cases hb:b∈ts;exact .inr<|.inr {hb,if_pos hb};exact .inl<|if_neg hb;by_cases hb:b∈ts;exact tabs _ (λb hb=>if_pos hb) b u hb z;have z':=(if_neg hb).symm.trans z;cases z';by_cases hb:b∈ts;exact .inr hb;exact absurd (if_neg hb) z)|none=>refine core (λb=>if b=a then some (.lM {cls:=.type "list",data:=.seq vs.toArray}<|.lst<|ns.map V.int) else if b∈ts then some (.qH #[]) else none) {λb=>?_,λb hb=>?_} (.inl<|.inr {{cls:=.type "list",data:=.seq vs.toArray},if_pos rfl}) (λb u z=>?_) (λb z=>?_) λ_=>hk;by_cases hb:b=a;exact .inr<|.inl {_,_,if_pos hb};by_cases LJ:b∈ts;exact .inr<|.inr {LJ,(if_neg hb).trans<|if_pos LJ};exact .inl<|(if_neg hb).trans<|if_neg LJ;have:b≠a:=λz=>Yd<|z ▸ hb;exact(if_neg this).trans<|if_pos hb;by_cases hb:b=a;have z':=(if_pos hb).symm.trans z;cases z';subst hb;exact{ha,by rw[zb];exact hl,vs,_,rv,ha};have z':=(if_neg hb).symm.trans z;by_cases LJ:b∈ts;have z2:=(if_pos LJ).symm.trans z';cases z2;exact hT b LJ;have z2:=(if_neg LJ).symm.trans z';cases z2;by_cases hb:b=a;exact .inl hb;by_cases LJ:b∈ts;exact .inr LJ;exact absurd ((if_neg hb).trans<|if_neg LJ) z
theorem ET:∀{K:Frag},b∉K.map (·.1)->K.lookup b=none|[],_=>rfl| (a,o)::K,h=>by rw[zx,zk,not_or]at h;rw[yh,show(b==a)=false from beq_false_of_ne h.1];exact ET h.2
theorem M0{K:Params->Frag}{as:io}{e:∀P,as=(K P).map (·.1)}{ts:io}{w:World}{h:Heap}(_:(PySem.W.kmHook K as e ts).says w h)(d:∀b∈ts,b∉as):∀b∈ts,(K w.params).lookup b=none:=λb hb=>ET<|by rw[<-e];exact d b hb
theorem JO{l:PySem.W.OpenLaw}{n k:Nat}{q:Program}{loose:lc}{XP:(Str->Option Value)->Heap->Prop}{YP:World->Heap->Prop}{d:DefRec}{K:Params->Frag}{CX:Cb}{x:Str}{ts:io}(hn:l.most=some n)(Oo:n<=sizeLine)(Zw:d.params.defaults=[])(hr:bR k callerA)(hY:∀(w:World)(h:Heap),YP w h->(K w.params).In h)(hT:∀(w:World)(h:Heap),YP w h->∀b∈ts,h.get? b=some (tabObj #[]))(hN:∀(w:World)(h:Heap),YP w h->∀b∈ts,(K w.params).lookup b=none)(F:∀(w:World)(mg:Str->Option Value)(fa:Addr)(h:Heap),(K w.params).In h->h.Ns mainGlobals mg->mg d.name=some (.ref fa)->∃(fd:FuncData)(sp:Sp),(∀b∈ts,∃c,codeHdIn (K w.params) c b=true)/\(∀(s:Shared)(u:Value),BindsTo s fd {[u],[]} [(x,u)])/\(∀base:Heap,Bm mg base->(K w.params).In base->base.Ns mainGlobals mg->bI l.prog w (K w.params) mg base CX k fa fd [x] sp)/\∀(H:Hp)(a:Addr)(ns:ul),ns.length<=n->AG ts H->jq (K w.params) H a (ns.map V.int)->sp [.ref a] H (λv _=>v=.bl true) λ_ _ _=>False)(hCX:∀(H:Hp)(s:Shared)(e:Value)(s':Shared),CX [] H s (λ_ _ _=>False) e s'->False): PySem.W.WalkO q loose XP YP l.row.toRowW d [] (λf vs=>PySem.call f vs):=by refine Att.Ab hn Zw λw dw ba mg mb fa o pm cd doc a vs ns G Y ho hd tZ QL QM hints hlen hg=>?_;have KX:=hY w _ Y;obtain⟨fd,sp,hC,hb,hF,Th⟩:=F w mg fa _ KX G.T.g QL;have hT':=hT w _ Y;exact GY KX G.T.g G.T.b G.T.builtins G.T.nolimit G.T.bmain hg hT' (λb z=>by obtain⟨c,hc⟩:=hC b z;exact((codeHd_of_K KX hc).tab<|hT' b z).isCodeTable) (hN w _ Y) QM hints (zJ hlen Oo) hr hF hb (λH hO hS=>Th H a ns hlen hO hS) λH e s'=>hCX H ba e s'
namespace Rt
theorem own:Manifest.owners.lookup (String.ofList ['d','e','s','r','e','v','e','r'].reverse)=some Manifest.sig_reversed:=by kernel_rfl
theorem mQ:Slot "reversed" "__next__" "reversed.__next__":=.of (owner:="reversed") (n:="__next__") (by rw[typeLookup_type,builtinLookup_eq_fast];kernel_rfl) (by trivial) (by trivial) (by trivial) (by first|exact .inl (by trivial)|exact .inr (by trivial))<|by rw[isSubtype_type];kernel_rfl
theorem EU:entryFor table "reversed.__next__"= some Builtin.«reversed.__next__»:=entryFor_of_tree<|by kernel_rfl
theorem EV(a:Value):argsOk "reversed.__next__" {[a],[]}:=by unfold argsOk;rw[signature?_of (id:="reversed.__next__") (n:=['_','_','t','x','e','n','_','_']) (o:=['d','e','s','r','e','v','e','r']) (by kernel_rfl) own];kernel_rfl
theorem EW:Slot "reversed" "__iter__" "reversed.__iter__":=.of (owner:="reversed") (n:="__iter__") (by rw[typeLookup_type,builtinLookup_eq_fast];kernel_rfl) (by trivial) (by trivial) (by trivial) (by first|exact .inl (by trivial)|exact .inr (by trivial))<|by rw[isSubtype_type];kernel_rfl
theorem M4(a:Value):argsOk "reversed.__iter__" {[a],[]}:=by unfold argsOk;rw[signature?_of (id:="reversed.__iter__") (n:=['_','_','r','e','t','i','_','_']) (o:=['d','e','s','r','e','v','e','r']) (by kernel_rfl) own];kernel_rfl
theorem M5:entryFor table "reversed.__iter__"= some Builtin.«dict_keyiterator.__iter__»:=entryFor_alias (id':="dict_keyiterator.__iter__") (by kernel_rfl) (by first|rfl|decide +kernel|(unfold String.splitOn;simp +decide [String.splitOnAux])) (by trivial)<|by kernel_rfl
theorem M6:Slot "reversed" "__init__" "object.__init__":=.of (owner:="object") (n:="__init__") (by rw[typeLookup_type,builtinLookup_eq_fast];kernel_rfl) (by trivial) (by trivial) (by trivial) (by first|exact .inl (by trivial)|exact .inr (by trivial))<|by rw[isSubtype_type];kernel_rfl
theorem called:TypeCalled "reversed" "reversed.__new__" "object.__init__":={by trivial,by trivial,{_,_,F.mro_reversed},F.made_reversed,by trivial,by rw[isSubtype_type];kernel_rfl,M6}
theorem RC:typeLookup (.type "tuple") "__reversed__"= pure none:=by rw[typeLookup_type,builtinLookup_eq_fast];kernel_rfl
theorem EX:typeLookup (.type "tuple") "__getitem__"= pure (some<|.builtin "tuple.__getitem__"):=by rw[typeLookup_type,builtinLookup_eq_fast];kernel_rfl
theorem M7:isSubtype (.type "tuple") (.type "dict")=pure false:=by rw[isSubtype_type];kernel_rfl
end Rt
noncomputable def AH(l:Addr)(i:Int):Obj:={cls:=.type "reversed",data:=.fields #[.ref l,rawInt i]}
def sy(h:Heap)(a l:Addr)(i:Int):Prop:=∃o,h.get? a=some o/\o.cls=.type "reversed"/\o.data=.fields #[.ref l,rawInt i]
section
variable{prog:Program}{w:World}{A:Around}{E:li}{s:Shared}
theorem sy.typeIs(x:sy s.heap a l i):s.TypeIs (.ref a) "reversed":=by obtain⟨o,ho,hc,_⟩:=x;exact⟨o,ho,hc⟩
theorem sy.keep(x:sy h a l i)(e:∀o,h.get? a=some o->h'.get? a=some o):sy h' a l i:=by obtain⟨o,ho,r⟩:=x;exact{o,e _ ho,r}
theorem RD(hl:IsTup s.heap l items)(hz:items.size<=sizeLine)(h:Q₁ (.ref s.heap.objs.size) {s with heap:=s.heap.push<|AH l<|(items.size:Int)-1,toks:=s.toks+1+1}): codeAny (model prog w) A (.call (.builtin "reversed.__new__") {[.type "reversed",.ref l],[]}) (wants Q₁ E) s:=by
 refine codeAny_of_tree ?_;show wpAny _ A.in1 (do checkBuiltinCall "reversed.__new__" {[.type "reversed",.ref l],[]};again (.builtin "reversed.__new__" {[.type "reversed",.ref l],[]})) _ _ s;refine zc<|yY (F.newCall_reversed_1 _)<|zo {plainId_quiet F.plain_reversed_new _,yR F.entry_reversed_new ?_};rw[Around.under_plainId F.plain_reversed_new _];unfold Builtin.«reversed.__new__»;refine zc<|yY (newClass_reversed _) ?_;refine zc<|yY (a:=()) (by first|rfl|kernel_rfl)<|zc<|yY (a:=()) (by first|rfl|kernel_rfl) ?_;refine zc<|wpAny_specialOf hl.typeIs Rt.RC ?_;refine zc<|zc<|wpAny_isInstance hl.typeIs Rt.M7<|zc<|wpAny_specialOf hl.typeIs Rt.EX ?_;show wpAny _ _ (if (["tuple.__getitem__","str.__getitem__","bytes.__getitem__","bytearray.__getitem__","memoryview.__getitem__","numpy.ndarray.__getitem__","sqlite3.Row.__getitem__"]:List String).contains "tuple.__getitem__"= true then pure true else _) _ _ _;rw[if_pos<|by trivial];refine zo ?_
 show wpAny _ _ (do
     let ot <-call (Value.builtin "len") [Value.ref l]
     let __x <-asInt? ot
     match __x with
      |some n=>do
       let ot <-Builtin.SmallTypes.newRecord (Value.type "reversed") [Value.ref l,rawInt (n-1)]
       ret ot
      |x=>unsupported "internal:reversed.__new__") _ _ _
 refine zc<|len_tuple hl (by rw[yg]at hz;lia) ?_;refine zc<|yY (a:=some ((items.size:Nat):Int)) rfl ?_;exact zc (m:=newObj (.type "reversed")<|.fields #[.ref l,rawInt<|((items.size:Nat):Int)-1])<|yj<|zo h
theorem M8(hl:IsTup s.heap l items)(hz:items.size<=sizeLine)(h:Q (.ref s.heap.objs.size) {s with heap:=s.heap.push<|AH l<|(items.size:Int)-1,toks:=s.toks+1+1}): wpAny (model prog w) A (call (.type "reversed") [.ref l]) Q E s:=by refine callType_codes Rt.called (F.typeCall_reversed_1 _) F.entry_object_init (Q₁:=λobj ba=>ba.TypeIs obj "reversed"/\Q obj ba) (RD hl hz {{_,zm _ rfl,rfl},h}) λobj ba h₁=>?_;exact{h₁.1,F.args_object_init_2 obj _,object_init_meets Rt.called.init.lookup Rt.called.made (by decide) prog w A.in1 _ ba ⟨h₁.1,rfl,h₁.2⟩}
theorem sqx(h:k<n):seqIndex? ((k:Nat):Int) n=some k:=by have e:(if ((k:Nat):Int)<0 then ((k:Nat):Int)+(n:Int) else ((k:Nat):Int))=((k:Nat):Int):=if_neg (by lia);unfold seqIndex?;dsimp only;rw[e,if_pos<|by simp;lia];rfl
theorem M9{it l:Addr}{i:Nat}{items:im}{x:Value}{Q:Option Value->Shared->Prop}(hit:sy s.heap it l (i:Int))(hl:IsTup s.heap l items)(hz:items.size<=sizeLine)(hx:items[i]?=some x)(hQ:∀h' tk,sy h' it l ((i:Int)-1)->Heap.SameBut it s.heap h'->Q (some x) {s with heap:=h',toks:=tk}):wpAny (model prog w) A (pyNext<|.ref it) Q E s:=by obtain⟨o,ho,hc,hd⟩:=id hit;have hi:i<items.size:=(Array.getElem?_eq_some_iff.mp hx).1;unfold pyNext;refine zc<|wpAny_attempt<|wpAny_callSpecial?_slot (name:=Str.ofString "__next__") hit.typeIs Rt.mQ<|yH Rt.mQ hit.typeIs Rt.EU ?_<|Rt.EV _;unfold Builtin.«reversed.__next__»;refine zc<|yY (a:=(Value.ref it,[])) rfl<|zc<|yb ho hd (x:=.ref l) rfl<|zc<|yb ho hd (x:=rawInt (i:Int)) rfl ?_;show wpAny _ _ (if (i:Int)<0 then _ else _) _ _ s;rw[if_neg<|by lia];show wpAny _ _ (specialOf (.ref l) "__getitem__" >>=_) _ _ s;refine zc<|wpAny_specialOf hl.typeIs Rt.EX ?_;show wpAny _ _ (mkInt (i:Int) >>=_) _ _ s;refine zc<|wpAny_mkInt ?_;refine zc<|wpAny_attempt<|getItem_tuple (j:=i) hl (by lia) (by rw[yg]at hz;lia) (sqx hi) hx ?_;refine zc<|yb ho hd (x:=rawInt (i:Int)) rfl ?_;show wpAny _ _ (setField (.ref it) 1 (rawInt<|(i:Int)-1) >>=λ_=>ret x) _ _ _;refine zc<|yU ho hd (by simp)<|zo {x,rfl,zo<|hQ _ _ ?_<|yE ..};exact{_,yA _ ho<|Obj.isFreed_of_fields<|yC hd _,(Obj.cls_mapFields ..).trans hc,by rw[yC hd];simp}
theorem RE(hh:A.handled=none)(hit:sy s.heap it l (-1))(hQ:∀h',Heap.ExtBut it s.heap h'->Q none {s with heap:=h'}):wpAny (model prog w) A (pyNext<|.ref it) Q E s:=by
 obtain⟨o,ho,hc,hd⟩:=id hit;unfold pyNext;refine zc<|wpAny_attempt<|wpAny_callSpecial?_slot (name:=Str.ofString "__next__") hit.typeIs Rt.mQ<|yH Rt.mQ hit.typeIs Rt.EU ?_<|Rt.EV _;unfold Builtin.«reversed.__next__»;refine zc<|yY (a:=(Value.ref it,[])) rfl<|zc<|yb ho hd (x:=.ref l) rfl<|zc<|yb ho hd (x:=rawInt (-1)) rfl ?_;show wpAny _ _ (if (-1:Int)<0 then _ else _) _ _ s;rw[if_pos<|by decide];refine zc<|yX ?_;have hd1:=yC hd (·.setIfInBounds 1 (rawInt (-1)));have TV:=yA (Obj.mapFields (·.setIfInBounds 1 (rawInt (-1)))) ho<|Obj.isFreed_of_fields hd1;refine zc (m:=setField (.ref it) 1 (rawInt (-1)) >>=λ_=>setField (.ref it) 0 .none)<|zc<|yU ho hd (by simp)<|yU TV hd1 (by simp) ?_;have eb:Heap.ExtBut it s.heap ((s.heap.update it (Obj.mapFields (·.setIfInBounds 1 (rawInt (-1))))).update it (Obj.mapFields (·.setIfInBounds 0 Value.none))):=λb u hb e=>by rw[yw _ _<|Ne.symm hb,yw _ _<|Ne.symm hb];exact e
 refine zc ?_;show wpAny _ _ (newExc (.type "StopIteration") [] >>=_) _ _ _;refine zc ?_;simp only[newExc,newTuple];refine zc<|yj ?_ (by size_fits);refine zc (m:=firstArgMember _ _)<|yY (a:=Value.none) (by first|rfl|(simp only[firstArgMember];rfl)) ?_;refine yj ?_ (by size_fits);simp only[raiseNew];refine zc<|wpAny_handled ?_;first|rw[show A.in1.handled=none from hh]|rw[hh]
 refine zc<|zo<|wpAny_throw ?_;refine zc<|wpAny_isInstance (T:="StopIteration") (b:=true) {_,zm _ rfl,rfl} isSubtype_stop ?_;exact zo<|hQ _<|(eb.push _).push _
theorem EY(hit:sy s.heap it l i)(h:Q (.ref it) s):wpAny (model prog w) A (pyIter<|.ref it) Q E s:=by refine wpAny_pyIter_slot hit.typeIs Rt.EW<|yH Rt.EW hit.typeIs Rt.M5 ?_<|Rt.M4 _;show wpAny _ _ (ret<|.ref it) _ _ s;exact zo !{"reversed",_,hit.typeIs,Rt.mQ.lookup,h}
end
end L2
namespace L2
open PySem PySem.Spec PyProof.Rows
def WB(K:Frag)(a:Addr)(n:Nat):It:={λi H=>∃xs x,i4 K H a xs/\xs.length=n/\i<n/\xs[n-1-i]?=some x,λi H x H'=>H'=H/\∀xs,i4 K H a xs->xs.length=n->xs[n-1-i]?=some x,λi _=>n<=i}
theorem M_{P:Program}{w:World}{K:Frag}{tg:Expr}(a it:Addr)(n:Nat):Turn P w K tg (WB K a n) [it] it (λi h=>i<=n/\sy h it a ((n:Int)-1-(i:Int))) where
 mem:=by simp
 obj:=λi h st b hb=>by
  have e:b=it:=by simpa using hb
  subst e
  obtain⟨_,o,e,c,d⟩:=st
  exact{o,e,λv z=>by rw[d]at z;cases z}
 keep:=λi h h' st k=>{st.1,st.2.keep λo e=>k it (by simp) o e}
 item:=by
  intro X hP hw hK hc i pins s σ H E I hf st hg
  subst hP hw hK
  obtain⟨xs,x,hq,hn,hi,hx⟩:=hg
  obtain⟨aw,rv,p,hz⟩:=I.tuple hq
  obtain⟨u,hu,ru⟩:=rv.get hx
  obtain⟨f0,f1,f2,f3,f4,f5⟩:=hf it<|by simp
  have e:(n:Int)-1-(i:Int)=((n-1-i:Nat):Int):=by lia
  have hit:=st.2
  rw[e]at hit
  refine M9 hit p (by rw[zp,<-rv.length];exact hz) (x:=u) (by simpa using hu) λh' tk eY sb=>?_
  have I1:Inv X pins σ H {s with heap:=h',toks:=tk}:=I.turned (t':=tk) (λb o hb e=>(sb.2 b hb).trans e) f0 f1 f3 f4 f5
  obtain⟨o,e1,c,d⟩:=id eY
  refine{u,rfl,uT (s:={s with heap:=h',toks:=tk}) e1 c d (by decide) {x,H,I1,ru,{rfl,λys hy _=>by rw[I.n5 hy hq];exact hx},{hi,?_},λb hb=>(hf b hb).1}}
  have e2:(n:Int)-1-((i+1:Nat):Int)=((n-1-i:Nat):Int)-1:=by lia
  rw[e2];exact eY
 done:=by
  intro X hP hw hK hc i pins s σ H E I hf st hg
  subst hP hw hK
  obtain⟨f0,f1,f2,f3,f4,f5⟩:=hf it<|by simp
  have hg:n<=i:=hg
  have e:(n:Int)-1-(i:Int) = -1:=by have:=st.1;lia
  have hit:=st.2
  rw[e]at hit
  exact RE (I.ok.hd hc) hit λh' eb=>{rfl,I.turned (t':=s.toks) (λb o hb e=>eb b o hb e) f0 f1 f3 f4 f5}
 self:=λ_ _ _ _ _ st h=>EY st.2 h
def iRt(K:Frag)(ta:TA):TI:=λσ H R=>ta σ H λvs H1=>∃a xs,vs=[.ref a]/\i4 K H1 a xs/\R (WB K a xs.length) H1
theorem WC{X:Cx}{tg a:Expr}{ta:TA}{p pos:Pos}(hg:Gl X "reversed")(hm:X.mg "reversed"= none)(ha:PA X [a] ta)(hs:starEach [a] X.env=[(false,eval a X.env)]):PI X tg (.Call (.Name "reversed" p) [a] [] pos) (iRt X.K ta):=by
 intro pins s σ H R I h;refine Call_<|fG I hg hm boot_reversed<|PyProof.Rows.callWith_type1 (br (ha pos pins s σ H _ I h) λus s1 ⟨vs,H1,I1,r1,q1⟩=>?_) hs rfl;obtain⟨l,xs,e,q,hR⟩:=q1;subst e;obtain⟨u,rfl,ru⟩:=vals1 r1;cases ru;obtain⟨aw,rv,pl,hz⟩:=I1.tuple q;have hn:aw.toArray.size=xs.length:=by rw[zp,rv.length]
 refine M8 pl (by rw[hn];exact hz) ?_;rw[hn];have st:sy (s1.heap.push<|AH l<|(xs.length:Int)-1) s1.heap.objs.size l ((xs.length:Int)-1-((0:Nat):Int)):={_,zm _ rfl,rfl,by show Data.fields _=Data.fields _;simp};have I2:Inv X pins σ H1 {s1 with heap:=s1.heap.push<|AH l<|(xs.length:Int)-1,toks:=s1.toks+1+1}:=I1.kept (t':=s1.toks+1+1) λb o e=>za _ e;refine EY (s:={s1 with heap:=s1.heap.push<|AH l<|(xs.length:Int)-1,toks:=s1.toks+1+1}) st {_,_,_,_,H1,rfl,I2,M_ l s1.heap.objs.size xs.length,{zU _,st},λb hb=>?_,hR};have hb:b=s1.heap.objs.size:=by simpa using hb
 subst hb;exact I1.qm (zq _)<|I1.aN.fresh<|zq _
section
variable{K:Frag}{X:Cx}{tg:Expr}
def aaY(t:iw):x8:=λσ S R Z=>t σ S (λds S1=>∃es,ds=[.tup es]/\R {es.reverse,λ_=>True} S1) Z
theorem irt{t:iw}(hm:X.mg "reversed"= none)(ha:DA K X [a] t)(hg:autoParam (Gl X "reversed") qQJ)(hs:autoParam (starEach [a] X.env=[(false,eval a X.env)]) qQJ)(hK:autoParam (X.K=K) qQJ):DI K X tg (.Call (.Name "reversed" p) [a] [] pos) (aaY t):=by subst hK;exact⟨λy=>(WC (X:=y.cx) hg hm (ha.of y) hs).mono <| by rintro τ H R ⟨σ,S,RI,Z,aC,hS,q,hR,hZ⟩;exact{σ,S,_,Z,aC,hS,q,by rintro ds S1 vs H1 ⟨es,e,r1⟩ v1 s1 k1;subst e;obtain⟨v,rfl,r⟩:=v1.one;obtain⟨a,xs,rfl,hq,t⟩:=r.tup;refine{a,xs,rfl,.inl<|.of hq,hR _ S1 _ H1 r1 (λi S2 H2 k2 s2 Yb=>?_) s1 k1};have TL:i4 X.K H2 a xs:=.inl<|.of<|k2.t _ _ hq;have t2:=RvAll.ts k2 _ t;have hl:xs.length=es.length:=t.len;refine{λd hd=>?_,λh=>by rw[yp]at h;show xs.length<=i;lia};have hi:i<es.length:=(by have:=(zg.mp hd).1;rwa [yp]at this);rw[List.getElem?_reverse hi]at hd;obtain⟨v,e1,r⟩:=t2.get hd;rw[hl];refine{⟨xs,v,TL,hl,hi,e1⟩,λx' H' ⟨e2,e3⟩=>?_};subst e2;have:=e3 xs TL hl;rw[e1]at this;cases this;exact{r,.refl _,s2},hZ}⟩
end
section
variable{K:Frag}{X:Cx}{pos:Pos}
def RF(tc:mq)(tb:mr):mr:=λDe σ S Z=>∃P:Nat->SD->ao->Prop,(∃m,P m σ S)/\∀m σ S,P m σ S->tc σ S (λb S1=>if b=true then tb {De with nx:=λaA S'=>∃m',m'<m/\P m' aA S',ct:=λaA S'=>∃m',m'<m/\P m' aA S',bk:=De.nx} σ S1 Z else De.nx σ S1) (Z σ)
theorem swh(hc:DT K X c tc)(hb:HY K X true body tb):DS K X true (.While c body [] pos) (RF tc tb):=
 ⟨λy=>(Iq (X:=y.cx) (y.ok.loop rfl) (hc.of y)<|hb.of y).mono <| by rintro D τ H ⟨σ,S,De,Z,aC,hS,⟨P,⟨m,p0⟩,turn⟩,hD,hZ⟩;exact
  ⟨λm TF H'=>∃σ S,iE K H' σ TF/\Rs K S H'/\P m σ S/\Kp K H H',⟨m,σ,S,aC,hS,p0,.refl _⟩,by rintro m τ1 H1 ⟨x5,S1,a1,s1,p1,k1⟩;exact⟨x5,S1,_,Z x5,a1,s1,turn m x5 S1 p1,λb S2 H2 r2 s2 k2=>by
   cases b with
   |true =>
    rw[if_pos rfl]at r2⊢
    refine{λτ3 H3=>∃σ S,iE K H3 σ τ3/\Rs K S H3/\(∃m',m'<m/\P m' σ S)/\Kp K H H3,by rintro τ3 H3 ⟨gu,S3,a3,s3,⟨m',hm,p3⟩,k3⟩;exact⟨m',hm,gu,S3,a3,s3,p3,k3⟩,?_}
    have kk:=k1.trans k2
    exact{x5,S2,_,Z,a1.ts k2,s2,r2,{λRl S5 τ5 H5 r5 a5 s5 k5=>{Rl,S5,a5,s5,r5,kk.trans k5},hD.rt.kp kk,hD.nx.kp kk,λRl S5 τ5 H5 r5 a5 s5 k5=>{Rl,S5,a5,s5,r5,kk.trans k5}},hZ.kp kk}
   |false =>
    rw[if_neg zd]at r2⊢
    exact hD.nx _ _ _ _ r2 (a1.ts k2) s2<|k1.trans k2,(hZ.kp k1).at a1⟩⟩⟩
def aa0(i:Nat)(te:TD):mr:=λDe σ S Z=>∃a:Int,σ[i]?=some (some<|.int a)/\te σ S (λd S1=>∃b:Int,d=.int b/\De.nx (σ.set i<|some<|.int<|a+b) S1) (Z σ)
theorem sau(hN:X.N.Nodup)(he:DE K X e te)(hi:autoParam (X.N[i]?=some x) qQJ)(hx:autoParam (Loc X.env.scope x) qJQ)(hf:autoParam (X.fn x=true\/X.env.scope.names.lookup x=some .local) qJQ): DS K X b (.AugAssign (.Name x pos') .Add e pos) (aa0 i te):=⟨λy=>(P9 (X:=y.cx) hN hi hx (he.of y) P_ hf).mono <| by rintro D τ H ⟨σ,S,De,Z,aC,hS,⟨a,ha,t⟩,hD,hZ⟩;obtain⟨v,e1,r⟩:=aC.get ha;exact{v,e1,σ,S,_,Z σ,aC,hS,t,by rintro d S1 u H1 ⟨c,e2,n⟩ rv s1 k1;subst e2;exact{a,c,r.int,rv.int,hD.nx _ _ _ _ n ((aC.ts k1).set i<|aT _) s1 k1},hZ.at aC}⟩
noncomputable def vD:V->D|.int i=>.int i|.str z=>.str z|.bl b=>.bl b|_=>.av
noncomputable def JP:V->Bool|.int _=>true|.str _=>true|_=>false
def WD(kvs:ii)(ty:TD):TD:=λσ S R Z=>ty σ S (λy S1=>∃z,y=.str z/\R ((kvs.lookup z).elim .av vD) S1) Z
theorem mgk{w:World}{ad:Addr}{kvs:ii}{o e:Expr}{apos aQ:Pos}{ty:TD}(d:LF w K ad kvs)(hf:(kvs.all λp=>JP p.2)=true)(ho:∀Y:Cx,Y.env=X.env->Y.mg=X.mg->PE Y o (tC<|.ref ad))(he:DE K X e ty)(hw:autoParam (X.w=w) qQJ)(hK:autoParam (X.K=K) qQJ)(m:autoParam (M1 X o "get" apos e aQ) qQ4): DE K X (.Call (.Attribute o "get" apos) [e] [] aQ) (WD kvs ty):=⟨λy=>(Jg (X:=y.cx) hw hK (ho y.cx rfl rfl) (he.of y) ⟨m.base,m.HS,m.line,m.trees⟩).mono <| by rintro τ H Q ⟨σ,S,R,Z,aC,hS,q,hR,hZ⟩;exact⟨ad,kvs,rfl,d,σ,S,_,Z,aC,hS,q,by
 rintro yv S1 v H1 ⟨z,e1,r⟩ rv s1 k1;subst e1;refine{z,rv.str,hR _ _ _ _ r ?_ s1 k1};have fl:∀v,kvs.lookup z=some v->JP v=true:=λv hv=>by have:=yn hv;exact z0.mp hf _ this
 cases q:kvs.lookup z with|none=>exact jz|some v=>have:=fl v q;cases v with|int i=>exact aT i|str i=>exact dZ i|_=>(cases this),hZ⟩⟩
end
theorem gK(hm:X.mg x=some (.ref a))(hg:autoParam (Gl X x) qQJ)(hd:autoParam ((x==("__debug__": Str))=false) qQZ):∀Y:Cx,Y.env=X.env->Y.mg=X.mg->PE Y (.Name x pos) (tC<|.ref a):=λY e1 e2=>Ep (X:=Y) (u:=.ref a) (show Y.env.kindOf x=_ by rw[e1];exact hg) (by rw[e2];exact hm) rfl hd
structure Fb(K:Frag)(x q:Str)(st:Stmt)(ps:lc)(f:Addr)(d:FuncData):Prop where
 F:wm K x q st f d
 b:Binds K d ps []
structure GZ(K:Frag)(mg:Str->Option Value)(x:Str)(st:Stmt)(ps:lc)(f:Addr)(d:FuncData):Prop extends Fb K x x st ps f d where
 k:keepIn K (.ref f)=true
 m:mg x=some (.ref f)
structure O4(K:Frag)(c:Addr)(x q:Str)(st:Stmt)(ps:lc)(f:Addr)(d:FuncData):Prop extends Fb K x q st ps f d where
 e:Meth K c x f
abbrev Ok(P:Program)(w:World)(base:Heap){K:Frag}{mg:Str->Option Value}{x:Str}{st:Stmt}{ps:List Str}{f:Addr}{d:FuncData}(_:GZ K mg x st ps f d)(k:Nat)(sp:qS):Prop:=bI P w K mg base (fH P w mg) k f d ps<|qU K sp
abbrev qv(P:Program)(w:World)(mg:Str->Option Value)(base:Heap){K:Frag}{c:Addr}{x q:Str}{st:Stmt}{ps:List Str}{f:Addr}{d:FuncData}(_:O4 K c x q st ps f d)(k:Nat)(sp:qS):Prop:=bI P w K mg base (fH P w mg) k f d ps<|qU K sp
theorem fsc{N P:lc}{sc:Scope}(a:autoParam (sc.kind=.function/\sc.isCoroutine=false/\sc.isGenerator=false/\N.take P.length=P) qQ4)(b:autoParam (N.Nodup/\(∀x∈P,sc.names.lookup x=some .local\/sc.names.lookup x=some .cell)/\∀y∈sc.names,y.2≠.free) qQ8):gx N P sc:=⟨a.1,a.2.1,a.2.2.1,b.1,a.2.2.2,b.2.1,b.2.2⟩
section
variable{R:Prop}{K:Frag}{h:Heap}{mg:Str->Option Value}{od an:re}{sl:ut}{oc dV kV dc pm cd ct:Value}{f da:Addr}{Ia:re}{dn:Nat}{Ib:ut}{c:Addr}{tk:Tok}{d:FuncData}
theorem fn1(X:K.In h)(G:h.Ns mainGlobals mg)(x:Str)(st:Stmt)(ps:lc)(a:nsIn K mainGlobals x=some (some<|.ref f))(l:K.lookup f=some {oc,od,.func<|fnOf x x (bc st) (aZ st) (ai st) dV kV dc pm an cd ct,sl})(e:codeIn K cd x=true)(k:keepIn K (.ref f)=true)(b:∀us:fv,us.length=ps.length->bindArgs (fnOf x x (bc st) (aZ st) (ai st) dV kV dc pm an cd ct) {us,[]}=pure (ps.zip us))(g:∀d,GZ K mg x st ps f d->R):R:=g _ {{{_,_,_,_,_,_,_,_,_,_,rfl,l,e},.all b},k,mg_of X G a}
theorem fnl(X:K.In h)(G:h.Ns mainGlobals mg)(x:Str)(st:Stmt)(ps:lc)(a:nsIn K mainGlobals x=some (some<|.ref f))(l:K.lookup f=some {oc,od,.func<|fnOf x x (bc st) (aZ st) (ai st) dV kV dc pm an cd ct,sl})(e:codeIn K cd x=true)(k:keepIn K (.ref f)=true)(b:∀us:fv,us.length=ps.length->bindArgs (fnOf x x (bc st) (aZ st) (ai st) dV kV dc pm an cd ct) {us,[]}=pure (ps.zip us))(g:∀d,d.code=cd->(∀(s:Shared)(us:fv),us.length=ps.length->BindsTo s d {us,[]} (ps.zip us))->GZ K mg x st ps f d->R):R:=g _ rfl (λs us h=>.of_eq<|b us h) {{{_,_,_,_,_,_,_,_,_,_,rfl,l,e},.all b},k,mg_of X G a}
theorem fm1(C:qO K c)(x q:Str)(st:Stmt)(ps:lc)(a:findIn K (.ref c) x=some (some<|.ref f))(i:isFn K (.ref f)=true)(l:K.lookup f=some {oc,od,.func<|fnOf x q (bc st) (aZ st) (ai st) dV kV dc pm an cd ct,sl})(e:codeIn K cd q=true)(k:keepIn K (.ref f)=true)(b:∀us:fv,us.length=ps.length->bindArgs (fnOf x q (bc st) (aZ st) (ai st) dV kV dc pm an cd ct) {us,[]}=pure (ps.zip us))(g:∀d,O4 K c x q st ps f d->R):R:=g _ {{{_,_,_,_,_,_,_,_,_,_,rfl,l,e},.all b},a,i,k}
theorem fnd(X:K.In h)(G:h.Ns mainGlobals mg)(x:Str)(st:Stmt)(ps:lc)(a:nsIn K mainGlobals x=some (some<|.ref f))(l:K.lookup f=some {oc,od,.func<|fnOf x x (bc st) (aZ st) (ai st) (.ref da) kV dc pm an cd ct,sl})(t:K.lookup da=some {.type "tuple",Ia,.seq #[.none] dn,Ib})(e:codeIn K cd x=true)(k:keepIn K (.ref f)=true)(b:∀(s:Shared) (us:fv),s.heap.get? da=some {.type "tuple",Ia,.seq #[.none] dn,Ib}->us.length=ps.length->BindsTo s (fnOf x x (bc st) (aZ st) (ai st) (.ref da) kV dc pm an cd ct) {us,[]} (ps.zip us))(b2:∀(s:Shared) (us:fv),s.heap.get? da=some {.type "tuple",Ia,.seq #[.none] dn,Ib}->us.length+1=ps.length->BindsTo s (fnOf x x (bc st) (aZ st) (ai st) (.ref da) kV dc pm an cd ct) {us,[]} (ps.zip<|us++[.none]))(g:∀d,GZ K mg x st ps f d->Binds K d ps [.none]->R):R:=g _ {{{_,_,_,_,_,_,_,_,_,_,rfl,l,e},λs us hK hl=>by rw[List.append_nil]at hl⊢;exact b s us (hK _ _ t) hl},k,mg_of X G a} λs us hK hl=>b2 s us (hK _ _ t)<|by simpa using hl
theorem fmd(C:qO K c)(x q:Str)(st:Stmt)(ps:lc)(a:findIn K (.ref c) x=some (some<|.ref f))(i:isFn K (.ref f)=true)(l:K.lookup f=some {oc,od,.func<|fnOf x q (bc st) (aZ st) (ai st) (.ref da) kV dc pm an cd ct,sl})(t:K.lookup da=some {.type "tuple",Ia,.seq #[.none] dn,Ib})(e:codeIn K cd q=true)(k:keepIn K (.ref f)=true)(b:∀(s:Shared) (us:fv),s.heap.get? da=some {.type "tuple",Ia,.seq #[.none] dn,Ib}->us.length=ps.length->BindsTo s (fnOf x q (bc st) (aZ st) (ai st) (.ref da) kV dc pm an cd ct) {us,[]} (ps.zip us))(b2:∀(s:Shared) (us:fv),s.heap.get? da=some {.type "tuple",Ia,.seq #[.none] dn,Ib}->us.length+1=ps.length->BindsTo s (fnOf x q (bc st) (aZ st) (ai st) (.ref da) kV dc pm an cd ct) {us,[]} (ps.zip<|us++[.none]))(g:∀d,O4 K c x q st ps f d->Binds K d ps [.none]->R):R:=g _ {{{_,_,_,_,_,_,_,_,_,_,rfl,l,e},λs us hK hl=>by rw[List.append_nil]at hl⊢;exact b s us (hK _ _ t) hl},a,i,k} λs us hK hl=>b2 s us (hK _ _ t)<|by simpa using hl
theorem BQ(X:K.In h)(G:h.Ns mainGlobals mg)(x:Str)(a:nsIn K mainGlobals x=some none)(g:mg x=none->R):R:=g<|PySem.W.mg_none_of X G a
theorem Na(X:K.In h)(G:h.Ns mainGlobals mg)(x:Str)(i:Int)(a:nsIn K mainGlobals x=some (some<|.int i tk))(g:mg x=some (.int i tk)->R):R:=g<|mg_of X G a
theorem WE(X:K.In h)(G:h.Ns mainGlobals mg)(x:Str)(a:nsIn K mainGlobals x=some (some<|.ref c))(l:K.lookup c=some o)(g:mg x=some (.ref c)->K.lookup c=some o->R):R:=g (mg_of X G a) l
theorem Nb(X:K.In h)(G:h.Ns mainGlobals mg)(x:Str)(a:nsIn K mainGlobals x=some (some<|.ref c))(e:excIn K c L2.oh "ValueError.__new__"= true)(g:mg x=some (.ref c)->excIn K c L2.oh "ValueError.__new__"= true->R):R:=g (mg_of X G a) e
theorem gvc(X:K.In h)(G:h.Ns mainGlobals mg)(x:Str)(a:nsIn K mainGlobals x=some (some<|.ref c))(pg:plainGet K c Str.empty=true)(hd:hasDictIn K c=true)(po:plainOver K c=true)(sa:findIn K (.ref c) "__setattr__"= some (some<|.builtin "object.__setattr__"))(ms:makesIn K c=true)(kc:keepIn K (.ref c)=true)(g:mg x=some (.ref c)->qO K c->makesIn K c=true->keepIn K (.ref c)=true->R):R:=g (mg_of X G a) ⟨pg,hd,po,sa⟩ ms kc
theorem Nc(C:qO K c)(x:Str)(a:findIn K (.ref c) x=some none)(g:findIn K (.ref c) x=some none->R):R:=g a
theorem RG{P:Addr}(l:K.lookup c=some o)(e:codeHdIn [(c,o)] c P=true):codeHdIn K c P=true:=by unfold codeHdIn at e⊢;rw[l];rw[show([(c,o)]:Frag).lookup c=some o by simp]at e;exact e
theorem gvm{P:Addr}(X:K.In h)(e:d.code=.ref c)(o:K.lookup c=some {oC,od,.fields vC,sl})(q:vC[11]?=some (.ref P))(hh:codeHdIn [(c,{oC,od,.fields vC,sl})] c P=true)(g:codeHdIn K c P=true->R):R:=g<|RG o hh
end
section
variable{Q:List Value->Prop}
theorem Yq(h:Q [])(us:fv)(e:us.length=0):Q us:=by cases us with|nil=>exact h|cons a us=>cases e
theorem wD(h:∀a us,us.length=n->Q (a::us))(us:fv)(e:us.length=n+1):Q us:=by cases us with|nil=>(cases e)|cons a us=>exact h a us<|Nat.succ.inj e
theorem T5(h:∀a,Q [a]):∀us:fv,us.length=1->Q us:=wD λa=>Yq<|h a
theorem ln2(h:∀a b,Q [a,b]):∀us:fv,us.length=2->Q us:=wD λa=>T5<|h a
theorem RH(h:∀a b c,Q [a,b,c]):∀us:fv,us.length=3->Q us:=wD λa=>ln2<|h a
theorem WG(h:∀a b c d,Q [a,b,c,d]):∀us:fv,us.length=4->Q us:=wD λa=>RH<|h a
theorem Yr(h:∀a b c d e,Q [a,b,c,d,e]):∀us:fv,us.length=5->Q us:=wD λa=>WG<|h a
theorem O5(h:∀a b c d e f,Q [a,b,c,d,e,f]):∀us:fv,us.length=6->Q us:=wD λa=>Yr<|h a
theorem aa2(h:∀a,Q [a])(us:fv)(e:us.length+1=2):Q us:=T5 h us<|Nat.succ.inj e
theorem aa3(h:∀a b,Q [a,b])(us:fv)(e:us.length+1=3):Q us:=ln2 h us<|Nat.succ.inj e
theorem aa4(h:∀a b c,Q [a,b,c])(us:fv)(e:us.length+1=4):Q us:=RH h us<|Nat.succ.inj e
end
section
variable{K:Frag}{X:Cx}{x:Str}{st:Stmt}{ps:lc}{f:Addr}{fd:FuncData}{sp:qS}{e:Expr}{es:mt}{p pos:Pos}
theorem aP{t:iw}(T:GZ K X.mg x st ps f fd)(F:bI X.prog X.w K X.mg X.base (fH X.prog X.w X.mg) k f fd ps<|qU K sp)(hr:bR k' X.A)(ha:DA K X (e::es) t)(hle:autoParam (k<=k') qJK)(hg:autoParam (Gl X x) qQJ)(qp:autoParam ((x==("__debug__": Str))=false) qQZ)(he:autoParam (starEach (e::es) X.env=(false,eval e X.env)::starEach es X.env) qQJ)(dG:autoParam ((backTo pos<|starEach es X.env).any (·.1)=false) qQJ)(hK:autoParam (X.K=K) qQJ): DE K X (.Call (.Name x p) (e::es) [] pos) (OL sp [] t):=cf (F.mono hle) hr T.m T.k T.b d0 ha hg qp he dG hK
end
theorem bR.u(r:bR k A):A.units+64<cLine:=r.units
end L2
namespace L2
open PySem PySem.Spec PyProof.Rows PySem.SeqAt
def isStrOf(z:Str):Value->Bool|.str y _=>y==z|_=>false
end L2
namespace L2
open PySem PySem.Spec PyProof.Rows
section
variable{K:Frag}
theorem RvAll.thr(h:RvAll K H [a,b,c] vs):∃x y z,vs=[x,y,z]/\Rv K H a x/\Rv K H b y/\Rv K H c z:=by obtain⟨x,vs1,rfl,h1,h⟩:=h.cons;obtain⟨y,vs2,rfl,h2,h⟩:=h.cons;obtain⟨z,vs3,rfl,h3,h⟩:=h.cons;rw[h.nil];exact⟨x,y,z,rfl,h1,h2,h3⟩
theorem RJ:bootBuiltins "max"= some (.builtin "max"):=by with_unfolding_all rfl
noncomputable def jD:List D->List D->List D->List D|x::xs,y::ys,z::zs=>.tup [x,y,z]::jD xs ys zs|_,_,_=>[]
theorem ou:∀{xs ys zs:wp},xs.length=ys.length->xs.length=zs.length->(jD xs ys zs).length=xs.length|[],_,_,_,_=>by rw[jD.eq_def]|x::xs,y::ys,z::zs,h,k=>congrArg Nat.succ<|ou (Nat.succ.inj h)<|Nat.succ.inj k
theorem ow:∀{xs ys zs:wp}{i:Nat}{d:D},(jD xs ys zs)[i]?=some d->∃x y z,xs[i]?=some x/\ys[i]?=some y/\zs[i]?=some z/\d=.tup [x,y,z]|x::xs,y::ys,z::zs,0,d,h=>{x,y,z,rfl,rfl,rfl,(zS h).symm}|x::xs,y::ys,z::zs,i+1,d,h=>ow (i:=i) h|[],_,_,i,d,h=>by rw[jD.eq_def]at h;simp at h|_::_,[],_,i,d,h=>by rw[jD.eq_def]at h;simp at h|_::_,_::_,[],i,d,h=>by rw[jD.eq_def]at h;simp at h
def RK(t:iw):x8:=λσ S R Z=>t σ S (λds S1=>∃xs ys zs,ds=[.tup xs,.tup ys,.tup zs]/\xs.length=ys.length/\xs.length=zs.length/\R {jD xs ys zs,λ_=>True} S1) Z
end
section
variable{R:Prop}{K:Frag}{h:Heap}{mg:Str->Option Value}{od an:re}{sl:ut}{oc kV dc pm cd ct:Value}{f da:Addr}{Ia:re}{dn:Nat}{Ib:ut}
theorem fne(X:K.In h)(G:h.Ns mainGlobals mg)(x:Str)(st:Stmt)(ps:lc)(ar:im)(a:nsIn K mainGlobals x=some (some<|.ref f))(l:K.lookup f=some {oc,od,.func<|fnOf x x (bc st) (aZ st) (ai st) (.ref da) kV dc pm an cd ct,sl})(t:K.lookup da=some {.type "tuple",Ia,.seq ar dn,Ib})(e:codeIn K cd x=true)(k:keepIn K (.ref f)=true)(b:∀(s:Shared) (us:fv),s.heap.get? da=some {.type "tuple",Ia,.seq ar dn,Ib}->us.length=ps.length->BindsTo s (fnOf x x (bc st) (aZ st) (ai st) (.ref da) kV dc pm an cd ct) {us,[]} (ps.zip us))(g:∀d,GZ K mg x st ps f d->R):R:=g _ {{{_,_,_,_,_,_,_,_,_,_,rfl,l,e},λs us hK hl=>by rw[List.append_nil]at hl⊢;exact b s us (hK _ _ t) hl},k,mg_of X G a}
end
mutual
inductive Dr(S:ao):D->PyData->Prop where
 |av:Dr S .av .none
 |bl (b:Bool):Dr S (.bl b) (.bool b)
 |int (i:Int):Dr S (.int i) (.int i)
 |str (z:Str):Dr S (.str z) (.str z)
 |tup {ds:wp}{ps:wl} : Ie S ds ps->Dr S (.tup ds) (.tuple ps)
 |ref {a:Addr}{ds:wp}{ps:wl} : S a=some (.lst ds)->Ie S ds ps->Dr S (.ref a) (.list ps)
inductive Ie(S:ao):List D->List PyData->Prop where
 |nil:Ie S [] []
 |cons {d:D}{ds:wp}{p:PyData}{ps:wl} : Dr S d p->Ie S ds ps->Ie S (d::ds) (p::ps)
end
section
variable{K:Frag}{H:Hp}{S:ao}
mutual
theorem Dr.dt(hS:Rs K S H):Dr S d p->Rv K H d v->Dt K H p v|.av,r=>by simp only[Dt];exact r.av|.bl b,r=>by simp only[Dt];exact r.bl|.int b,r=>by simp only[Dt];exact r.int|.str b,r=>by simp only[Dt];exact r.str|.tup h,r=>(by obtain⟨a,xs,rfl,q,t⟩:=r.tup;simp only[Dt];exact{a,xs,rfl,.of q,Ie.dt hS h t})|.ref e h,r=>by obtain⟨xs,e1,t⟩:=hS.lst e;rw[r.ref];simp only[Dt];exact{_,xs,rfl,.of e1,Ie.dt hS h t}
theorem Ie.dt(hS:Rs K S H){ds:List D}{ps:wl}{vs:List V} : Ie S ds ps->RvAll K H ds vs->DtAll K H ps vs|.nil,r=>by rw[r.nil];simp only[DtAll]|.cons h t,r=>by obtain⟨y,ys,rfl,r1,r2⟩:=r.cons;simp only[DtAll];exact{y,ys,rfl,Dr.dt hS h r1,Ie.dt hS t r2}
end
end
def Ys(neg:Bool):ve:=λx y S R=>∃p q,Dr S x p/\Dr S y q/\p.canLay0=true/\q.canLay0=true/\(p.depth<=64\/q.depth<=64)/\R (.bl<|if neg then !PyData.eqv p q else PyData.eqv p q) S
section
variable{K:Frag}
theorem WH:pI K (compareOp .Eq) (Ys false):=by rintro X hK hu pins s σ H x y v u Q I rx ry ⟨d,e,S,R,r1,r2,hS,⟨p,q,h1,h2,c1,c2,dp,h⟩,hR⟩;subst hK;exact I_ hu pins s σ H x y v u Q I rx ry {p,q,h1.dt hS r1,h2.dt hS r2,c1,c2,dp,hR.now hS h<|bO _}
theorem WI:pI K (compareOp .NotEq) (Ys true):=by rintro X hK hu pins s σ H x y v u Q I rx ry ⟨d,e,S,R,r1,r2,hS,⟨p,q,h1,h2,c1,c2,dp,h⟩,hR⟩;subst hK;exact Ja hu pins s σ H x y v u Q I rx ry {p,q,h1.dt hS r1,h2.dt hS r2,c1,c2,dp,hR.now hS h<|bO _}
end
theorem JQ(h1:Dr S x p)(h2:Dr S y p)(c:p.canLay0=true)(d:p.depth<=64)(q:R (.bl<|!neg) S):Ys neg x y S R:={p,p,h1,h2,c,c,.inl d,by rw[show(if neg then !PyData.eqv p p else PyData.eqv p p)=!neg by rw[SeqAt.eqv_refl p c];cases neg<;>rfl];exact q}
def lS:Stmt->Str|.FunctionDef n _ _ _ _ _ _ _ _ _=>n|_=>Str.empty
def ux(s:Stmt):lc:=(bc s).args.map λa=>a.arg
def G0(K:Frag)(mg:Str->Option Value)(top:Nat->Stmt)(f:Nat->Addr)(d:Nat->FuncData)(l:wS):Prop:=∀i∈l,GZ K mg (lS<|top i) (top i) (ux<|top i) (f i)<|d i
def CZ(K:Frag)(c:Addr)(q:Str)(cl:Stmt)(f:Nat->Addr)(d:Nat->FuncData)(l:wS):Prop:=∀i∈l,O4 K c (lS<|inClass cl i) (q++lS (inClass cl i)) (inClass cl i) (ux<|inClass cl i) (f i)<|d i
section
variable{K:Frag}{h:Heap}{mg:Str->Option Value}{od an:re}{sl:ut}{oc dV kV dc pm cd ct:Value}{x:Addr}{top:Nat->Stmt}{l:wS}{c:Addr}{q:Str}{cl:Stmt}
theorem af(X:K.In h)(G:h.Ns mainGlobals mg)(i:Nat)(ni:i∉l)(a:nsIn K mainGlobals (lS<|top i)=some (some<|.ref x))(o:K.lookup x=some {oc,od,.func<|fnOf (lS<|top i) (lS<|top i) (bc<|top i) (aZ<|top i) (ai<|top i) dV kV dc pm an cd ct,sl})(e:codeIn K cd (lS<|top i)=true)(k:keepIn K (.ref x)=true)(b:∀us:fv,us.length=(ux<|top i).length->bindArgs (fnOf (lS<|top i) (lS<|top i) (bc<|top i) (aZ<|top i) (ai<|top i) dV kV dc pm an cd ct) {us,[]}=pure ((ux<|top i).zip us))(g:∃f d,G0 K mg top f d l):∃f d,G0 K mg top f d (i::l):=by refine fn1 X G _ _ _ a o e k b λd0 F=>?_;obtain⟨f,d,A⟩:=g;refine{λj=>if j=i then x else f j,λj=>if j=i then d0 else d j,λj hj=>?_};by_cases z:j=i;subst z;dsimp only;rw[if_pos rfl,if_pos rfl];exact F;dsimp only;rw[if_neg z,if_neg z];exact A j<|(zk.mp hj).resolve_left z
theorem af0:∃f d,G0 K mg top f d []:={λ_=>0,λ_=>fnOf Str.empty Str.empty (bc<|.Pass {0,0,0,0}) [] (ai<|.Pass {0,0,0,0}) .none .none .none .none none .none .none,λ_ h=>nomatch h}
theorem afx{R:Prop}(_:K.In h)(_:h.Ns mainGlobals mg)(g:∃f d,G0 K mg top f d l)(r:∀f d,G0 K mg top f d l->R):R:=by obtain⟨f,d,A⟩:=g;exact r f d A
theorem amx{R:Prop}(_:qO K c)(g:∃f d,CZ K c q cl f d l)(r:∀f d,CZ K c q cl f d l->R):R:=by obtain⟨f,d,A⟩:=g;exact r f d A
theorem am(C:qO K c)(i:Nat)(ni:i∉l)(a:findIn K (.ref c) (lS<|inClass cl i)=some (some<|.ref x))(w:isFn K (.ref x)=true)(o:K.lookup x=some {oc,od,.func<|fnOf (lS<|inClass cl i) (q++lS (inClass cl i)) (bc<|inClass cl i) (aZ<|inClass cl i) (ai<|inClass cl i) dV kV dc pm an cd ct,sl})(e:codeIn K cd (q++lS (inClass cl i))=true)(k:keepIn K (.ref x)=true)(b:∀us:fv,us.length=(ux<|inClass cl i).length->bindArgs (fnOf (lS<|inClass cl i) (q++lS (inClass cl i)) (bc<|inClass cl i) (aZ<|inClass cl i) (ai<|inClass cl i) dV kV dc pm an cd ct) {us,[]}=pure ((ux<|inClass cl i).zip us))(g:∃f d,CZ K c q cl f d l):∃f d,CZ K c q cl f d (i::l):=by refine fm1 C _ _ _ _ a w o e k b λd0 F=>?_;obtain⟨f,d,A⟩:=g;refine{λj=>if j=i then x else f j,λj=>if j=i then d0 else d j,λj hj=>?_};by_cases z:j=i;subst z;dsimp only;rw[if_pos rfl,if_pos rfl];exact F;dsimp only;rw[if_neg z,if_neg z];exact A j<|(zk.mp hj).resolve_left z
theorem am0:∃f d,CZ K c q cl f d []:={λ_=>0,λ_=>fnOf Str.empty Str.empty (bc<|.Pass {0,0,0,0}) [] (ai<|.Pass {0,0,0,0}) .none .none .none .none none .none .none,λ_ h=>nomatch h}
end
section
variable{K:Frag}{X:Cx}{x q:Str}{st:Stmt}{ps:lc}{C f:Addr}{fd:FuncData}{sp:qS}{o e:Expr}{es:mt}{apos pos:Pos}{k k':Nat}
theorem ox{t:iw}(he:DE K X o ta)(c:qO K C)(T:O4 K C x q st ps f fd)(F:bI X.prog X.w K X.mg X.base (fH X.prog X.w X.mg) k f fd ps<|qU K sp)(hr:bR k' X.A)(ha:DA K X (e::es) t)(hle:autoParam (k<=k') qJK)
  (uf:autoParam (starEach (e::es) X.env=(false,eval e X.env)::starEach es X.env) qQJ) (dG:autoParam ((backTo pos<|starEach es X.env).any (·.1)=false) qQJ)
  (ht:autoParam (eval (.Call (.Attribute o x apos) (e::es) [] pos) X.env=(do
   let ov <-eval o X.env
   standAt apos.atName
   let (f,first) <-holding [ov] (getMethod ov x pl)
   callWith pos f first (backTo pos<|starEach (e::es) X.env) (backToKw pos<|keywordEach [] X.env))) qQJ) (hK:autoParam (X.K=K) qQJ):
  DE K X (.Call (.Attribute o x apos) (e::es) [] pos) (EL C x sp [] ta t):=cme he c T.e (F.mono hle) hr T.b d0 ha uf dG ht hK
theorem fJ(he:DE K X o ta)(c:qO K C)(T:O4 K C x q st ps f fd)(F:bI X.prog X.w K X.mg X.base (fH X.prog X.w X.mg) k f fd ps<|qU K sp)(hr:bR k' X.A)(hle:autoParam (k<=k') qJK)
  (ht:autoParam (eval (.Call (.Attribute o x apos) [] [] pos) X.env=(do
   let ov <-eval o X.env
   standAt apos.atName
   let (f,first) <-holding [ov] (getMethod ov x pl)
   callWith pos f first (backTo pos<|starEach [] X.env) (backToKw pos<|keywordEach [] X.env))) qQJ) (hK:autoParam (X.K=K) qQJ):
  DE K X (.Call (.Attribute o x apos) [] [] pos) (EL C x sp [] ta MM):=aap he c T.e (F.mono hle) hr T.b d0 ht hK
end
section
variable{K:Frag}{X:Cx}
def WJ:D->Option Int->Option Int->ao->KD->Prop:=λx lo hi S R=>match x with|.ref a=>∃ds,S a=some (.lst ds)/\∀p,S p=none->R (.ref p) (S.set p<|.lst<|dh ds lo hi)|.jl ds=>∀p,S p=none->R (.ref p) (S.set p<|.lst<|dh ds lo hi)|_=>False
theorem WK(hK:X.K=K):Tp X (λx lo hi H Q=>∃d S R,Rv K H d x/\Rs K S H/\WJ d lo hi S R/\Cn K H R Q):=by rintro pins s σ H x v vl vu lo hi sl Q I rx hs pl pu ⟨d,S,R,r1,hS,h,hR⟩;subst hK;cases d with|ref a=>(obtain⟨ds,e,h⟩:=h;obtain⟨xs,e1,t⟩:=hS.lst e;exact qP pins s σ H _ v vl vu lo hi sl Q I rx hs pl pu {a,xs,r1.ref,.of e1,λp hp=>hR.new hS hp (h p)<|t.cut lo hi})|jl ds=>(obtain⟨a,xs,rfl,q,t⟩:=r1.jl;exact qP pins s σ H _ v vl vu lo hi sl Q I rx hs pl pu {a,xs,rfl,q.sq,λp hp=>hR.new hS hp (h p)<|t.cut lo hi})|_=>exact h.elim
def aa5(te:TD)(tl th:OF):TD:=λσ S R Z=>te σ S (λx S1=>tl σ S1 (λl S2=>th σ S2 (λu S3=>WJ x l u S3 R) Z) Z) Z
theorem WL{e:Expr}{lo hi:sK}{te:TD}{tl th:OF}{p2 pos:Pos}(he:DE K X e te)(hl:DO K X lo tl)(hu:DO K X hi th)(hK:autoParam (X.K=K) qQJ):DE K X (.Subscript e (.Slice lo hi none p2) pos) (aa5 te tl th):=
 ⟨λy=>(y9 (X:=y.cx) (WK hK) (he.of y) (hl.of y)<|hu.of y).mono <| by rintro τ H Q ⟨σ,S,R,Z,aC,hS,q,hR,hZ⟩;exact
  ⟨σ,S,_,Z,aC,hS,q,λd S1 x H1 r1 v1 s1 k1=>⟨σ,S1,_,Z,aC.ts k1,s1,r1,λl S2 H2 r2 s2 k2=>⟨σ,S2,_,Z,aC.ts<|k1.trans k2,s2,r2,λu S3 H3 r3 s3 k3=>⟨d,S3,R,Rv.ts (k2.trans k3) _ v1,s3,r3,hR.kp<|(k1.trans k2).trans k3⟩,hZ.kp<|k1.trans k2⟩,hZ.kp k1⟩,hZ⟩⟩
def aa6:ve:=λx y S R=>match x,y with|.int i,.int j=>R (.int<|i+j) S|.str a,.str b=>a.length+b.length<=sizeLine/\R (.str<|a++b) S|.ref a,.ref b=>∃xs ys,S a=some (.lst xs)/\S b=some (.lst ys)/\xs.length+ys.length<=sizeLine/\∀p,S p=none->R (.ref p) (S.set p<|.lst<|xs++ys)|_,_=>False
theorem bz:pI K (binaryOp .Add) aa6:=by rintro X hK hu pins s σ H x y v u Q I rx ry ⟨d,e,S,R,r1,r2,hS,h,hR⟩;subst hK;cases d<;>cases e<;>first|exact False.elim h|exact Qf pins s σ H x y v u Q I rx ry {_,_,r1.int,r2.int,hR.now hS h<|aT _}|exact B4 pins s σ H x y v u Q I rx ry {_,_,r1.str,r2.str,h.1,hR.now hS h.2<|dZ _}|skip;obtain⟨xs,ys,e1,e2,hl,q⟩:=h;obtain⟨vs,h1,t1⟩:=hS.lst e1;obtain⟨ws,h2,t2⟩:=hS.lst e2;exact QD pins s σ H x y v u Q I rx ry {_,_,vs,ws,r1.ref,r2.ref,h1,h2,by rw[t1.len,t2.len];exact hl,λp hp=>hR.new hS hp (q p)<|t1.app t2}
end
structure W(sp:qS)(ds:List D)(S:ao)(R:KD)(Z:KX):Prop where
 of:sp ds S R Z
theorem bI.w{P:Program}{w:World}{K:Frag}{mg:Str->Option Value}{base:Heap}{k:Nat}{f:Addr}{fd:FuncData}{ps:lc}{sp:qS}(F:bI P w K mg base (fH P w mg) k f fd ps<|qU K sp):bI P w K mg base (fH P w mg) k f fd ps (qU K<|W sp):=F.Rm λ_ _ _ _ h=>h.of
def WM(s:Stmt):lc:=((ai s).names.filter λp=>p.2==.local||p.2==.cell).map (·.1)
theorem bA(s:Stmt)(a:autoParam ((ai s).kind=.function/\(ai s).isCoroutine=false/\(ai s).isGenerator=false/\(WM s).take (ux s).length=ux s) qQ4)(b:autoParam ((WM s).Nodup/\(∀x∈ux s,(ai s).names.lookup x=some .local\/(ai s).names.lookup x=some .cell)/\∀y∈(ai s).names,y.2≠.free) qQ8):gx (WM s) (ux s) (ai s):=fsc a b
section
variable{P:Program}{w:World}{K:Frag}{mg:Str->Option Value}{base:Heap}{x qual:Str}{st:Stmt}{f:Addr}{fd:FuncData}{N ps:lc}{k:Nat}{sp:qS}
theorem wm.bF(F:wm K x qual st f fd)(S:gx N ps<|ai st)(mC:∀(gy:Value)(A:Around)(outer:j4)(s:Shared)(H:Hp)(E:XK)(ds:List D)(S:ao)(R:KD)(Z:KX),bR k (A.deeper<|PyProof.Rows.envOfC qual (ai st) s.heap.objs.size f gy)->sp ds S R Z->∃t,HY K (kH (fH P w mg) P w K mg base N qual (ai st) f gy A outer s H E) true (aZ st) t/\t {nx:=λ_ S'=>Fo S'<|R .av,rt:=λd S'=>Fo S'<|R d} (jC N ds) S λ_ C S'=>Fo S'<|Z C)(len:∀ds S R Z,sp ds S R Z->ds.length=ps.length:=by intro _ _ _ _ h;first|(cases h;subst_vars;rfl;done)|(repeat first|(obtain⟨e,_⟩:=h;rw[e];rfl;done)|obtain⟨_,h⟩:=h)):bI P w K mg base (fH P w mg) (k+1) f fd ps (qU K sp):=F.ok S len mC
end
structure acR(X:Cx)(N:lc)(src:v0)(scope:Scope):Prop where
 kind:scope.kind=.function
 nd:(scope.names.map Prod.fst).Nodup
 loc:∀y∈scope.names,y.2=.local->scope.names.lookup y.1=some .local
 BN:∀y∈scope.names,y.2=.free->X.env.kindOf y.1=some .cell\/X.env.kindOf y.1=some .free
 len:src.length=N.length
 src:∀(i j:Nat)(x:Str),src[i]?=some (some j)->N[i]?=some x->X.N[j]?=some x/\scope.names.lookup x=some .free/\PH X.env.scope x
section
variable{K:Frag}
def Each(S:ao)(x:D)(ds:List D)(g:D->Bool):Prop:=∃p,Dl S x p/\p.canLay0=true/\∀d∈ds,∃q,Dl S d q/\q.canLay0=true/\(q.depth<=62\/p.depth<=62)/\PyData.eqv q p=g d
def inE(neg:Bool):ve:=λx y S R=>∃a ds g,y=.ref a/\S a=some (.lst ds)/\Each S x ds g/\R (.bl<|if neg then !ds.any g else ds.any g) S
theorem EZ:∀{ds:List D}{xs:List V}{us:fv},RvAll K H ds xs->Vals xs us->∃L:List (D×V×Value),L.map (·.1)=ds/\L.map (·.2.2)=us/\∀q∈L,Rv K H q.1 q.2.1/\RelV q.2.1 q.2.2|[],_,_,h,.nil=>{[],rfl,rfl,λ_ h=>(nomatch h)}|[],_,_,h,.cons _ _=>(by cases h.nil)|d::ds,xs,us,h,v=>by obtain⟨z,zs,rfl,h1,h2⟩:=h.cons;cases v with|cons r t=>obtain⟨L,e1,e2,e3⟩:=EZ h2 t;exact{(d,z,_)::L,by rw[zx,e1],by rw[zx,e2],List.forall_mem_cons.mpr {⟨h1,r⟩,e3}}
theorem RL{X:Cx}{pins:jp}{s:Shared}{σ:St}{H:Hp}{S:ao}{x:D}{v:V}{u:Value}{a:Addr}{ds:List D}{g:D->Bool}(hu:X.A.units+64<cLine)(I:Inv X pins σ H s)(rx:RelV v u)(hS:Rs X.K S H)(r1:Rv X.K H x v)(ha:S a=some (.lst ds))(al:Each S x ds g): ∃(aw:fv)(f:Value->Bool),s.heap.IsList a aw.toArray/\(∀w∈aw.toArray,SeqAt.EqAt X.A.in1 s w u<|f w)/\aw.toArray.any f=ds.any g:=by
 obtain⟨p,h1,h2,h3⟩:=al;obtain⟨xs,e1,t⟩:=hS.lst ha;obtain⟨aw,r,pl,hz⟩:=I.list<|.of e1;obtain⟨L,l1,l2,l3⟩:=EZ t r;have ans:∀q∈L,SeqAt.EqAt X.A.in1 s q.2.2 u (g q.1):=λq hq=>by obtain⟨rv,rl⟩:=l3 q hq;obtain⟨e,q1,q2,q3,q4⟩:=h3 q.1 (by rw[<-l1];exact zh.mpr ⟨q,hq,rfl⟩);obtain⟨as,ra⟩:=I.reads e (q1.dt hS rv) rl;obtain⟨bs,rb⟩:=I.reads p (h1.dt hS r1) rx;rw[<-q4];exact SeqAt.eqAt_reads e p _ s _ _ as bs ra rb q2 h2<|by rw[Around.in1_units];rcases q3 with q3|q3<;>lia
 have dq:DecidableEq Value:=λ_ _=>Classical.propDecidable _;refine{aw,λw=>L.any λq=>decide (q.2.2=w)&&g q.1,pl.isList,λw hw=>?_,?_};have hw:w∈aw:=by simpa using hw
 rw[<-l2]at hw;obtain⟨q,hq,rfl⟩:=zh.mp hw;cases e:(L.any λq'=>decide (q'.2.2=q.2.2)&&g q'.1) with|true=>(obtain⟨q',Aq,e'⟩:=yx.mp e;rw[zI,zR]at e';have:=ans q' Aq;rw[e'.1,e'.2]at this;dsimp only;rw[e];exact this)|false=>have:=ans q hq;have e2:g q.1=false:=(by cases e3:g q.1 with|false=>rfl|true=>have:=List.any_eq_false.mp e q hq;rw[zu rfl,e3]at this;exact absurd rfl this);rw[e2]at this;dsimp only;rw[e];exact this
 rw[List.any_toArray,yk,yx,yx];constructor;rintro⟨w,_,e⟩;obtain⟨q,hq,e⟩:=yx.mp e;rw[zI]at e;exact{q.1,by rw[<-l1];exact zh.mpr ⟨q,hq,rfl⟩,e.2};rintro⟨d,hd,e⟩;rw[<-l1]at hd;obtain⟨q,hq,rfl⟩:=zh.mp hd;exact{q.2.2,by rw[<-l2];exact zh.mpr ⟨q,hq,rfl⟩,yx.mpr {q,hq,by rw[zu rfl,e];rfl}}
theorem RM:pI K (compareOp .NotIn) (inE true):=by rintro X hK hu pins s σ H x y v u Q I rx ry ⟨d,e,S,R,r1,r2,hS,⟨a,ds,g,rfl,ha,al,h⟩,hR⟩;subst hK;cases r2.ref;cases ry;obtain⟨aw,f,e1,e2,e3⟩:=RL hu I rx hS r1 ha al;refine SeqAt.notIn_listAt f e1 e2 {.bl _,H,I,rfl,?_};rw[e3];exact hR.now hS h<|bO _
def aa7(i j:Nat)(ta:iw):mr:=λDe σ S Z=>ta σ S (λds S1=>∃v w,ds=[v,w]/\De.nx ((σ.set i<|some v).set j<|some w) S1)<|Z σ
theorem aa8(hN:X.N.Nodup)(ha:DA K X [a,b] ta)(hi:autoParam (X.N[i]?=some x) qQJ)(hj:autoParam (X.N[j]?=some y) qQJ)(jt:autoParam (i≠j) qQZ)(hx:autoParam (X.env.scope.names.lookup x=some .local) qQJ)(hy:autoParam (X.env.scope.names.lookup y=some .local) qQJ)(hw:autoParam (swappedStores [.Tuple [.Name x px,.Name y py] kt pt] (.Tuple [a,b] k2 pt2) X.env=pure (some [x,y])) qQJ)(hs:autoParam (swapsWithSole [.Tuple [.Name x px,.Name y py] kt pt] (.Tuple [a,b] k2 pt2) pos.line X.env=pure false) qQJ)(hc:autoParam (X.calm=true) qQJ):DS K X bb (.Assign [.Tuple [.Name x px,.Name y py] kt pt] (.Tuple [a,b] k2 pt2) pos) (aa7 i j ta):=⟨λz=>(P8 (X:=z.cx) hc hN hi hj jt hx hy (ha.of z) hw hs).mono <| by rintro D τ H ⟨σ,S,De,Z,aC,hS,q,hD,hZ⟩;exact{σ,S,_,_,aC,hS,q,by rintro ds S1 vs H1 ⟨v,w,e,r⟩ v1 s1 k1;subst e;obtain⟨a,b,rfl,r1,r2⟩:=v1.two;exact{a,b,rfl,hD.nx _ _ _ _ r (((aC.ts k1).set i r1).set j r2) s1 k1},hZ.at aC}⟩
end
section
variable{K:Frag}{p:Pos}{e:Expr}
structure ae8(P:Program)(w:World)(K:Frag)(mg:Str->Option Value)(base:Heap)(k:Nat)(f:Addr)(sp:Sp):Prop where
 ex:∃fd ps,bI P w K mg base (fH P w mg) k f fd ps sp/\Binds K fd ps []
 kp:keepIn K (.ref f)=true
inductive CvR{ι:Type}(i:Nat)(fa:ι->Addr)(σ:SD)(p:ι->Prop):Prop where
 |mk (o:ι)(e:σ[i]?=some (some<|.ref<|fa o))(r:p o)
end
section
variable{R:Prop}{K:Frag}{h:Heap}{mg:Str->Option Value}{tk:Tok}
theorem gvs(X:K.In h)(G:h.Ns mainGlobals mg)(x:Str)(z:Str)(a:nsIn K mainGlobals x=some (some<|.str z tk))(g:mg x=some (.str z tk)->R):R:=g<|mg_of X G a
end
section
variable{K:Frag}{X:Cx}{pos:Pos}
structure DPs(K:Frag)(X:Cx)(pos:Pos)(keys:List (Option Expr))(values:mt)(l:List (Str×TD)):Prop where
 of:∀{b:Bool}(y:Ev X b),PPs y.cx pos keys values<|l.map λkt=>(T K y.E<|dC<|.str kt.1,T K y.E kt.2)
end
section
variable{K:Frag}{X:Cx}{b:Bool}{N:lc}{src:v0}{scope:Scope}{iter elt:Expr}{ifs:mt}{pos p:Pos}{ti:x8}{tc:mq}{te:TD}{a:Str}
theorem km(s:Stmt)(hs:autoParam (X.env.scope=ai s) qQJ)(hN:autoParam (X.N=WM s) qQJ)(h:autoParam (chkC (ai s) (WM s) N src scope=true) qQ8):bj X N src scope:=Vk _ _ hs hN h
structure C1(X:Cx)(N:lc)(src:v0)(scope:Scope)(a:Str):Prop where
 nd:N.Nodup
 h0:N[0]?=some a
 hr:src[0]?=some none
 hx:∀C s H ex pn,Loc (gz X N scope C s H ex pn).env.scope a/\(gz X N scope C s H ex pn).env.scope.names.lookup a=some .local
theorem sA(S:bj X N src scope)(hit:DI K X (.Name a p) iter ti)(hi:∀{C s H ex pn},TM K (gz X N scope C s H ex pn) ifs tc)(he:∀{C s H ex pn},DE K (gz X N scope C s H ex pn) elt te)(c:autoParam (C1 X N src scope a) qJ5)(hf:autoParam (∀x,foldedSetIterable iter X.env x=pure x) qQ0)(hc:autoParam (X.calm=true) qQJ): DE K X (.ListComp elt [{.Name a p,iter,ifs,0}] scope pos) (vg ti src (TK 0) tc te):=TN S hit (cg1 c.nd c.h0 c.hx) (EF c.hr) EM (λ_ _ _ _ _=>hi) (λ_ _ _ _ _=>he) hf hc
theorem AI(i:Nat)(hd:X.N.Nodup)(S:bj X N src scope)(hit:DI K X (.Name a p) iter ti)(hi:∀{C s H ex pn},TM K (gz X N scope C s H ex pn) ifs tc)(he:∀{C s H ex pn},DE K (gz X N scope C s H ex pn) elt te)(c:autoParam (C1 X N src scope a) qJ5)(Vh:autoParam (X.N[i]?=some x) qQJ)(uk:autoParam (X.env.scope.names.lookup x=some .local) qQJ)(Vi:autoParam (swapsWith (.ListComp elt [{.Name a p,iter,ifs,0}] scope pos) (some<|.Name x pos') GA.line X.env=pure true) qQJ)(hf:autoParam (∀x,foldedSetIterable iter X.env x=pure x) qQ0)(hc:autoParam (X.calm=true) qQJ): DS K X b (.Assign [.Name x pos'] (.ListComp elt [{.Name a p,iter,ifs,0}] scope pos) GA) (Rf i<|vg ti src (TK 0) tc te):=stc hd S hit (cg1 c.nd c.h0 c.hx) (EF c.hr) EM (λ_ _ _ _ _=>hi) (λ_ _ _ _ _=>he) Vh uk Vi hf hc
end
theorem cu{p:Bool}{A B:Prop}(q:B)(h:autoParam (p=false) qQ8):if p=true then A else B:=by rw[h,if_neg zd];exact q
theorem k7{p:Bool}{A B:Prop}(q:A)(h:autoParam (p=true) qQ8):if p=true then A else B:=by rw[h,if_pos rfl];exact q
noncomputable def fK(N:Nat)(v:Nat->Value):im:=((List.range N).map v).toArray
structure ZN(n N:Nat)(l:Nat->Addr)(i:Nat)(h:Heap):Prop where
 z:IsZip h (n+N+2) (n+N) (n+N+1) .none
 t:mI h (n+N) (fK N λj=>.ref<|n+j)
 o:∃arr:im,arr.size=N/\mI h (n+N+1) arr
 it:∀j,j<N->h.IsTupleIter (n+j) (l j) i
theorem ko:(fK N v).size=N:=by unfold fK;simp
theorem jE:(fK N v).toList.length=N:=by unfold fK;simp
theorem Nd(h:arr.size=N)(e:∀j,j<N->arr[j]?=some (v j)):arr=fK N v:=by refine Array.ext (by rw[h,ko]) λj h1 h2=>?_;have:=e j (by lia);rw[Array.getElem?_eq_getElem h1]at this;rw[zS this];simp[fK]
section
variable{prog:Program}{w:World}{A:Around}{E:li}{s:Shared}{n N:Nat}{l:Nat->Addr}{i:Nat}{xs:Nat->Array Value}
theorem G1{v:Nat->Value}{Q:li}(h1:1<=N)(h3:N<=3)(lt:∀j,j<N->l j<n)(hs:ZN n N l i s.heap)(tu:∀j,j<N->s.heap.IsTuple (l j) (xs j))(ev:∀j,j<N->(xs j)[i]?=some (v j))(hQ:∀h',IsZip h' (n+N+2) (n+N) (n+N+1) (rawInt s.heap.objs.size)->mI h' (n+N+1) (fK N v)->(∀j,j<N->h'.IsTupleIter (n+j) (l j) (i+1))->mI h' s.heap.objs.size (fK N v)->(∀c o,c≠n+N+2->c≠n+N+1->(∀j,j<N->c≠n+j)->s.heap.get? c=some o->h'.get? c=some o)->Q (.ref s.heap.objs.size) {s with heap:=h'}): wpAny (model prog w) A (Builtin.«zip.__next__» {[.ref<|n+N+2],[]}) (λfin s'=>∃v,fin=.done (.ret v)/\Q v s') E s:=by
 obtain⟨hz,hI,⟨arr,na,hO⟩,hit⟩:=hs;show wpAny _ _ (field (.ref<|n+N+2) 2 >>=_) _ _ _;refine zc<|yb hz rfl (x:=.bool false) rfl ?_;show wpAny _ _ (field (.ref<|n+N+2) 3 >>=_) _ _ _;refine zc<|yb hz rfl (x:=.ref<|n+N) rfl ?_;refine zc<|wpAny_seqItems hI rfl ?_;have he:(fK N λj=>Value.ref<|n+j).isEmpty=false:=by rw[Array.isEmpty_eq_false_iff];intro e;have:=congrArg Array.size e;rw[ko]at this;simp at this;lia
 dsimp only;rw[if_neg<|by rw[he];exact zd];refine zc ?_;unfold Builtin.SmallTypes.ownedTupleIsFree;refine zc<|yb hz rfl (x:=.none) rfl<|zo ?_;simp only[if_true];refine zc<|yX ?_;refine zc<|yb hz rfl (x:=.ref<|n+N+1) rfl ?_;refine zc<|wpAny_setField_rec hz (by simp) λh0 Nf q0=>?_;replace Nf:IsZip h0 (n+N+2) (n+N) (n+N+1) .ellipsis:=Nf;have k0:∀c o,c≠n+N+2->s.heap.get? c=some o->h0.get? c=some o:=λc o d e=>q0.extBut _ _ d e;refine zc<|wpAny_forIn_list _ (λrest b s'=>∃(k:Nat)(h':Heap)(a':im),k<=N/\rest=((fK N λj=>Value.ref<|n+j).toList.zipIdx).drop k/\b=(none,())/\s'={s with heap:=h'}/\mI h' (n+N+1) a'/\a'.size=N/\(∀j,j<k->a'[j]?=some (v j))/\(∀j,j<N->h'.IsTupleIter (n+j) (l j) (if j<k then i+1 else i))/\IsZip h' (n+N+2) (n+N) (n+N+1) .ellipsis/\h'.objs.size=s.heap.objs.size/\(∀c o,c≠n+N+2->c≠n+N+1->(∀j,j<N->c≠n+j)->s.heap.get? c=some o->h'.get? c=some o)) _ ?_ ?_ _ _ ?_;rintro x rest b s' ⟨k,h',a',hk,e1,rfl,rfl,O,ha,hv,J,Z,sz,kp⟩;have dH:k<N:=by have:=congrArg List.length e1;rw[zQ,List.length_drop,List.length_zipIdx,jE]at this;lia
 have e2:((fK N λj=>Value.ref<|n+j).toList.zipIdx).drop k=(Value.ref<|n+k,k)::((fK N λj=>Value.ref<|n+j).toList.zipIdx).drop (k+1):=by rw[ye<|by rw[List.length_zipIdx,jE];exact dH];simp[fK]
 rw[e2]at e1;cases e1;have lk:@LT.lt Nat _ (l k) n:=lt k dH;have Jk:=J k dH;rw[if_neg<|yD _]at Jk;have T0:Heap.IsTuple h' (l k) (xs k):=by obtain⟨o,a1,a2⟩:=tu k dH;exact{o,kp _ _ (by show @Ne Nat _ _;lia) (by show @Ne Nat _ _;lia) (λj _=>by show @Ne Nat _ _;lia) a1,a2}
 refine zc<|wpAny_onRaise ?_;show wpAny _ _ (Builtin.SmallTypes.nextOf (.ref<|n+k) >>=_) _ _ _;refine zc<|Cy (s:={s with heap:=h'}) Jk T0 (ev k dH) λg1 m0 q1=>zo ?_;have O1:mI g1 (n+N+1) a':=q1.extBut _ _ (by show @Ne Nat _ _;lia) O;refine zc<|wpAny_seqItems (s:={s with heap:=g1}) O1 rfl ?_;refine zc<|GH (s:={s with heap:=g1}) O1 (by lia) λg2 O2 q2=>?_;refine zc<|wpAny_letGo<|zo ?_;refine{k+1,g2,_,dH,rfl,rfl,rfl,O2,by rw[Array.size_setIfInBounds];exact ha,λj hj=>?_,λj hj=>?_,q2.extBut _ _ (by show @Ne Nat _ _;lia)<|q1.extBut _ _ (by show @Ne Nat _ _;lia) Z,by rw[q2.1,q1.1];exact sz,λc o d1 d2 d3 e=>q2.extBut _ _ d2<|q1.extBut _ _ (d3 k dH)<|kp c o d1 d2 d3 e};by_cases z:j=k;subst z;rw[Array.getElem?_setIfInBounds_self_of_lt<|by lia];rw[Array.getElem?_setIfInBounds_ne<|Ne.symm z];exact hv j (by lia);by_cases z:j=k;subst z;rw[if_pos<|Nat.lt_succ_self _];exact wc q2.extBut (by show @Ne Nat _ _;lia) m0;have:=J j hj;rw[show(if j<k+1 then i+1 else i)=if j<k then i+1 else i by by_cases y:j<k;rw[if_pos y,if_pos<|by lia];rw[if_neg y,if_neg<|by lia]];exact wc q2.extBut (by show @Ne Nat _ _;lia)<|wc q1.extBut (by show @Ne Nat _ _;lia) this;rintro b s' ⟨k,h',a',hk,e1,rfl,rfl,O,ha,hv,J,Z,sz,kp⟩;have dH:k=N:=by have:=congrArg List.length e1;rw[List.length_nil,List.length_drop,List.length_zipIdx,jE]at this;lia
 subst dH;have ea:=Nd ha hv;subst ea;refine zc<|wpAny_seqItems (s:={s with heap:=h'}) O rfl ?_;refine zc<|wpAny_newTuple ?_ (hsz:=by rw[jE];exact ZT h3);have lz:n+k+2<h'.objs.size:=zw Z;show wpAny _ _ (Builtin.SmallTypes.ownedTupleHandOut (.ref<|n+k+2) (.ref h'.objs.size) >>=_) _ _ _;refine zc ?_;unfold Builtin.SmallTypes.ownedTupleHandOut;have hzM:IsZip (h'.push {cls:=.type "tuple",data:=.seq<|fK k v}) (n+k+2) (n+k) (n+k+1) .ellipsis:=za _ Z;refine zc<|wpAny_setField_rec (s:={s with heap:=h'.push {cls:=.type "tuple",data:=.seq<|fK k v}}) hzM (by simp) λg1 T6 r1=>?_;replace T6:IsZip g1 (n+k+2) (n+k) (n+k+1) (rawInt h'.objs.size):=T6;refine wpAny_setField_rec (s:={s with heap:=g1}) T6 (by simp) λg2 JG r2=>?_;replace JG:IsZip g2 (n+k+2) (n+k) (n+k+1) (rawInt h'.objs.size):=JG;have up:∀c o,c≠n+k+2->h'.get? c=some o->g2.get? c=some o:=λc o d e=>r2.extBut _ _ d<|r1.extBut _ _ d<|za _ e;have hT:mI g2 h'.objs.size (fK k v):=r2.extBut _ _ (yr lz)<|r1.extBut _ _ (yr lz)<|zm _ rfl;rw[sz]at JG hT;refine zo !⟨?_⟩;show Q (.ref h'.objs.size) _;rw[sz];refine hQ g2 JG (up _ _ (by show @Ne Nat _ _;lia) O) (λj hj=>?_) hT λc o d1 d2 d3 e=>up c o d1<|kp c o d1 d2 d3 e;have:=J j hj;rw[if_pos hj]at this;exact OB (λo e=>up _ o (by show @Ne Nat _ _;lia) e) this;refine{0,h0,arr,zU _,rfl,rfl,rfl,k0 _ _ (by show @Ne Nat _ _;lia) hO,na,λj hj=>absurd hj<|Nat.not_lt_zero _,λj hj=>?_,Nf,q0.1,λc o d _ _ e=>k0 c o d e};rw[if_neg<|Nat.not_lt_zero _];obtain⟨o,a1,a2⟩:=hit j hj;exact{o,k0 _ _ (by show @Ne Nat _ _;lia) a1,a2}
theorem JR(h1:1<=N)(hh:A.handled=none)(hs:ZN n N l i s.heap)(lt:l 0<n)(t0:s.heap.IsTuple (l 0)<|xs 0)(e0:(xs 0)[i]?=none)(hE:∀h' e,(∀c o,c≠n+N+2->c≠n+0->s.heap.get? c=some o->h'.get? c=some o)->(∃o,h'.get? e=some o/\o.cls=.type "StopIteration")->E (.ref e) {s with heap:=h'}): wpAny (model prog w) A (Builtin.«zip.__next__» {[.ref<|n+N+2],[]}) Q E s:=by
 obtain⟨hz,hI,⟨arr,na,hO⟩,hit⟩:=hs;show wpAny _ _ (field (.ref<|n+N+2) 2 >>=_) _ _ _;refine zc<|yb hz rfl (x:=.bool false) rfl ?_;show wpAny _ _ (field (.ref<|n+N+2) 3 >>=_) _ _ _;refine zc<|yb hz rfl (x:=.ref<|n+N) rfl ?_;refine zc<|wpAny_seqItems hI rfl ?_;have he:(fK N λj=>Value.ref<|n+j).isEmpty=false:=by rw[Array.isEmpty_eq_false_iff];intro e;have:=congrArg Array.size e;rw[ko]at this;simp at this;lia
 dsimp only;rw[if_neg<|by rw[he];exact zd];refine zc ?_;unfold Builtin.SmallTypes.ownedTupleIsFree;refine zc<|yb hz rfl (x:=.none) rfl<|zo ?_;simp only[if_true];refine zc<|yX ?_;refine zc<|yb hz rfl (x:=.ref<|n+N+1) rfl ?_;refine zc<|wpAny_setField_rec hz (by simp) λh0 Nf q0=>?_;replace Nf:IsZip h0 (n+N+2) (n+N) (n+N+1) .ellipsis:=Nf;have lk:@LT.lt Nat _ (l 0) n:=lt;have J0:Heap.IsTupleIter h0 (n+0) (l 0) i:=by obtain⟨o,a1,a2⟩:=hit 0 h1;exact{o,q0.extBut _ _ (by show @Ne Nat _ _;lia) a1,a2}
 have T0:Heap.IsTuple h0 (l 0) (xs 0):=by obtain⟨o,a1,a2⟩:=t0;exact{o,q0.extBut _ _ (by show @Ne Nat _ _;lia) a1,a2}
 have e2:(fK N λj=>Value.ref<|n+j).toList.zipIdx=(Value.ref<|n+0,0)::((fK N λj=>Value.ref<|n+j).toList.zipIdx).drop 1:=by have:=ye (l:=(fK N λj=>Value.ref<|n+j).toList.zipIdx) (i:=0) (by rw[List.length_zipIdx,jE];exact h1);rw[List.drop_zero]at this;rw[this];simp[fK]
 rw[e2,List.forIn_cons];refine zc<|zc<|zc<|wpAny_onRaise ?_;show wpAny _ _ (Builtin.SmallTypes.nextOf (.ref<|n+0) >>=_) _ _ _;refine zc<|rR (s:={s with heap:=h0}) hh J0 T0 e0 λh1 e q1 he=>?_;obtain⟨oe,hoe,hce⟩:=he;have T6:IsZip h1 (n+N+2) (n+N) (n+N+1) .ellipsis:=q1 _ _ (by show @Ne Nat _ _;lia) Nf;have ez:e≠n+N+2:=λx=>by subst x;rw[T6]at hoe;cases hoe;simp at hce
 refine wpAny_setField_rec (s:={s with heap:=h1}) T6 (by simp) λh2 _ q2=>hE h2 e (λc o dz d0 x=>q2.extBut _ _ dz<|q1 _ _ d0<|q0.extBut _ _ dz x) {oe,q2.extBut _ _ ez hoe,hce}
end
noncomputable def RN(K:Frag)(N:Nat)(l:Nat->Addr):It:={λi H=>∃(xs:Nat->List V)(x:Nat->V),∀j,j<N->i4 K H (l j) (xs j)/\(xs j)[i]?=some (x j),λi H y H'=>∃T,H T=none/\y=.ref T/\∀(xs:Nat->List V)(x:Nat->V),(∀j,j<N->i4 K H (l j) (xs j)/\(xs j)[i]?=some (x j))->H'=upd H T (.tup<|(List.range N).map x),λi H=>∃xs:Nat->List V,(∀j,j<N->i4 K H (l j) (xs j))/\(xs 0).length<=i}
noncomputable def T7(n N:Nat):io:=(List.range<|N+3).map λj=>n+j
theorem qY(h:b∈T7 n N):∃j,j<N+3/\b=n+j:=by obtain⟨j,hj,e⟩:=zh.mp h;exact{j,zT.mp hj,e.symm}
theorem fL(h:j<N+3):(n+j:Nat)∈T7 n N:=zh.mpr {j,zT.mpr h,rfl}
theorem C3(h:∀j,j<N->RelV (x j) (u j)):Vals ((List.range N).map x) ((List.range N).map u):=by
 have:∀l:wS,(∀j∈l,j<N)->Vals (l.map x) (l.map u):=by intro l;induction l with|nil=>exact λ_=>.nil|cons a l ih=>exact λhl=>.cons (h a<|hl a zj)<|ih λj hj=>hl j<|zf _ hj
 exact this _ λj hj=>zT.mp hj
theorem vk{P:Program}{w:World}{K:Frag}{es:mt}{kk:Nat}{tp:Pos}{n N:Nat}{l:Nat->Addr}(h1:1<=N)(h3:N<=3)(lt:∀j,j<N->l j<n):Turn P w K (.Tuple es kk tp) (RN K N l) (T7 n N) (n+N+2) (ZN n N l) where
 mem:=fL (j:=N+2)<|by lia
 obj:=λi h st b hb=>by
  obtain⟨j,hj,rfl⟩:=qY hb
  by_cases q:j<N
  ·obtain⟨o,e,c,d⟩:=st.it j q;exact{o,e,λv z=>by rw[d]at z;cases z}
  ·obtain⟨arr,na,hO⟩:=st.o
   have:j=N\/j=N+1\/j=N+2:=by lia
   rcases this with rfl|rfl|rfl
   ·exact{_,st.t,λv z=>by cases z}
   ·exact{_,hO,λv z=>by cases z}
   ·exact{_,st.z,λv z=>by cases z}
 keep:=λi h h' st k=>by
  obtain⟨hz,hI,⟨arr,na,hO⟩,J⟩:=st
  exact{k _ (fL (j:=N+2)<|by lia) _ hz,k _ (fL (j:=N)<|by lia) _ hI,{arr,na,k _ (fL (j:=N+1)<|by lia) _ hO},λj hj=>OB (λo e=>k _ (fL<|by lia) o e)<|J j hj}
 item:=by
  intro X hP hw hK hc i pins s σ H E I hf st hg
  subst hP hw hK
  obtain⟨xs,x,hx⟩:=hg
  have ex:∀j,∃(aw:fv)(u:Value),j<N->Vals (xs j) aw/\s.heap.IsTuple (l j) aw.toArray/\aw[i]?=some u/\RelV (x j) u:=λj=>by
   by_cases q:j<N
   ·obtain⟨aw,rv,p,_⟩:=I.tuple (hx j q).1
    obtain⟨u,hu,ru⟩:=rv.get (hx j q).2
    exact{aw,u,λ_=>⟨rv,p,hu,ru⟩}
   ·exact{[],.none,λh=>absurd h q}
  have fx:=Classical.axiomOfChoice ex
  obtain⟨aw,fx⟩:=fx
  obtain⟨u,fx⟩:=Classical.axiomOfChoice fx
  have hT:s.TypeIs (.ref<|n+N+2) "zip":={_,st.z,rfl}
  have lz:@LT.lt Nat _ (n+N+2) s.heap.objs.size:=zw st.z
  unfold pyNext
  refine zc<|wpAny_attempt<|wpAny_callSpecial?_slot (name:=Str.ofString "__next__") hT F.slot_zip_next<|yH F.slot_zip_next hT F.entry_zip_next (G1 h1 h3 lt st (xs:=λj=>(aw j).toArray) (v:=u) (λj hj=>(fx j hj).2.1) (λj hj=>by simpa using (fx j hj).2.2.1) λg1 z1 O1 m1 T1 kp=>zo !⟨?_⟩)<|F.args_zip_next_1 _
  refine wpAny_letOwnedTupleGo_zip (s:={s with heap:=g1}) z1 λg2 z2 r2=>?_
  have Yo:∀c o,c∉T7 n N->s.heap.get? c=some o->g2.get? c=some o:=λc o hc e=>r2.extBut _ _ (λz=>hc<|z ▸ fL (j:=N+2) (by lia))<|kp c o (λz=>hc<|z ▸ fL (j:=N+2) (by lia)) (λz=>hc<|z ▸ fL (j:=N+1) (by lia)) (λj hj z=>hc<|z ▸ fL (by lia)) e
  have T2:mI g2 s.heap.objs.size (fK N u):=r2.extBut _ _ (yr lz) T1
  have I2:Inv X pins σ (upd H s.heap.objs.size<|.tup<|(List.range N).map x) {s with heap:=g2}:=I.Mz (t':=s.toks) (T7 n N) hf Yo (Heap.get?_none_of_le<|zq _) {by rw[zb,List.length_range];exact smz<|zJ h3<|by decide,_,C3 λj hj=>(fx j hj).2.2.2,{_,T2,rfl,rfl,_,rfl}}
  refine{.ref s.heap.objs.size,_,I2,rfl,{_,I.aN.fresh<|zq _,rfl,λys y hy=>?_},{z2,?_,{_,ko,r2.extBut _ _ (by show @Ne Nat _ _;lia) O1},λj hj=>wc r2.extBut (by show @Ne Nat _ _;lia)<|m1 j hj},λb hb=>?_}
  ·congr 2
   refine zY λj hj=>?_
   have hj:=zT.mp hj
   have:=I.n5 (hy j hj).1 (hx j hj).1
   have e:=(hy j hj).2
   rw[this,(hx j hj).2]at e
   exact zS e
  ·exact r2.extBut _ _ (by show @Ne Nat _ _;lia) (kp _ _ (by show @Ne Nat _ _;lia) (by show @Ne Nat _ _;lia) (λj hj=>by show @Ne Nat _ _;lia) st.t)
  ·obtain⟨j,hj,rfl⟩:=qY hb
   rw[ax<|by show @Ne Nat _ _;lia]
   exact(hf _ hb).1
 done:=by
  intro X hP hw hK hc i pins s σ H E I hf st hg
  subst hP hw hK
  obtain⟨xs,hx,hl⟩:=hg
  obtain⟨JS,rv0,p0,_⟩:=I.tuple<|hx 0 h1
  have hT:s.TypeIs (.ref<|n+N+2) "zip":={_,st.z,rfl}
  have T8:=rv0.length
  unfold pyNext
  refine zc<|wpAny_attempt<|wpAny_callSpecial?_slot (name:=Str.ofString "__next__") hT F.slot_zip_next<|yH F.slot_zip_next hT F.entry_zip_next (JR h1 (I.ok.hd hc) st (lt 0 h1) (xs:=λ_=>JS.toArray) p0 (by simp;lia) λh1 e kp he=>?_)<|F.args_zip_next_1 _
  obtain⟨o,ho,MY⟩:=he
  refine zc<|wpAny_isInstance (T:="StopIteration") (b:=true) ⟨o,ho,MY⟩ isSubtype_stop<|zo {rfl,?_}
  exact I.Mx (t':=s.toks) (T7 n N) hf λc o hc e=>kp c o (λz=>hc<|z ▸ fL (j:=N+2) (by lia)) (λz=>hc<|z ▸ fL (j:=0) (by lia)) e
 self:=λA' i s Q E st h=>wpAny_pyIter_zip st.z h
noncomputable def two(a b:Addr):Nat->Addr:=λj=>if j=0 then a else b
noncomputable def RO(a b c:Addr):Nat->Addr:=λj=>if j=0 then a else if j=1 then b else c
theorem Yt{p:Nat->Prop}(h0:p 0)(h1:p 1):∀j,j<2->p j|0,_=>h0|1,_=>h1|j+2,h=>by lia
theorem Yu{p:Nat->Prop}(h0:p 0)(h1:p 1)(h2:p 2):∀j,j<3->p j|0,_=>h0|1,_=>h1|2,_=>h2|j+3,h=>by lia
section
variable{X:Cx}{a b c:Expr}{ta:TA}{p pos tp:Pos}{es:mt}{kk:Nat}
theorem RP(hg:Gl X "zip")(hm:X.mg "zip"= none)(ha:PA X [a,b] ta)(hs:starEach [a,b] X.env=[(false,eval a X.env),(false,eval b X.env)])(t5:starEach [b] X.env=[(false,eval b X.env)]): PI X (.Tuple es kk tp) (.Call (.Name "zip" p) [a,b] [] pos) (λσ H R=>ta σ H λvs H1=>∃l0 l1,vs=[.ref l0,.ref l1]/\(∃xs,i4 X.K H1 l0 xs)/\(∃xs,i4 X.K H1 l1 xs)/\R (RN X.K 2<|two l0 l1) H1):=by intro pins s σ H R I h;refine Call_<|fG I hg hm boot_zip<|PyProof.Rows.callWith_type1 (br (ha pos pins s σ H _ I h) λus s1 ⟨vs,H1,I1,r1,q1⟩=>?_) (by rw[hs,t5]) (by rw[t5];rfl);obtain⟨l0,l1,e,⟨Cz,q0⟩,⟨CA,q2⟩,q⟩:=q1;subst e;obtain⟨u,v,rfl,r,r'⟩:=r1.two;cases r;cases r';obtain⟨JS,rv0,p0,_⟩:=I1.tuple q0;obtain⟨RQ,Wy,p1,_⟩:=I1.tuple q2;refine CD (show s1.heap.IsTuple l0 JS.toArray from p0) (show s1.heap.IsTuple l1 RQ.toArray from p1) λh' zs kp=>?_;have zn:ZN s1.heap.objs.size 2 (two l0 l1) 0 h':={zs.1,zs.2.1,zs.2.2.1,Yt zs.2.2.2.1 zs.2.2.2.2};refine wpAny_pyIter_zip (s:={s1 with heap:=h'}) zs.1 {_,_,_,_,H1,rfl,I1.kept (t':=s1.toks) kp,vk (by decide) (by decide)<|Yt p0.lt p1.lt,zn,λb hb=>?_,q};obtain⟨j,_,rfl⟩:=qY hb;exact I1.qm (Nat.le_add_right _ _)<|I1.aN.fresh<|Nat.le_add_right _ _
theorem RS(hg:Gl X "zip")(hm:X.mg "zip"= none)(ha:PA X [a,b,c] ta)(hs:starEach [a,b,c] X.env=[(false,eval a X.env),(false,eval b X.env),(false,eval c X.env)])(t5:starEach [b,c] X.env=[(false,eval b X.env),(false,eval c X.env)]): PI X (.Tuple es kk tp) (.Call (.Name "zip" p) [a,b,c] [] pos) (λσ H R=>ta σ H λvs H1=>∃l0 l1 l2,vs=[.ref l0,.ref l1,.ref l2]/\(∃xs,i4 X.K H1 l0 xs)/\(∃xs,i4 X.K H1 l1 xs)/\(∃xs,i4 X.K H1 l2 xs)/\R (RN X.K 3<|RO l0 l1 l2) H1):=by intro pins s σ H R I h;refine Call_<|fG I hg hm boot_zip<|PyProof.Rows.callWith_type1 (br (ha pos pins s σ H _ I h) λus s1 ⟨vs,H1,I1,r1,q1⟩=>?_) (by rw[hs,t5]) (by rw[t5];rfl);obtain⟨l0,l1,l2,e,⟨Cz,q0⟩,⟨CA,q2⟩,⟨Tz,q3⟩,q⟩:=q1;subst e;obtain⟨u,v,z,rfl,r,r',r''⟩:=r1.three;cases r;cases r';cases r'';obtain⟨JS,rv0,p0,_⟩:=I1.tuple q0;obtain⟨RQ,Wy,p1,_⟩:=I1.tuple q2;obtain⟨v7,T4,p2,_⟩:=I1.tuple q3;refine CK (show s1.heap.IsTuple l0 JS.toArray from p0) (show s1.heap.IsTuple l1 RQ.toArray from p1) (show s1.heap.IsTuple l2 v7.toArray from p2) λh' zs kp=>?_;have zn:ZN s1.heap.objs.size 3 (RO l0 l1 l2) 0 h':={zs.1,zs.2.1,zs.2.2.1,Yu zs.2.2.2.1 zs.2.2.2.2.1 zs.2.2.2.2.2};refine wpAny_pyIter_zip (s:={s1 with heap:=h'}) zs.1 {_,_,_,_,H1,rfl,I1.kept (t':=s1.toks) kp,vk (by decide) (by decide)<|Yu p0.lt p1.lt p2.lt,zn,λb hb=>?_,q};obtain⟨j,_,rfl⟩:=qY hb;exact I1.qm (Nat.le_add_right _ _)<|I1.aN.fresh<|Nat.le_add_right _ _
end
section
variable{K:Frag}{X:Cx}{a c e:Expr}{t:iw}{p pos tp:Pos}{es:mt}{kk:Nat}
theorem izn(hm:X.mg "zip"= none)(ha:DA K X [a,c] t)(hg:autoParam (Gl X "zip") qQJ)(hs:autoParam (starEach [a,c] X.env=[(false,eval a X.env),(false,eval c X.env)]) qQJ)(t5:autoParam (starEach [c] X.env=[(false,eval c X.env)]) qQJ)(hK:autoParam (X.K=K) qQJ): DI K X (.Tuple es kk tp) (.Call (.Name "zip" p) [a,c] [] pos) (Wd t):=by subst hK;exact⟨λy=>(RP (X:=y.cx) hg hm (ha.of y) hs t5).mono λτ H R ⟨σ,S,RI,Z,aC,hS,q,hR,hZ⟩=>{σ,S,_,Z,aC,hS,q,λds S1 vs H1 ⟨xs,ys,e,hl,r1⟩ v1 s1 k1=>by subst e;obtain⟨v,u,rfl,ra,rb⟩:=v1.two;obtain⟨a,va,rfl,qa,ta⟩:=ra.tup;obtain⟨b,vb,rfl,qb,tb⟩:=rb.tup;refine{a,b,rfl,{va,.of qa},{vb,.of qb},hR _ S1 _ H1 r1 (λi S2 H2 k2 s2 _=>?_) s1 k1};have WN:i4 X.K H2 a va:=.of<|k2.t _ _ qa;have WO:i4 X.K H2 b vb:=.of<|k2.t _ _ qb;have la:va.length=xs.length:=ta.len;let f:Nat->List V:=λj=>if j=0 then va else vb;refine{λd hd=>?_,λh=>{f,Yt WN WO,by show va.length<=i;unfold cA at h;rw[List.length_zipWith]at h;lia}};unfold cA at hd;obtain⟨x,y',e1,e2,e3⟩:=List.getElem?_zipWith_eq_some.mp hd;subst e3;obtain⟨vx,f1,g1⟩:=(RvAll.ts k2 _ ta).get e1;obtain⟨vy,f2,g2⟩:=(RvAll.ts k2 _ tb).get e2;let g:Nat->V:=λj=>if j=0 then vx else vy;have ok:∀j,j<2->i4 X.K H2 (two a b j) (f j)/\(f j)[i]?=some (g j):=Yt ⟨WN,f1⟩ ⟨WO,f2⟩;refine{⟨f,g,ok⟩,λx' H' ⟨T,hT,e4,e5⟩=>?_};have:=e5 f g ok;subst this e4;have kk:Kp X.K H2 (upd H2 T<|.tup [vx,vy]):=.new hT;exact{oi aG<|RvAll.ts kk _<|aW g1<|aW g2 bx,kk,s2.grow hT},hZ}⟩
theorem aba(hm:X.mg "zip"= none)(ha:DA K X [a,c,e] t)(hg:autoParam (Gl X "zip") qQJ)(hs:autoParam (starEach [a,c,e] X.env=[(false,eval a X.env),(false,eval c X.env),(false,eval e X.env)]) qQJ)(t5:autoParam (starEach [c,e] X.env=[(false,eval c X.env),(false,eval e X.env)]) qQJ)(hK:autoParam (X.K=K) qQJ): DI K X (.Tuple es kk tp) (.Call (.Name "zip" p) [a,c,e] [] pos) (RK t):=by subst hK;exact⟨λy=>(RS (X:=y.cx) hg hm (ha.of y) hs t5).mono λτ H R ⟨σ,S,RI,Z,aC,hS,q,hR,hZ⟩=>{σ,S,_,Z,aC,hS,q,λds S1 vs H1 ⟨xs,ys,zs,e,hl,II,r1⟩ v1 s1 k1=>by subst e;obtain⟨v,u,w,rfl,ra,rb,rc⟩:=v1.thr;obtain⟨a,va,rfl,qa,ta⟩:=ra.tup;obtain⟨b,vb,rfl,qb,tb⟩:=rb.tup;obtain⟨c,vc,rfl,qc,tc⟩:=rc.tup;refine{a,b,c,rfl,{va,.of qa},{vb,.of qb},{vc,.of qc},hR _ S1 _ H1 r1 (λi S2 H2 k2 s2 _=>?_) s1 k1};have WN:i4 X.K H2 a va:=.of<|k2.t _ _ qa;have WO:i4 X.K H2 b vb:=.of<|k2.t _ _ qb;have qc2:i4 X.K H2 c vc:=.of<|k2.t _ _ qc;have la:va.length=xs.length:=ta.len;let f:Nat->List V:=λj=>if j=0 then va else if j=1 then vb else vc;refine{λd hd=>?_,λh=>{f,Yu WN WO qc2,by show va.length<=i;rw[la,<-ou hl II];exact h}};obtain⟨x,y',z,e1,e2,e3,e4⟩:=ow hd;subst e4;obtain⟨vx,f1,g1⟩:=(RvAll.ts k2 _ ta).get e1;obtain⟨vy,f2,g2⟩:=(RvAll.ts k2 _ tb).get e2;obtain⟨vz,f3,g3⟩:=(RvAll.ts k2 _ tc).get e3;let g:Nat->V:=λj=>if j=0 then vx else if j=1 then vy else vz;have ok:∀j,j<3->i4 X.K H2 (RO a b c j) (f j)/\(f j)[i]?=some (g j):=Yu ⟨WN,f1⟩ ⟨WO,f2⟩ ⟨qc2,f3⟩;refine{⟨f,g,ok⟩,λx' H' ⟨T,hT,e4,e5⟩=>?_};have:=e5 f g ok;subst this e4;have kk:Kp X.K H2 (upd H2 T<|.tup [vx,vy,vz]):=.new hT;exact{oi aG<|RvAll.ts kk _<|aW g1<|aW g2<|aW g3 bx,kk,s2.grow hT},hZ}⟩
end
end L2
namespace My
open PySem L2
def top(i:Nat):Stmt:=PySem.Challenge.pw_pageturns_k81_whole_pages_end_to_end.main.body.getD i<|.Pass {0,0,0,0}
abbrev G4:Stmt:=top 20
abbrev JT:Stmt:=top 21
abbrev G5:Stmt:=top 22
abbrev qw:Stmt:=top 29
abbrev C4:Stmt:=top 31
abbrev wF:Stmt:=top 34
abbrev k8:Stmt:=top 44
abbrev lT:Stmt:=top 47
abbrev C5:Stmt:=top 49
abbrev uy:Stmt:=top 57
abbrev AJ:Stmt:=top 58
abbrev AK:Stmt:=top 62
abbrev sC:Stmt:=top 67
abbrev g_:Stmt:=top 69
abbrev hG:Stmt:=top 70
abbrev fM:Stmt:=top 71
abbrev C6:Stmt:=top 101
abbrev vm:Stmt:=top 103
abbrev sD:Stmt:=top 104
abbrev vo:Stmt:=top 106
abbrev JU:Stmt:=top 109
abbrev G6:Stmt:=top 110
abbrev vp:Stmt:=top 115
abbrev bw:Stmt:=top 88
abbrev fb:Stmt:=top 93
structure eZ where
 (Ng oy lU G7 AL O6 mR sE wG jF jG iH vq mS hU lV sF sG vt sH mT fN aq aI gC aS fh aK:Addr)
 (E1 hW fO G8 AM JV gD jH:FuncData)
 (mU oz mV sI kK AN kL mW AO Nh WQ:Tok)
 ts:List Addr
 (f C7 JW:Nat->Addr)
 (d RT WR:Nat->FuncData)
structure Txt(w:World)(K:Frag)(mg:Str->Option Value)(t:eZ):Prop where
 fn:G0 K mg top t.f t.d [17,18,19,20,21,22,23,24,25,26,29,30,31,32,33,34,35,41,42,43,44,45,46,47,48,49,50,51,57,58,59,60,61,62,63,66,67,68,70,76,77,78,79,80,81,82,83,84,85,86,89,95,96,97,98,99,100,101,102,103,104,105,106,107,108,109,110,111,112,113,114]
 eJ:CZ K t.aq "Shelf." bw t.C7 t.RT [0,1,2,3,4,5,6,7,8,13]
 gN:CZ K t.aI "Walk." fb t.JW t.WR [0,1,2,4,8,10,11,12,13,14]
 plain:GZ K mg "plain" (top 65) ["shelf","order","sieve","moment"] t.Ng t.E1
 T9:Binds K t.E1 ["shelf","order","sieve","moment"] [.none]
 fP:GZ K mg "sorted_by_keys" (top 69) ["rows","way"] t.oy t.hW
 ee:GZ K mg "sorted_by_values" (top 71) ["columns","part","rows"] t.lU t.fO
 wH:GZ K mg "page_on" (top 74) ["shelf","order","sieve","size","gap","moment"] t.G7 t.G8
 oA:GZ K mg "page_back" (top 75) ["shelf","order","sieve","size","gap","moment"] t.AL t.AM
 law:GZ K mg "law" (top 115) ["_law_script"] t.O6 t.JV
 dk:O4 K t.aq "worths_at" "Shelf.worths_at" (inClass bw 9) ["self","key","moment"] t.mR t.gD
 fi:Binds K t.gD ["self","key","moment"] [.none]
 iI:O4 K t.aq "all_at" "Shelf.all_at" (inClass bw 10) ["self","moment"] t.sE t.jH
 G9:Binds K t.jH ["self","moment"] [.none]
 lW:mg "MOST_NAME_SIGNS"= some (.int 8 t.mU)
 mX:mg "MOST_KEY_SIGNS"= some (.int 12 t.oz)
 lX:mg "MOST_WORD_SIGNS"= some (.int 40 t.mV)
 qx:mg "MOST_COLUMNS"= some (.int 8 t.sI)
 jI:mg "MOST_PARTS_orders"= some (.int 8 t.kK)
 wI:mg "MOST_DEEP"= some (.int 8 t.AN)
 jJ:mg "MOST_PARTS_sieves"= some (.int 200 t.kL)
 lY:mg "MOST_IN_A_TUPLE"= some (.int 8 t.mW)
 wJ:mg "MOST_ROWS"= some (.int 1000 t.AO)
 sJ:mg "START"= some (.str "start" t.Nh)
 JX:mg "END"= some (.str "end" t.WQ)
 JY:mg "KINDS"= some (.ref t.wG)
 JZ:∀H,Rv K H (.kt [.str "number",.str "word"])<|.ref t.wG
 wK:mg "OTHER_WAY"= some (.ref t.jF)
 AQ:LF w K t.jF [("up",.str "down"),("down",.str "up")]
 wL:mg "OTHER_END"= some (.ref t.jG)
 AR:LF w K t.jG [("first",.str "last"),("last",.str "first")]
 uz:mg "OTHER_SIDE"= some (.ref t.iH)
 wM:LF w K t.iH [("ahead",.str "behind"),("behind",.str "ahead")]
 C8:mg "LENGTHS"= some (.ref t.vq)
 G_:LF w K t.vq [("every",.int 1),("is",.int 3),("below",.int 3),("above",.int 3),("begins",.int 3),("key",.int 2),("not",.int 2),("and",.int 2),("or",.int 2)]
 aL:mg "len"= none
 ja:mg "all"= none
 O7:mg "any"= none
 ay:mg "isinstance"= none
 dN:mg "range"= none
 AS:mg "int"= none
 pK:mg "str"= none
 RU:mg "bool"= none
 bB:mg "tuple"= none
 RV:mg "dict"= none
 O8:mg "set"= none
 J1:mg "zip"= none
 fQ:mg "sorted"= none
 O9:mg "min"= none
 WS:mg "max"= none
 sL:mg "reversed"= none
 gO:mg "BadColumns"= some (.ref t.mS)
 dO:excIn K t.mS L2.oh "ValueError.__new__"= true
 kr:mg "BadRow"= some (.ref t.hU)
 h_:excIn K t.hU L2.oh "ValueError.__new__"= true
 eO:mg "BadOrder"= some (.ref t.lV)
 dy:excIn K t.lV L2.oh "ValueError.__new__"= true
 pL:mg "BadSieve"= some (.ref t.sF)
 iJ:excIn K t.sF L2.oh "ValueError.__new__"= true
 eP:mg "BadPlace"= some (.ref t.sG)
 dA:excIn K t.sG L2.oh "ValueError.__new__"= true
 C9:mg "BadSize"= some (.ref t.vt)
 oB:excIn K t.vt L2.oh "ValueError.__new__"= true
 Ha:mg "HasKey"= some (.ref t.sH)
 sM:excIn K t.sH L2.oh "ValueError.__new__"= true
 J2:mg "NoKey"= some (.ref t.mT)
 wN:excIn K t.mT L2.oh "ValueError.__new__"= true
 AU:mg "NoMoment"= some (.ref t.fN)
 lZ:excIn K t.fN L2.oh "ValueError.__new__"= true
 J3:mg "Shelf"= some (.ref t.aq)
 aj:qO K t.aq
 J4:Mk K t.aq (t.C7 0)
 cS:findIn K (.ref t.aq) "columns"= some none
 cG:findIn K (.ref t.aq) "deeds"= some none
 bN:findIn K (.ref t.aq) "runs"= some none
 Ni:mg "Walk"= some (.ref t.aI)
 aF:qO K t.aI
 Nj:Mk K t.aI (t.JW 0)
 eK:findIn K (.ref t.aI) "shelf"= some none
 eL:findIn K (.ref t.aI) "order"= some none
 k9:findIn K (.ref t.aI) "sieve"= some none
 fq:findIn K (.ref t.aI) "size"= some none
 iK:findIn K (.ref t.aI) "fore"= some none
 fR:findIn K (.ref t.aI) "hinder"= some none
 gE:t.hW.code=.ref t.gC
 dP:codeHdIn K t.gC t.aS=true
 mY:t.aS∈t.ts
 fj:t.fO.code=.ref t.fh
 c_:codeHdIn K t.fh t.aK=true
 kM:t.aK∈t.ts
 np:[t.aS,t.aK].Nodup
 ta:∀b∈t.ts,b=t.aS\/b=t.aK
 bl:∀(s:Shared)(u:Value),BindsTo s t.JV {[u],[]} [("_law_script",u)]
section
variable{w:World}{K:Frag}{mg:Str->Option Value}{t:eZ}(T:Txt w K mg t)
def Txt.jK:=T.fn 17<|by decide
def Txt.ia:=T.fn 18<|by decide
def Txt.oE:=T.fn 19<|by decide
def Txt.qZ:=T.fn 20<|by decide
def Txt.l4:=T.fn 21<|by decide
def Txt.wO:=T.fn 22<|by decide
def Txt.wQ:=T.fn 23<|by decide
def Txt.jL:=T.fn 24<|by decide
def Txt.compared:=T.fn 25<|by decide
def Txt.dD:=T.fn 26<|by decide
def Txt.gQ:=T.fn 29<|by decide
def Txt.oF:=T.fn 30<|by decide
def Txt.mZ:=T.fn 31<|by decide
def Txt.eC:=T.fn 32<|by decide
def Txt.ku:=T.fn 33<|by decide
def Txt.l5:=T.fn 34<|by decide
def Txt.cy:=T.fn 35<|by decide
def Txt.wR:=T.fn 41<|by decide
def Txt.C_:=T.fn 42<|by decide
def Txt.wU:=T.fn 43<|by decide
def Txt.eQ:=T.fn 44<|by decide
def Txt.wV:=T.fn 45<|by decide
def Txt.jM:=T.fn 46<|by decide
def Txt.eE:=T.fn 47<|by decide
def Txt.oG:=T.fn 48<|by decide
def Txt.jN:=T.fn 49<|by decide
def Txt.fc:=T.fn 50<|by decide
def Txt.sN:=T.fn 51<|by decide
def Txt.eR:=T.fn 57<|by decide
def Txt.oH:=T.fn 58<|by decide
def Txt.dQ:=T.fn 59<|by decide
def Txt.jO:=T.fn 60<|by decide
def Txt.gR:=T.fn 61<|by decide
def Txt.passes:=T.fn 62<|by decide
def Txt.iL:=T.fn 63<|by decide
def Txt.bV:=T.fn 66<|by decide
def Txt.iM:=T.fn 67<|by decide
def Txt.sO:=T.fn 68<|by decide
def Txt.fS:=T.fn 70<|by decide
def Txt.l6:=T.fn 76<|by decide
def Txt.iN:=T.fn 77<|by decide
def Txt.kx:=T.fn 78<|by decide
def Txt.iO:=T.fn 79<|by decide
def Txt.ft:=T.fn 80<|by decide
def Txt.iP:=T.fn 81<|by decide
def Txt.fT:=T.fn 82<|by decide
def Txt.jP:=T.fn 83<|by decide
def Txt.eS:=T.fn 84<|by decide
def Txt.q8:=T.fn 85<|by decide
def Txt.jQ:=T.fn 86<|by decide
def Txt.gF:=T.fn 89<|by decide
def Txt.cT:=T.fn 95<|by decide
def Txt.iQ:=T.fn 96<|by decide
def Txt.q9:=T.fn 97<|by decide
def Txt.oI:=T.fn 98<|by decide
def Txt.q_:=T.fn 99<|by decide
def Txt.E3:=T.fn 100<|by decide
def Txt.sP:=T.fn 101<|by decide
def Txt.wW:=T.fn 102<|by decide
def Txt.iR:=T.fn 103<|by decide
def Txt.ib:=T.fn 104<|by decide
def Txt.Dc:=T.fn 105<|by decide
def Txt.wX:=T.fn 106<|by decide
def Txt.Dd:=T.fn 107<|by decide
def Txt.wY:=T.fn 108<|by decide
def Txt.Df:=T.fn 109<|by decide
def Txt.wZ:=T.fn 110<|by decide
def Txt.sQ:=T.fn 111<|by decide
def Txt.rf:=T.fn 112<|by decide
def Txt.w4:=T.fn 113<|by decide
def Txt.m6:=T.fn 114<|by decide
def Txt.fU:=T.eJ 0<|by decide
def Txt.fA:=T.eJ 1<|by decide
def Txt.cU:=T.eJ 2<|by decide
def Txt.eF:=T.eJ 3<|by decide
def Txt.cj:=T.eJ 4<|by decide
def Txt.bK:=T.eJ 5<|by decide
def Txt.ck:=T.eJ 6<|by decide
def Txt.az:=T.eJ 7<|by decide
def Txt.fB:=T.eJ 8<|by decide
def Txt.cn:=T.eJ 13<|by decide
def Txt.gT:=T.gN 0<|by decide
def Txt.rh:=T.gN 1<|by decide
def Txt.kz:=T.gN 2<|by decide
def Txt.oJ:=T.gN 4<|by decide
def Txt.fu:=T.gN 8<|by decide
def Txt.iS:=T.gN 10<|by decide
def Txt.dR:=T.gN 11<|by decide
def Txt.dm:=T.gN 12<|by decide
def Txt.dr:=T.gN 13<|by decide
def Txt.cB:=T.gN 14<|by decide
end
def AV:=bA<|top 17
def w5:=bA<|top 18
def w6:=bA<|top 19
def Dg:=bA<|top 20
def Hb:=bA<|top 21
def Dh:=bA<|top 22
def Di:=bA<|top 23
def AW:=bA<|top 24
def pM:=bA<|top 25
def dW:=bA<|top 26
def oK:=bA<|top 29
def w9:=bA<|top 30
def AX:=bA<|top 31
def uA:=bA<|top 32
def w_:=bA<|top 33
def uB:=bA<|top 34
def AY:=bA<|top 35
def Hc:=bA<|top 41
def Hd:=bA<|top 42
def Dj:=bA<|top 43
def fV:=bA<|top 44
def Dk:=bA<|top 45
def sR:=bA<|top 46
def kN:=bA<|top 47
def xa:=bA<|top 48
def pN:=bA<|top 49
def bG:=bA<|top 50
def pO:=bA<|top 51
def bH:=bA<|top 57
def xb:=bA<|top 58
def m7:=bA<|top 59
def jR:=bA<|top 60
def eG:=bA<|top 61
def vA:=bA<|top 62
def qy:=bA<|top 63
def J5:=bA<|top 65
def m8:=bA<|top 66
def jb:=bA<|top 67
def gG:=bA<|top 68
def m9:=bA<|top 69
def cC:=bA<|top 70
def kO:=bA<|top 71
def Dm:=bA<|top 74
def xc:=bA<|top 75
def k_:=bA<|top 76
def jc:=bA<|top 77
def xf:=bA<|top 78
def uC:=bA<|top 79
def qz:=bA<|top 80
def uD:=bA<|top 81
def uE:=bA<|top 82
def sT:=bA<|top 83
def bW:=bA<|top 84
def sU:=bA<|top 85
def jS:=bA<|top 86
def jT:=bA<|top 89
def xg:=bA<|top 95
def cH:=bA<|top 96
def Dn:=bA<|top 97
def cW:=bA<|top 98
def sV:=bA<|top 99
def AZ:=bA<|top 100
def A1:=bA<|top 101
def eI:=bA<|top 102
def cI:=bA<|top 103
def eT:=bA<|top 104
def fC:=bA<|top 105
def sW:=bA<|top 106
def ic:=bA<|top 107
def He:=bA<|top 108
def Hf:=bA<|top 109
def cJ:=bA<|top 110
def Hg:=bA<|top 111
def cK:=bA<|top 112
def fE:=bA<|top 113
def eU:=bA<|top 114
def cL:=bA<|top 115
def m_:=bA<|inClass bw 0
def xh:=bA<|inClass bw 1
def qA:=bA<|inClass bw 2
def uF:=bA<|inClass bw 3
def jm:=bA<|inClass bw 4
def ie:=bA<|inClass bw 5
def dX:=bA<|inClass bw 6
def jU:=bA<|inClass bw 7
def xj:=bA<|inClass bw 8
def fW:=bA<|inClass bw 9
def fe:=bA<|inClass bw 10
def jn:=bA<|inClass bw 13
def oM:=bA<|inClass fb 0
def Dq:=bA<|inClass fb 1
def xk:=bA<|inClass fb 2
def xm:=bA<|inClass fb 4
def qB:=bA<|inClass fb 8
def fg:=bA<|inClass fb 10
def dS:=bA<|inClass fb 11
def l7:=bA<|inClass fb 12
def l8:=bA<|inClass fb 13
def eV:=bA<|inClass fb 14
theorem sm(h:n<=1000):n<=sizeLine:=yL<|kj h
theorem ng:0<=sizeLine:=sm<|by decide
theorem uG:1<=sizeLine:=sm<|by decide
theorem cX:2<=sizeLine:=sm<|by decide
theorem uH:3<=sizeLine:=sm<|by decide
theorem uI:4<=sizeLine:=sm<|by decide
theorem abc:6<=sizeLine:=sm<|by decide
theorem Hh:8<=sizeLine:=sm<|by decide
theorem WT:12<=sizeLine:=sm<|by decide
def Gt(S:ao)(d:D):Prop:=(∃k,Q_ S d k)/\∀z,d=.str z->z.cps.size<=1000
noncomputable def isLet(c:Nat):Bool:=decide (97<=c)&&decide (c<=122)
noncomputable def E6(c:Nat):Bool:=decide (48<=c)&&decide (c<=57)
noncomputable def E7(c:Nat):Bool:=decide (32<=c)&&decide (c<=126)
noncomputable def lg(z:Str):Bool:=decide (1<=z.cps.size)&&decide (z.cps.size<=8)&&z.cps.toList.all isLet
noncomputable def kP(z:Str):Bool:=decide (1<=z.cps.size)&&decide (z.cps.size<=12)&&(z.cps.toList.head?.any isLet)&&z.cps.toList.all λc=>isLet c||E6 c
noncomputable def pP(z:Str):Bool:=decide (z.cps.size<=40)&&z.cps.toList.all E7
noncomputable def ofStr(f:Str->Bool):D->Bool|.str z=>f z|_=>false
noncomputable def sX:D->Bool|.int _=>true|_=>false
noncomputable def iT(kind:Str)(d:D):Bool:=ag d||if kind ="number" then sX d else ofStr pP d
def Nk(f:D->Bool):qS:=λds S R _=>∃d,ds=[d]/\Gt S d/\R (.bl<|f d) S
def J6(f:Nat->Bool):qS:=λds S R _=>∃c,ds=[.str ⟨#[c]⟩]/\R (.bl<|f c) S
theorem pQ:∀{xs ys:wp}{a b:D},Paired rel xs ys->rel a b->Paired rel (xs++[a]) (ys++[b])|_,_,_,_,.nil,r=>.cons r .nil|_,_,_,_,.cons q t,r=>.cons q<|pQ t r
theorem take_snoc{α:Type}{l:List α}{i:Nat}{d:α}(h:l[i]?=some d):l.take (i+1)=l.take i++[d]:=by rw[List.take_add_one,h];rfl
theorem jV{I:nV}{S1:ao}{g:Au}{te:TD}{σ:SD}{src:List<|Option Nat}{R:KD}(rel:D->D->Prop)(aN:I.ok S1)(hz:I.xs.length<=1000)(step:∀d,d∈I.xs->∀Q:KD,(∀v,rel d v->Q v S1)->g d (mL σ src) S1 λgu S3=>te gu S3 Q Zf)(fin:∀out,Paired rel I.xs out->∀p,S1 p=none->R (.ref p) (S1.set p<|.lst out)): Av σ src g mM te R I S1:=by
 refine{λi out S=>S=S1/\Paired rel (I.xs.take i) out,{rfl,.nil},λi out S h=>by rw[h.1];exact aN,?_,?_};rintro i d out S hd ⟨rfl,hp⟩;have hlen:=yS hp;rw[yi]at hlen;refine{kj<|by lia,?_};have e:(λ(gu:SD)(S3:ao)=>mM gu S3 (λb S4=>if b=true then te gu S4 (λv S5=>S5=S/\Paired rel (I.xs.take<|i+1) (out++[v])) Zf else S4=S/\Paired rel (I.xs.take<|i+1) out) Zf)=λgu S3=>te gu S3 (λv S5=>S5=S/\Paired rel (I.xs.take<|i+1) (out++[v])) Zf:=by funext gu S3;simp[mM]
 rw[e];exact step d (zy hd) _ λv hv=>{rfl,by rw[take_snoc hd];exact pQ hp hv};rintro out S2 ⟨rfl,hp⟩;rw[yI]at hp;exact fin out hp
theorem sY:∀{xs out:wp},Paired (λd v=>v=f d) xs out->out=xs.map f|_,_,.nil=>rfl|_,_,.cons r t=>by rw[r,sY t];rfl
theorem comp_map(f:D->D)(aN:I.ok S1)(hz:I.xs.length<=1000)(step:∀d,d∈I.xs->∀Q:KD,Q (f d) S1->g d (mL σ src) S1 λgu S3=>te gu S3 Q Zf)(fin:∀p,S1 p=none->R (.ref p) (S1.set p<|.lst<|I.xs.map f)): Av σ src g mM te R I S1:=jV (λd v=>v=f d) aN hz (λd hd Q h=>step d hd Q<|h _ rfl) λout hp p Hi=>by rw[sY hp];exact fin p Hi
theorem fF{I:nV}{S1:ao}{g:Au}{tc:mq}{te:TD}{σ:SD}{src:List<|Option Nat}{R:KD}(keep:D->Bool)(f:D->D)(aN:I.ok S1)(hz:I.xs.length<=1000)(step:∀d,d∈I.xs->∀(Q:KD)(Q':ao->Prop),(keep d=true->Q (f d) S1)->(keep d=false->Q' S1)->g d (mL σ src) S1 λgu S3=>tc gu S3 (λb S4=>if b=true then te gu S4 Q Zf else Q' S4) Zf)(fin:∀p,S1 p=none->R (.ref p) (S1.set p<|.lst<|(I.xs.filter keep).map f)): Av σ src g tc te R I S1:=by refine{λi out S=>S=S1/\out=((I.xs.take i).filter keep).map f,⟨rfl,rfl⟩,λi out S h=>by rw[h.1];exact aN,?_,?_};rintro i d out S hd ⟨rfl,rfl⟩;have hlen:((I.xs.take i).filter keep).length<=(I.xs.take i).length:=List.length_filter_le _ _;rw[yi]at hlen;refine{by rw[zb];exact kj<|by lia,?_};refine step d (zy hd) _ (λS4=>S4=S/\_=_) (λhk=>{rfl,?_}) λhk=>{rfl,?_};rw[take_snoc hd,List.filter_append,zC,yN,if_pos hk];rfl;rw[take_snoc hd,List.filter_append,yN,if_neg<|by rw[hk];exact zd];simp;rintro out S2 ⟨rfl,rfl⟩;rw[yI];exact fin
variable{P:Program}{w:World}{K:Frag}{mg:Str->Option Value}{base:Heap}{t:eZ}(T:Txt w K mg t)
theorem jW:Ok P w base T.jK 1 (Nk sX):=by
 obtain⟨d,e,⟨⟨k,hk⟩,hz⟩,q⟩:T.jK.F.bF AV;refine{_,(s1<|sr<|qt (cb cY T.ay au<|ap 0<|ac (t6 T.AS rO) an)<|HW<|Q7<|cb cY T.ay au<|ap 0<|ac (t6 T.RU Mn) an),?_};refine !{_,_,_,_,rfl,Mq,hk,_,rfl,?_};have:(Cr k=true/\((sX d=true/\wb k=false)\/(sX d=false/\wb k=true)))\/(Cr k=false/\sX d=false):=by cases d with|av=>(cases hk;exact .inr ⟨rfl,rfl⟩)|bl b=>(cases hk;exact .inl {rfl,.inr ⟨rfl,rfl⟩})|int b=>(cases hk;exact .inl {rfl,.inl ⟨rfl,rfl⟩})|str b=>(cases hk;exact .inr ⟨rfl,rfl⟩)|tup b=>(cases hk;exact .inr ⟨rfl,rfl⟩)|ref a=>(rcases hk with⟨rfl,_⟩|⟨rfl,_⟩<;>exact .inr ⟨rfl,rfl⟩)|_=>exact hk.elim
 rcases this with⟨h1,h2⟩|⟨h1,h2⟩;rw[h1];refine dJ !{_,_,_,_,rfl,Jb,hk,_,rfl,?_};rcases h2 with⟨h2,h3⟩|⟨h2,h3⟩<;>(rw[h3];rw[h2]at q;exact fo q);rw[h1];rw[h2]at q;exact aX<|fo q
theorem iU:Ok P w base T.ia 1 (J6 isLet):=by obtain⟨c,e,q⟩:T.ia.F.bF w5;refine{_,(s1<|sr<|cc jA jA hr.u ds (dv 0) ds),?_};refine !!⟨?_⟩;have e1:HU "a" ⟨#[c]⟩=decide (97<=c):=kl 97 c;have e2:HU ⟨#[c]⟩ "z"= decide (c<=122):=kl c 122;unfold isLet at q;refine bS (λh=>?_) λh=>?_;rw[e1.symm.trans h,yf,<-e2]at q;exact fo q;rw[e1.symm.trans h,zZ]at q;exact fo q
theorem xn:Ok P w base T.oE 1 (J6 E6):=by obtain⟨c,e,q⟩:T.oE.F.bF w6;refine{_,(s1<|sr<|cc jA jA hr.u ds (dv 0) ds),?_};refine !!⟨?_⟩;have e1:HU "0" ⟨#[c]⟩=decide (48<=c):=kl 48 c;have e2:HU ⟨#[c]⟩ "9"= decide (c<=57):=kl c 57;unfold E6 at q;refine bS (λh=>?_) λh=>?_;rw[e1.symm.trans h,yf,<-e2]at q;exact fo q;rw[e1.symm.trans h,zZ]at q;exact fo q
theorem Hj(h:d∈fI z):∃c,c∈z.cps.toList/\d=.str ⟨#[c]⟩:=by unfold fI at h;obtain⟨c,hc,e⟩:=zh.mp h;exact⟨c,hc,e.symm⟩
noncomputable def E8(f:Nat->Bool):D->D|.str z=>.bl (z.cps.toList.head?.any f)|_=>.av
theorem Hk:(fI z).map (E8 f)=(z.cps.toList.map f).map D.bl:=by unfold fI;rw[zt,zt];rfl
theorem all_map{α:Type}{l:List α}{f:α->Bool} : (l.map f).all id=l.all f:=by rw[List.all_map];rfl
theorem oN{z:Str}{f:Nat->Bool}{g:Au}{te:TD}{σ:SD}{src:List<|Option Nat}{S:ao}{R:KD}{Z:KX}{i:Nat}(hv:σ[i]?=some (some<|.str z))(hz:z.cps.size<=1000)(step:∀c,c∈z.cps.toList->∀Q:KD,Q (.bl<|f c) S->g (.str ⟨#[c]⟩) (mL σ src) S λgu S3=>te gu S3 Q Zf)(q:R (.bl<|z.cps.toList.all f) S): X7 VU (OE (vg (OR<|VC i) src g mM te) MM) σ S (λd S'=>Fo S'<|R d) Z:=by refine{_,hv,z,rfl,?_};refine My.comp_map (I:={fI z,λ_=>True}) (E8 f) trivial (by show(fI z).length<=1000;unfold fI;rw[zb,ya];exact hz) (λd hd Q hQ=>?_) λp hp=>?_;obtain⟨c,hc,rfl⟩:=Hj hd;exact step c hc Q (by simpa [E8]using hQ);refine{.ref p,z.cps.toList.map f,rfl,?_,S,.new hp,?_};show(S.set p<|.lst<|(fI z).map<|E8 f) p=_;rw[aa,Hk];rw[all_map];exact q
theorem Ds{S:ao}{d:D}{k:Kd}(hk:Q_ S d k):(∃z,d=.str z/\Cs k=true)\/(Cs k=false/\∀f,ofStr f d=false):=by cases d with|str b=>(cases hk;exact .inl ⟨b,rfl,rfl⟩)|av=>(cases hk;exact .inr {rfl,λ_=>rfl})|bl b=>(cases hk;exact .inr {rfl,λ_=>rfl})|int b=>(cases hk;exact .inr {rfl,λ_=>rfl})|tup b=>(cases hk;exact .inr {rfl,λ_=>rfl})|ref a=>(rcases hk with⟨rfl,_⟩|⟨rfl,_⟩<;>exact .inr {rfl,λ_=>rfl})|_=>exact hk.elim
theorem RW{S:ao}{d:D}{k:Kd}(hk:Q_ S d k):(∃ds,d=.tup ds/\rQ k=true)\/(rQ k=false/\∀ds,d≠.tup ds):=by cases d with|tup b=>(cases hk;exact .inl ⟨b,rfl,rfl⟩)|av=>(cases hk;exact .inr {rfl,λ_=>nofun})|bl b=>(cases hk;exact .inr {rfl,λ_=>nofun})|int b=>(cases hk;exact .inr {rfl,λ_=>nofun})|str b=>(cases hk;exact .inr {rfl,λ_=>nofun})|ref a=>(rcases hk with⟨rfl,_⟩|⟨rfl,_⟩<;>exact .inr {rfl,λ_=>nofun})|_=>exact hk.elim
theorem sZ:Ok P w base T.qZ 2 (Nk<|ofStr lg):=by
 obtain⟨d,e,⟨⟨k,hk⟩,hz⟩,q⟩:T.qZ.F.bF Dg;refine{_,(sc (si (twd<|twor (cF<|tv<|cb cY T.ay au<|ap 0<|ac (t6 T.pK jy) an)<|tw1<|cF<|X6 jA jA hr.u di (cb aO T.aL aD<|ap 0 an)<|dg (v:=.int 8) T.lW {_,rfl} λ_=>aT _) (s1<|sr db) s0)<|s1<|sr<|cb i9 T.ja e_<|ac (sA (N:=["sign"]) (src:=[none]) (km G4) (Rp<|dv 0) nW<|aP T.ia (iU T) hr<|ap 0 an) an),?_};refine !{_,_,_,_,rfl,cP,hk,_,rfl,?_};rcases Ds hk with⟨z,rfl,h0⟩|⟨h0,h1⟩;have hz:=hz z rfl;rw[h0];refine aX ?_;refine !!⟨{sm hz,?_}⟩;refine{_,rfl,?_};have e1:decide ((1:Int)<=(z.length:Nat))=decide (1<=z.cps.size):=by rw[yO];show(1:Int)<=((z.cps.size:Nat):Int)↔_;omega
 have e2:decide (((z.length:Nat):Int)<=8)=decide (z.cps.size<=8):=by rw[yO];show((z.cps.size:Nat):Int)<=8↔_;omega
 unfold ofStr lg at q;dsimp only at q;refine bS (λh2=>?_) λh2=>?_;rw[e1.symm.trans h2,yf]at q;refine{_,rfl,?_};refine bS (λh3=>?_) λh3=>?_;rw[e2.symm.trans<|nt h3,zZ]at q;exact fo q;rw[e2.symm.trans<|nf h3,yf]at q;exact oN rfl hz (λc hc Q hQ=>!⟨c,rfl,hQ⟩) q;rw[e1.symm.trans h2,zZ,zZ]at q;refine{_,rfl,?_};exact dJ<|fo q;rw[h0];rw[h1]at q;exact dJ<|dJ<|fo q
def aB(c:Str×Str):D:=.tup [.str c.1,.str c.2]
def Gd(cs:wT):Prop:=cs.length<=8/\(cs.map Prod.fst).Nodup/\∀c∈cs,lg c.1=true/\(c.2 ="number"\/c.2 ="word")
noncomputable def nh(cs:wT):D->Bool|.tup ws=>decide (ws.length=cs.length)&&(List.zipWith (λc v=>iT c.2 v) cs ws).all id|_=>false
noncomputable def oO(cs:wT)(k v:D):Bool:=ofStr kP k&&nh cs v
def T_(S:ao)(d:D):Prop:=Gt S d/\∀ws,d=.tup ws->ws.length<=1000/\∀v∈ws,Gt S v
theorem ig:Ok P w base T.l4 2 (Nk<|ofStr kP):=by
 obtain⟨d,e,⟨⟨k,hk⟩,hz⟩,q⟩:T.l4.F.bF Hb;refine{_,(sc (si (twd<|twor (cF<|tv<|cb cY T.ay au<|ap 0<|ac (t6 T.pK jy) an)<|tw1<|cF<|X6 jA jA hr.u di (cb aO T.aL aD<|ap 0 an)<|dg (v:=.int 12) T.mX {_,rfl} λ_=>aT _) (s1<|sr db) s0)<|sc (si (cF<|tv<|aP T.ia (iU T) hr<|ac (bv (dv 0) di) an) (s1<|sr db) s0)<|s1<|sr<|cb i9 T.ja e_<|ac (sA (N:=["sign"]) (src:=[none]) (km JT) (Rp<|dv 0) nW<|eor (aP T.ia (iU T) hr<|ap 0 an)<|HW<|aP T.oE (xn T) hr<|ap 0 an) an),?_};refine !{_,_,_,_,rfl,cP,hk,_,rfl,?_};rcases Ds hk with⟨z,rfl,h0⟩|⟨h0,h1⟩;have hz:=hz z rfl;rw[h0];refine aX ?_;refine !!⟨{sm hz,?_}⟩;refine{_,rfl,?_};have e1:decide ((1:Int)<=(z.length:Nat))=decide (1<=z.cps.size):=by rw[yO];show(1:Int)<=((z.cps.size:Nat):Int)↔_;omega
 have e2:decide (((z.length:Nat):Int)<=12)=decide (z.cps.size<=12):=by rw[yO];show((z.cps.size:Nat):Int)<=12↔_;omega
 unfold ofStr kP at q;dsimp only at q;refine bS (λh2=>?_) λh2=>?_;have ZS:=e1.symm.trans h2;rw[ZS,yf]at q;refine{_,rfl,?_};refine bS (λh3=>?_) λh3=>?_;rw[e2.symm.trans<|nt h3,zZ,zZ]at q;exact fo q;rw[e2.symm.trans<|nf h3,yf]at q;obtain⟨c,r,ec⟩:=len_pos (z:=z)<|zG ZS;have eh:z.cps.toList.head?.any isLet=isLet c:=by rw[ec];rfl
 rw[eh]at q;refine !{c,sm hz,at0 ec,c,rfl,_,rfl,?_};refine bS (λh4=>?_) λh4=>?_;rw[nt h4,zZ]at q;exact fo q;rw[nf h4,yf]at q;refine oN (f:=λc=>isLet c||E6 c) rfl hz (λc hc Q hQ=>?_) q;refine !{c,rfl,_,rfl,?_};refine bS (λh5=>?_) λh5=>?_;rw[h5,Bool.true_or]at hQ;exact hQ;rw[h5,Bool.false_or]at hQ;exact{_,rfl,c,rfl,hQ};rw[e1.symm.trans h2,zZ,zZ,zZ]at q;refine{_,rfl,?_};exact dJ<|fo q;rw[h0];rw[h1]at q;exact dJ<|dJ<|fo q
theorem Du:Ok P w base T.wO 2 (Nk<|ofStr pP):=by
 obtain⟨d,e,⟨⟨k,hk⟩,hz⟩,q⟩:T.wO.F.bF Dh;refine{_,(sc (si (twd<|twor (cF<|tv<|cb cY T.ay au<|ap 0<|ac (t6 T.pK jy) an)<|tw1<|bn qu (cb aO T.aL aD<|ap 0 an)<|dg (v:=.int 40) T.lX {_,rfl} λ_=>aT _) (s1<|sr db) s0)<|s1<|sr<|cb i9 T.ja e_<|ac (sA (N:=["sign"]) (src:=[none]) (km G5) (Rp<|dv 0) nW<|cc jA jA hr.u ds (dv 0) ds) an),?_};refine !{_,_,_,_,rfl,cP,hk,_,rfl,?_};rcases Ds hk with⟨z,rfl,h0⟩|⟨h0,h1⟩;have hz:=hz z rfl;rw[h0];refine aX ?_;refine !!⟨{sm hz,?_}⟩;refine{_,rfl,?_};have e2:decide ((40:Int)<((z.length:Nat):Int))=!decide (z.cps.size<=40):=by rw[yk];simp only[decide_eq_true_iff,Bool.not_eq_true',yq];show(40:Int)<((z.cps.size:Nat):Int)↔_;omega
 unfold ofStr pP at q;dsimp only at q;refine bS (λh3=>?_) λh3=>?_;rw[nt<|e2.symm.trans h3,zZ]at q;exact fo q;rw[nf<|e2.symm.trans h3,yf]at q;refine oN (f:=E7) rfl hz (λc hc Q hQ=>?_) q;refine !!⟨?_⟩;have e3:HU " " ⟨#[c]⟩=decide (32<=c):=kl 32 c;have e4:HU ⟨#[c]⟩ "~"= decide (c<=126):=kl c 126;unfold E7 at hQ;refine bS (λh=>?_) λh=>?_;rw[e3.symm.trans h,yf,<-e4]at hQ;exact hQ;rw[e3.symm.trans h,zZ]at hQ;exact hQ;rw[h0];rw[h1]at q;exact dJ<|dJ<|fo q
inductive s9(ds:wp)(S:ao)(R:KD)(Z:KX):Prop where
 |mk (kind d)(h0:ds=[.str kind,d])(h1:Gt S d)(h2:R (.bl<|iT kind d) S)
theorem jX:Ok P w base T.jL 3 s9:=by obtain⟨kind,d,e,hd,q⟩:T.jL.F.bF AW;refine{_,(sc (si (bn fm (dv 1) dn) (s1<|sr db) s0)<|sc (si (bn aR (dv 0) ds) (s1<|sr<|aP T.jK (jW T) hr<|ap 1 an) s0)<|s1<|sr<|aP T.wO (Du T) hr<|ap 1 an),?_};refine !!⟨?_⟩;unfold iT at q;refine bS (λh=>?_) λh=>?_;rw[h,Bool.true_or]at q;exact fo q;rw[h,Bool.false_or]at q;refine !!⟨?_⟩;refine bS (λh=>?_) λh=>?_;rw[if_pos<|zG h]at q;exact !{d,rfl,hd,fo q};rw[if_neg<|zV h]at q;exact !{d,rfl,hd,fo q}
theorem gt_str(h:z.cps.size<=1000):Gt S (.str z):={{.str,rfl},λy e=>by cases e;exact h}
theorem oP(h:lg z=true):z.cps.size<=1000:=by unfold lg at h;simp only[zI,zR]at h;lia
theorem Hl(h:∀c v,f (.tup [aB c,v])=.bl (iT c.2 v)):(cA (cs.map aB) ws).map f=(List.zipWith (λc v=>iT c.2 v) cs ws).map D.bl:=by unfold cA;induction cs generalizing ws with|nil=>(cases ws<;>rfl)|cons c cs ih=>cases ws with|nil=>rfl|cons v ws=>show f (.tup [aB c,v])::(List.zipWith _ (cs.map aB) ws).map f=.bl (iT c.2 v)::_;rw[h,ih]
noncomputable def pairF:D->D|.tup [.tup [_,.str k],v]=>.bl (iT k v)|_=>.av
inductive vB(ds:wp)(S:ao)(R:KD)(Z:KX):Prop where
 |mk (z)(h0:ds=[.str z])(h1:(z ="number"\/z ="word"))(h2:R (.bl true) S)
theorem Dz:Ok P w base T.wQ 1 vB:=by
 obtain⟨z,e,hz,q⟩:T.wQ.F.bF Di;refine{_,(s1<|sr<|qt (cb cY T.ay au<|ap 0<|ac (t6 T.pK jy) an)<|HW<|bi wg (dv 0)<|dg (v:=.ref t.wG) T.JY rfl T.JZ),?_};refine !{_,_,_,_,rfl,cP,rfl,_,rfl,dJ !{rfl,rfl,?_}};have e:Ci (kJ<|.str z) ([D.str "number",D.str "word"].map kJ)=true:=by rcases hz with rfl|rfl<;>decide +kernel
 show Fo S (R<|.bl<|if false=true then _ else Ci (kJ<|.str z) ([D.str "number",D.str "word"].map kJ));rw[if_neg zd,e];exact fo q
inductive pR(ds:wp)(S:ao)(R:KD)(Z:KX):Prop where
 |mk (c)(h0:ds=[aB c])(h1:lg c.1=true)(h2:(c.2 ="number"\/c.2 ="word"))(h3:R (.bl true) S)
theorem xo:Ok P w base T.oF 3 pR:=by obtain⟨c,e,h1,h2,q⟩:T.oF.F.bF w9;refine{_,(sc (si (twd<|twor (cF<|tv<|cb cY T.ay au<|ap 0<|ac (t6 T.bB bf) an)<|tw1<|bn g8 (cb aO T.aL aD<|ap 0 an) di) (s1<|sr db) s0)<|s1<|sr<|qt (aP T.qZ (sZ T) hr<|ac (bv (dv 0) di) an)<|HW<|aP T.wQ (Dz T) hr<|ac (bv (dv 0) di) an),?_};refine !{_,_,_,_,rfl,aY,rfl,_,rfl,?_};refine aX !!!⟨aX ?_⟩;refine !!!{gt_str<|oP h1,_,rfl,?_};show if lg c.1=true then _ else _;rw[h1];exact dJ !!!{h2,fo q}
inductive s_(ds:wp)(S:ao)(R:KD)(Z:KX):Prop where
 |mk (cs:wT)(h0:ds=[.tup<|cs.map aB])(h1:cs.length<=8)(h2:∀p,S p=none->R (.ref p) (S.set p<|.lst<|(cs.map Prod.fst).map D.str))
theorem pS:Ok P w base T.mZ 1 s_:=by
 obtain⟨cs,e,hl,q⟩:T.mZ.F.bF AX;refine{_,(s1<|sr<|TN (N:=["name","kind"]) (src:=[none,none]) (km C4) (HZ<|dv 0) (Wh<|show(["name","kind"]:lc).Nodup by trivial) (mH rfl rfl) mP (λ_ _ _ _ _=>nW) λ_ _ _ _ _=>(dv 0)),?_};refine !{_,.inl rfl,?_};refine comp_map (λd=>match d with|.tup (x::_)=>x|_=>.av) trivial (by show(cs.map aB).length<=1000;rw[zb];lia) (λd hd Q hQ=>?_) λp hp=>?_;obtain⟨c,hc,rfl⟩:=zh.mp hd;exact !{rfl,_,_,rfl,_,_,rfl,rfl,_,rfl,hQ};have e:(cs.map aB).map (λd=>match d with|.tup (x::_)=>x|_=>.av)=(cs.map Prod.fst).map D.str:=by rw[zt,zt];rfl
 show Fo (S.set p<|.lst<|(cs.map aB).map _) (R<|.ref p);rw[e];exact fo<|q p hp
inductive jd(ds:wp)(S:ao)(R:KD)(Z:KX):Prop where
 |mk (cs)(h0:ds=[.tup<|cs.map aB])(h1:Gd cs)(h2:R .av S)
theorem oQ:Ok P w base T.gQ 4 jd:=by
 obtain⟨cs,e,⟨hl,hn,hg⟩,q⟩:T.gQ.F.bF oK;refine{_,(sc (si (twd<|twor (cF<|tv<|cb cY T.ay au<|ap 0<|ac (t6 T.bB bf) an)<|tw1<|bn qu (cb aO T.aL aD<|ap 0 an)<|dg (v:=.int 8) T.qx {_,rfl} λ_=>aT _) (s1<|sj ⟨T.dO⟩ T.gO<|ac ds an) s0)<|sc (si (cF<|tv<|cb i9 T.ja e_<|ac (sA (N:=["column"]) (src:=[none]) (km qw) (HZ<|dv 0) nW<|aP T.oF (xo T) hr<|ap 0 an) an) (s1<|sj ⟨T.dO⟩ T.gO<|ac ds an) s0)<|s1<|si (bn g8 (lse (aP T.mZ (pS T) hr<|ap 0 an) T.aL T.O8)<|cb aO T.aL aD<|ap 0 an) (s1<|sj ⟨T.dO⟩ T.gO<|ac ds an) s0),?_};refine !{_,_,_,_,rfl,aY,rfl,_,rfl,?_};have e1:decide ((8:Int)<((cs.map aB).length:Nat))=false:=zA (by rw[zb];lia);refine aX !!!⟨?_⟩;show if decide ((8:Int)<((cs.map aB).length:Nat))=true then _ else _;rw[e1];refine aX ?_;refine !{_,.inl rfl,?_};refine comp_map (λ_=>.bl true) trivial (by show(cs.map aB).length<=1000;rw[zb];lia) (λd hd Q hQ=>?_) λp hp=>?_;obtain⟨c,hc,rfl⟩:=zh.mp hd;exact !{c,rfl,(hg c hc).1,(hg c hc).2,hQ};have e2:(cs.map aB).map (λ_=>D.bl true)=(cs.map λ_=>true).map D.bl:=by rw[zt,zt];rfl
 have e3:(cs.map λ_=>true).all id=true:=by rw[all_map];exact z0.mpr λ_ _=>rfl
 refine{.ref p,cs.map λ_=>true,rfl,?_,_,rfl,?_};show(S.set p<|.lst<|(cs.map aB).map _) p=_;rw[aa,e2];rw[e3];refine aX ?_;refine !{cs,rfl,hl,λp2 iu=>?_};refine{cs.map Prod.fst,aa,by rw[zb];lia,_,rfl,_,rfl,_,rfl,?_};have e4:decide ((((i7<|cs.map Prod.fst).length:Nat):Int)=(((cs.map aB).length:Nat):Int))=true:=zu (by rw[(vd _).mpr hn,zb,zb]);show if (if true=true then !decide ((((i7<|cs.map Prod.fst).length:Nat):Int)=(((cs.map aB).length:Nat):Int)) else _)=true then _ else _;rw[if_pos rfl,e4];exact aX {S,(Sub.new hp).trans<|.new iu,q}
inductive nj(ds:wp)(S:ao)(R:KD)(Z:KX):Prop where
 |mk (cs d)(h0:ds=[.tup<|cs.map aB,d])(h1:cs.length<=8)(h2:T_ S d)(h3:R (.bl<|nh cs d) S)
theorem uJ:Ok P w base T.l5 4 nj:=by
 obtain⟨cs,d,e,hl,⟨⟨⟨k,hk⟩,hz⟩,hw⟩,q⟩:T.l5.F.bF uB;refine{_,(sc (si (twd<|twor (cF<|tv<|cb cY T.ay au<|ap 1<|ac (t6 T.bB bf) an)<|tw1<|bn g8 (cb aO T.aL aD<|ap 1 an)<|cb aO T.aL aD<|ap 0 an) (s1<|sr db) s0)<|s1<|sr<|cb i9 T.ja e_<|ac (TN (N:=["column","value"]) (src:=[none,none]) (km wF) (izn T.J1<|ap 0<|ap 1 an) (Wh<|show(["column","value"]:lc).Nodup by trivial) (mH rfl rfl) mP (λ_ _ _ _ _=>nW) λ_ _ _ _ _=>(aP T.jL (jX T) hr<|ac (bv (dv 0) di)<|ap 1 an)) an),?_};refine !{_,_,_,_,rfl,aY,hk,_,rfl,?_};rcases RW hk with⟨ws,rfl,h0⟩|⟨h0,h1⟩;obtain⟨hw1,V1⟩:=hw ws rfl;rw[h0];refine aX !!!!!⟨?_⟩;have e1:decide (((ws.length:Nat):Int)=(((cs.map aB).length:Nat):Int))=decide (ws.length=cs.length):=by rw[yO,zb];lia
 unfold nh at q;dsimp only at q;show if (if true=true then !decide (((ws.length:Nat):Int)=(((cs.map aB).length:Nat):Int)) else _)=true then _ else _;rw[if_pos rfl,e1];refine bS (λh=>?_) λh=>?_;rw[nt h,zZ]at q;exact fo q;have h:=nf h;rw[h,yf]at q;have h:=zG h;refine !!{cs.map aB,ws,rfl,by rw[zb];exact h.symm,?_};refine comp_map pairF trivial (by show(cA (cs.map aB) ws).length<=1000;unfold cA;rw[List.length_zipWith,zb];lia) (λd hd Q hQ=>?_) λp hp=>?_;unfold cA at hd;obtain⟨i,ei⟩:=yu hd;obtain⟨x,y,e2,e3,e4⟩:=List.getElem?_zipWith_eq_some.mp ei;subst e4;rw[zi]at e2;cases e5:cs[i]? with|none=>(rw[e5]at e2;cases e2)|some c=>rw[e5]at e2;cases e2;exact !{rfl,_,_,rfl,_,_,rfl,rfl,_,rfl,_,rfl,_,rfl,c.2,y,rfl,V1 y<|zy e3,hQ}
 refine{.ref p,List.zipWith (λc v=>iT c.2 v) cs ws,rfl,?_,S,.new hp,q};show(S.set p<|.lst<|(cA (cs.map aB) ws).map pairF) p=_;rw[aa,Hl λ_ _=>rfl];rw[h0];have e:nh cs d=false:=by cases d with|tup ws=>exact absurd rfl (h1 ws)|_=>rfl
 rw[e]at q;exact dJ<|dJ<|fo q
inductive pT(t:eZ)(ds:wp)(S:ao)(R:KD)(Z:KX):Prop where
 |mk (cs k v)(h0:ds=[.tup<|cs.map aB,.tup [k,v]])(h1:cs.length<=8)(h2:Gt S k)(h3:T_ S v)(h4:(oO cs k v=true->R .av S))(h5:(oO cs k v=false->Z t.hU S))
theorem nq:Ok P w base T.ku 5 (pT t):=by obtain⟨cs,k,v,e,hl,hk,hv,q1,q2⟩:T.ku.F.bF w_;refine{_,(sc (si (twd<|twor (cF<|tv<|cb cY T.ay au<|ap 1<|ac (t6 T.bB bf) an)<|tw1<|bn g8 (cb aO T.aL aD<|ap 1 an) di) (s1<|sj ⟨T.h_⟩ T.kr<|ac ds an) s0)<|sc (si (cF<|tv<|aP T.l4 (ig T) hr<|ac (bv (dv 1) di) an) (s1<|sj ⟨T.h_⟩ T.kr<|ac ds an) s0)<|s1<|si (cF<|tv<|aP T.l5 (uJ T) hr<|ap 0<|ac (bv (dv 1) di) an) (s1<|sj ⟨T.h_⟩ T.kr<|ac ds an) s0),?_};refine !{_,_,_,_,rfl,aY,rfl,_,rfl,?_};refine aX !!!⟨aX ?_⟩;refine !!{k,rfl,hk,_,rfl,?_};unfold oO at q1 q2;refine bS (λh=>?_) λh=>?_;rw[nt h,zZ]at q2;exact{sm<|by decide,fo<|q2 rfl};rw[nf h,yf]at q1 q2;refine !!!{cs,v,rfl,hl,hv,_,rfl,?_};refine bS (λh=>?_) λh=>?_;exact{sm<|by decide,fo<|q2<|nt h};exact fo<|q1<|nf h
theorem bg(h:n<=100000):n<sizeLine:=by rw[yg];lia
structure Std where
 b:Nat
 e:Option Nat
 ws:List D
abbrev xz:=List Std
def eD:Option Nat->D|none=>.av|some n=>.int (n:Nat)
def jY(s:Std):D:=.tup [.int (s.b:Nat),eD s.e,.tup s.ws]
noncomputable def J_:List Std->Int->D|[],_=>.av|s::r,m=>if (s.b:Int)<=m then (match s.e with|none=>.tup s.ws|some n=>if m<=(n:Int) then .tup s.ws else .av) else J_ r m
noncomputable def wt(l:xz)(m:Int):D:=J_ l.reverse m
abbrev Ra:=List<|Str×Addr×List Std
abbrev mx:=List<|Str×List Std
def ij(ra:Ra):mx:=ra.map λr=>(r.1,r.2.2)
def dU(ra:Ra):ww:=ra.map λr=>(Sum.inr r.1,D.ref r.2.1)
noncomputable def lu(rs:mx)(k:Str):Option (List Std):=(rs.find? λr=>decide<|r.1=k).map (·.2)
noncomputable def t_(ra:Ra)(k:Str):Option (Addr×List Std):=(ra.find? λr=>decide<|r.1=k).map (·.2)
noncomputable def ua(ra:Ra)(k:Str)(s:xz):Ra:=ra.map λr=>if r.1=k then (r.1,r.2.1,s) else r
noncomputable def DB(rs:mx)(k:Str)(s:xz):mx:=if (lu rs k).isSome then rs.map λr=>if r.1=k then (r.1,s) else r else rs++[(k,s)]
theorem gU(ra:Ra)(k:Str):lu (ij ra) k=(t_ ra k).map (·.2):=by unfold lu t_ ij;induction ra with|nil=>rfl|cons r ra ih=>rw[zx,yc,yc];by_cases h:r.1=k;rw[zu h];rfl;rw[zA h];exact ih
theorem ik(ra:Ra)(k:Str):bY (dU ra) (.inr k)=(t_ ra k).map λp=>D.ref p.1:=by unfold bY t_ dU;induction ra with|nil=>rfl|cons r ra ih=>rw[zx,yc,yc];by_cases h:r.1=k;rw[zu h];have:decide ((Sum.inr r.1:Key)=.inr k)=true:=zu (by rw[h]);dsimp only;rw[this];rfl;rw[zA h];have:decide ((Sum.inr r.1:Key)=.inr k)=false:=zA λe=>h<|yP e;dsimp only;rw[this];exact ih
theorem du(h:t_ ra k=some (l,s)):(k,l,s)∈ra:=by unfold t_ at h;cases q:ra.find? λr=>decide (r.1=k) with|none=>(rw[q]at h;cases h)|some r=>rw[q]at h;have h1:=List.find?_some q;have h2:=List.mem_of_find?_eq_some q;obtain⟨k',l',s'⟩:=r;have e:k'=k:=zG h1;cases h;rw[<-e];exact h2
theorem nr(h:t_ ra k=none):∀r∈ra,r.1≠k:=by unfold t_ at h;intro r hr e;have:=List.find?_eq_none.mp (Option.map_eq_none_iff.mp h) r hr;simp[e]at this
theorem gH:∀{l:List α}{x y:α},(l.map f).Nodup->x∈l->y∈l->f x=f y->x=y|z::l,x,y,nd,hx,hy,e=>by rw[zx]at nd;obtain⟨n1,n2⟩:=ym.mp nd;rcases zk.mp hx with ex|FW;rcases zk.mp hy with ey|U4;rw[ex,ey];exact absurd (zh.mpr {y,U4,by rw[<-e,ex]}) n1;rcases zk.mp hy with ey|U4;exact absurd (zh.mpr {x,FW,by rw[e,ey]}) n1;exact gH n2 FW U4 e
structure DC(C:Addr)(S:ao)(a ld lr:Addr)(cs:wT)(dl:wp)(ra:Ra):Prop where
 ins:S a=some (.ins C [("columns",.tup<|cs.map aB),("deeds",.ref ld),("runs",.ref lr)])
 A2:S ld=some (.lst dl)
 run:S lr=some (.dM<|dU ra)
 cell:∀r∈ra,S r.2.1=some (.lst<|r.2.2.map jY)
 kn:(ra.map (·.1)).Nodup
 an:(ld::ra.map (·.2.1)).Nodup
 sz:∀r∈ra,r.2.2.length<=dl.length
def fp(a ld lr:Addr)(ra:Ra):io:=a::ld::lr::ra.map (·.2.1)
def bZ(C:Addr)(S:ao)(a:Addr)(F:io)(cs:wT)(dl:wp)(rs:mx):Prop:=∃ld lr ra,DC C S a ld lr cs dl ra/\F=fp a ld lr ra/\rs=ij ra
def DD(F F':io)(S S':ao):Prop:=∀b c,b∉F->S b=some c->b∉F'/\S' b=some c
theorem DD.trans(a:DD F F1 S S1)(b:DD F1 F2 S1 S2):DD F F2 S S2:=λp c h e=>by obtain⟨h1,e1⟩:=a p c h e;exact b p c h1 e1
section
variable{C a ld lr:Addr}{S:ao}{cs:wT}{dl:wp}{ra:Ra}
theorem DC.DF(h:DC C S a ld lr cs dl ra){l:Addr}{ds:wp}(e:S l=some (.lst ds)):l≠a/\l≠lr:=by constructor;rintro rfl;rw[h.ins]at e;cases e;rintro rfl;rw[h.run]at e;cases e
theorem DC.put(h:DC C S a ld lr cs dl ra)(hk:t_ ra k=some (l,s))(hs:s'.length<=dl.length):DC C (S.set l<|.lst<|s'.map jY) a ld lr cs dl (ua ra k s'):=by
 have hm:=du hk;have hl:=h.cell _ hm;obtain⟨n1,n2⟩:=h.DF hl;obtain⟨nd1,nd2⟩:=ym.mp h.an;have n3:l≠ld:=λe=>nd1 (by rw[<-e];exact zh.mpr {_,hm,rfl});have e1:(ua ra k s').map (·.1)=ra.map (·.1):=by unfold ua;rw[zt];exact zY λr _=>by dsimp only[Function.comp];split<;>rfl
 have e2:(ua ra k s').map (·.2.1)=ra.map (·.2.1):=by unfold ua;rw[zt];exact zY λr _=>by dsimp only[Function.comp];split<;>rfl
 have e3:dU (ua ra k s')=dU ra:=by unfold dU ua;rw[zt];exact zY λr _=>by dsimp only[Function.comp];split<;>rfl
 refine{by rw[ae n1.symm];exact h.ins,by rw[ae n3.symm];exact h.A2,by rw[ae n2.symm,e3];exact h.run,λr hr=>?_,by rw[e1];exact h.kn,by rw[e2];exact h.an,λr hr=>?_};unfold ua at hr;obtain⟨r0,x_,e⟩:=zh.mp hr;by_cases q:r0.1=k;rw[if_pos q]at e;have er:r0=(k,l,s):=gH h.kn x_ hm q;subst er e;rw[aa];rw[if_neg q]at e;subst e;have:r0.2.1≠l:=λe=>q (by have:=gH nd2 x_ hm e;rw[this]);rw[ae this];exact h.cell _ x_;unfold ua at hr;obtain⟨r0,x_,e⟩:=zh.mp hr;by_cases q:r0.1=k;rw[if_pos q]at e;subst e;exact hs;rw[if_neg q]at e;subst e;exact h.sz _ x_
theorem DC.add(h:DC C S a ld lr cs dl ra)(hk:t_ ra k=none)(hl:S l=none)(hs:s.length<=dl.length)(e1:S' l=some (.lst<|s.map jY))(e2:S' lr=some (.dM<|dU<|ra++[(k,l,s)]))(e3:∀b,b≠l->b≠lr->S' b=S b):DC C S' a ld lr cs dl (ra++[(k,l,s)]):=by
 have n1:a≠l:=gA h.ins hl;have n2:ld≠l:=gA h.A2 hl;have n3:a≠lr:=by rintro rfl;have:=h.run;rw[h.ins]at this;cases this
 have n4:ld≠lr:=by rintro rfl;have:=h.run;rw[h.A2]at this;cases this
 refine{by rw[e3 _ n1 n3];exact h.ins,by rw[e3 _ n2 n4];exact h.A2,e2,λr hr=>?_,?_,?_,λr hr=>?_};rcases zP.mp hr with hr|hr;have hc:=h.cell r hr;rw[e3 _ (gA hc hl) (h.DF hc).2];exact hc;rw[zK.mp hr];exact e1;rw[zC];exact mF h.kn λm=>by obtain⟨r,hr,e⟩:=zh.mp m;exact nr hk r hr e
 rw[zC,<-List.cons_append];refine mF h.an λm=>?_;rcases zk.mp m with e|m;exact n2 e.symm;obtain⟨r,hr,e⟩:=zh.mp m;exact gA (h.cell r hr) hl e;rcases zP.mp hr with hr|hr;exact h.sz r hr;rw[zK.mp hr];exact hs
theorem DC.RX(h:DC C S a ld lr cs dl ra)(d:D):DC C (S.set ld<|.lst<|dl++[d]) a ld lr cs (dl++[d]) ra:=by obtain⟨n1,n2⟩:=h.DF h.A2;obtain⟨nd1,nd2⟩:=ym.mp h.an;refine{by rw[ae n1.symm];exact h.ins,aa,by rw[ae n2.symm];exact h.run,λr hr=>?_,h.kn,h.an,λr hr=>by rw[zE];exact zJ (h.sz r hr)<|Nat.le_add_right _ _};rw[ae λe=>nd1<|by rw[<-e];exact zh.mpr ⟨r,hr,rfl⟩];exact h.cell r hr
end
inductive O_(C:Addr)(ds:wp)(S:ao)(R:KD)(Z:KX):Prop where
 |mk (a F cs dl rs)(h0:ds=[.ref a])(h1:bZ C S a F cs dl rs)(h2:R (.int (dl.length:Nat)) S)
theorem xp:qv P w mg base T.fB 1 (O_ t.aq):=by obtain⟨a,F,cs,dl,rs,e,⟨ld,lr,ra,h,_⟩,q⟩:T.fB.F.bF xj;refine{_,(s1<|sr<|cb aO T.aL aD<|ac (fl T.aj T.cG<|dv 0) an),?_};exact !{a,_,_,rfl,h.ins,rfl,_,rfl,.inl {dl,h.A2,fo q}}
inductive fk(t:eZ)(ds:wp)(S:ao)(R:KD)(Z:KX):Prop where
 |mk (a F cs dl rs)(h0:ds=[.ref a])(h1:bZ t.aq S a F cs dl rs)(h2:R (.tup<|cs.map aB) S)
theorem aM:qv P w mg base T.az 1 (fk t):=by obtain⟨a,F,cs,dl,rs,e,⟨ld,lr,ra,h,_⟩,q⟩:T.az.F.bF jU;refine{_,(s1<|sr<|fl T.aj T.cS<|dv 0),?_};exact !{a,_,_,rfl,h.ins,rfl,fo q}
noncomputable def uK(n:Nat):D->Option Int|.av=>some n|.int i=>(if 0<=i/\i<=(n:Int) then some i else none)|_=>none
inductive E9(C N:Addr)(ds:wp)(S:ao)(R:KD)(Z:KX):Prop where
 |mk (a F cs dl rs m)(h0:ds=[.ref a,m])(h1:bZ C S a F cs dl rs)(h2:Gt S m)(h3:(∀i,uK dl.length m=some i->R (.int i) S))(h4:(uK dl.length m=none->Z N S))
theorem je:qv P w mg base T.cn 2 (E9 t.aq t.fN):=by
 obtain⟨a,F,cs,dl,rs,m,e,hS,hm,q1,q2⟩:T.cn.F.bF jn;obtain⟨ld,lr,ra,h,hF,t9⟩:=id hS;refine{_,(sc (si (bn fm (dv 1) dn) (s1<|sr<|fJ (dv 0) T.aj T.fB (xp T) hr) s0)<|sc (si (twd<|twor (cF<|tv<|aP T.jK (jW T) hr<|ap 1 an)<|tw1<|cF<|X6 jA jA hr.u di (dv 1)<|fJ (dv 0) T.aj T.fB (xp T) hr) (s1<|sj ⟨T.lZ⟩ T.AU<|ac ds an) s0)<|s1<|sr<|dv 1),?_};refine !!⟨?_⟩;refine bS (λh1=>?_) λh1=>?_;have e:m=.av:=by cases m<;>first|rfl|cases h1
 subst e;exact !{a,_,rfl,h.ins,rfl,a,F,cs,dl,rs,rfl,hS,fo<|q1 _ rfl};refine !{m,rfl,hm,_,rfl,?_};refine bS (λh2=>?_) λh2=>?_;have h2:=nt h2;have e:uK dl.length m=none:=by cases m with|av=>(cases h1)|int i=>(cases h2)|_=>rfl
 exact dJ {sm<|by decide,fo<|q2 e};have h2:=nf h2;obtain⟨i,rfl⟩:∃i,m=.int i:=by cases m<;>first|exact{_,rfl}|cases h2
 refine !!⟨?_⟩;refine bS (λh3=>?_) λh3=>?_;have h3:0<=i:=zG h3;refine !{a,_,rfl,h.ins,rfl,a,F,cs,dl,rs,rfl,hS,_,rfl,?_};refine bS (λh4=>?_) λh4=>?_;have h4:¬i<=((dl.length:Nat):Int):=zV<|nt h4;exact{sm<|by decide,fo<|q2<|if_neg λz=>h4 z.2};have h4:i<=((dl.length:Nat):Int):=zG<|nf h4;exact{_,rfl,fo<|q1 i<|if_pos ⟨h3,h4⟩};have h3:¬0<=i:=zV h3;exact{_,rfl,dJ {sm<|by decide,fo<|q2<|if_neg λz=>h3 z.1}}
inductive lj(ds:wp)(S:ao)(R:KD)(Z:KX):Prop where
 |mk (l vE m)(h0:ds=[.ref l,.int m])(h1:S l=some (.lst<|vE.map jY))(h2:R (wt vE m) S)
theorem jZ:Ok P w base T.gF 1 lj:=by
 obtain⟨l,vE,m,e,hl,q⟩:T.gF.F.bF jT;refine{_,(sc (qX<|GR (irv T.sL<|ap 0 an) (gn (i:=2) jT.nd)<|s1<|si (bn jA (bv (dv 2) di)<|dv 1) (s1<|sr<|Q8 (twd<|twor (bn fm (bv (dv 2) di) dn)<|tw1<|bn jA (dv 1)<|bv (dv 2) di) (bv (dv 2) di) dn) s0)<|s1<|sr dn),?_};refine{λaA S'=>S'=S/\wt vE m=.av,?_,?_};refine !{_,_,rfl,hl,?_};refine{λi aA S'=>(∃o,aA=[some<|.ref l,some<|.int m,o])/\S'=S/\wt vE m=J_ (vE.reverse.drop i) m,{⟨none,rfl⟩,rfl,by rw[List.drop_zero];rfl},λi aA S' h=>by rw[h.2.1];exact hl,?_,?_};rintro i d aA S' hd ⟨⟨o,rfl⟩,rfl,hw⟩;rw[<-List.map_reverse,zi]at hd;cases e1:vE.reverse[i]? with|none=>(rw[e1]at hd;cases hd)|some sd=>rw[e1]at hd;cases hd;have e2:vE.reverse.drop i=sd::vE.reverse.drop (i+1):=(by obtain⟨hi,e⟩:=zg.mp e1;rw[ye hi,e]);obtain⟨sb,se,sw⟩:=sd;rw[e2]at hw;refine !!!!⟨?_⟩;unfold J_ at hw;refine bS (λh=>?_) λh=>?_;rw[if_pos<|zG h]at hw;refine !!!⟨?_⟩;(cases se with|none=>refine dJ<|dJ !!⟨?_⟩;rw[hw]at q;exact fo q|some n=>refine aX !!!!⟨?_⟩;dsimp only at hw;refine bS (λh=>?_) λh=>?_;rw[if_pos<|zG h]at hw;rw[hw]at q;exact !!⟨fo q⟩;rw[if_neg<|zV h]at hw;rw[hw]at q;exact fo q);rw[if_neg<|zV h]at hw;exact{{_,rfl},rfl,hw}
 rintro aA S' ⟨_,rfl,hw⟩;refine fo {rfl,?_};rw[hw,yp,zb,List.drop_eq_nil_of_le<|by rw[yp];exact zq _];rfl;rintro aA S' ⟨rfl,hw⟩;rw[hw]at q;exact fo q
noncomputable def BR(rs:mx)(k:D)(i:Int):D:=match k with|.str z=>(if kP z=true then wt ((lu rs z).getD []) i else .av)|_=>.av
inductive Pa(C N:Addr)(ds:wp)(S:ao)(R:KD)(Z:KX):Prop where
 |mk (a F cs dl rs k m)(h0:ds=[.ref a,k,m])(h1:bZ C S a F cs dl rs)(h2:Gt S k)(h3:Gt S m)(h4:(∀i,uK dl.length m=some i->R (BR rs k i) S))(h5:(uK dl.length m=none->Z N S))
theorem nv:qv P w mg base T.dk 3 (Pa t.aq t.fN):=by
 obtain⟨a,F,cs,dl,rs,k,m,e,hS,hk,hm,q1,q2⟩:T.dk.F.bF fW;obtain⟨ld,lr,ra,h,hF,t9⟩:=id hS;refine{_,(sc (bP (i:=3) fW.nd<|ox (dv 0) T.aj T.cn (je T) hr<|ap 2 an)<|sc (si (cF<|tv<|aP T.l4 (ig T) hr<|ap 1 an) (s1<|sr dn) s0)<|s1<|sr<|aP T.gF (jZ T) hr<|ac (cr (fl T.aj T.bN<|dv 0) (dv 1)<|b_ an)<|ap 3 an),?_};refine !{a,_,rfl,h.ins,rfl,_,rfl,a,F,cs,dl,rs,m,rfl,hS,hm,λi hi=>?_,λhn=>fo<|q2 hn};have q:=q1 i hi;refine !{k,rfl,hk,_,rfl,?_};refine bS (λh1=>?_) λh1=>?_;have e:BR rs k i=.av:=by cases k with|str z=>exact if_neg (by rw[show kP z=false from nt h1];exact zd)|_=>rfl
 rw[e]at q;exact fo q;have h1:=nf h1;obtain⟨z,rfl⟩:∃z,k=.str z:=by cases k with|str z=>exact⟨z,rfl⟩|_=>cases h1
 have e:BR rs (.str z) i=wt ((lu rs z).getD []) i:=if_pos h1;rw[e]at q;refine !{a,_,_,rfl,h.ins,rfl,lr,_,rfl,h.run,_,rfl,sm<|by decide,λp hp=>{dU ra,.inr z,?_,rfl,?_}};rw[ae<|gA h.run hp];exact h.run;rw[ik];refine{_,rfl,?_};cases e1:t_ ra z with|none=>have e2:lu rs z=none:=(by rw[t9,gU,e1];rfl);rw[e2]at q;exact{p,[],i,rfl,aa,S,.new hp,q}|some ls=>obtain⟨l,vE⟩:=ls;have e2:lu rs z=some vE:=(by rw[t9,gU,e1];rfl);rw[e2]at q;have hc:=h.cell _<|du e1;exact{l,vE,i,rfl,by rw[ae<|gA hc hp];exact hc,S,.new hp,q}
theorem Pb(h:t_ ra k=some (l,s)):DB (ij ra) k s'=ij (ua ra k s'):=by unfold DB;rw[gU,h,if_pos<|show(Option.map (λx:Addr×List Std=>x.2)<|some (l,s)).isSome=true from rfl];unfold ij ua;rw[zt,zt];exact zY λr _=>by dsimp only[Function.comp];split<;>rfl
theorem RY(h:t_ ra k=none):DB (ij ra) k s=ij (ra++[(k,l,s)]):=by unfold DB;rw[gU,h,if_neg<|show ¬(Option.map (λx:Addr×List Std=>x.2) none).isSome=true from zd];unfold ij;rw[zC];rfl
theorem RZ(h:t_ ra k=none):dput (dU ra) (.inr k) (.ref l)=dU (ra++[(k,l,s)]):=by
 unfold dput;have e:((dU ra).any λkv=>decide<|kv.1=.inr k)=false:=by rw[List.any_eq_false];intro x hx;unfold dU at hx;obtain⟨r,hr,rfl⟩:=zh.mp hx;simp only[zR];exact λe=>nr h r hr<|yP e
 rw[e,if_neg zd];unfold dU;rw[zC];rfl
theorem Ka:fp a ld lr (ua ra k s)=fp a ld lr ra:=by unfold fp ua;rw[zt];congr 3;exact zY λr _=>by dsimp only[Function.comp];split<;>rfl
theorem tj(h:l∈F):DD F F S (S.set l c):=λb x hb e=>{hb,by rw[ae<|show b≠l from λz=>hb<|by rw[z];exact h];exact e}
theorem Kb(h:r∈ra):r.2.1∈fp a ld lr ra:=zf _<|zf _<|zf _<|zh.mpr ⟨r,h,rfl⟩
inductive E_(C:Addr)(ds:wp)(S:ao)(R:KD)(Z:KX):Prop where
 |mk (a F cs dl rs z ws)(h0:ds=[.ref a,.str z,.tup ws])(h1:bZ C S a F cs dl rs)(h2:((lu rs z).getD []).length<dl.length)(h3:dl.length<=9000)(h4:rs.length<=9000)(h5:∀S' F',bZ C S' a F' cs dl (DB rs z<|(lu rs z).getD []++[Std.mk dl.length none ws])->DD F F' S S'->R .av S')
theorem A3:qv P w mg base T.bK 2 (E_ t.aq):=by
 refine T.bK.F.bF ie ?_;rintro _ _ _ _ _ _ _ S R Z hr ⟨a,F,cs,dl,rs,z,ws,e,⟨ld,lr,ra,h,hF,t9⟩,hl,hd,hn,q⟩;subst e hF t9;have Oc:(dU ra).length<=9000:=by unfold ij at hn;unfold dU;rw[zb]at hn⊢;exact hn
 refine{_,(s1<|se<|bm zM zW zX cw (ms2 (fl T.aj T.bN<|dv 0) (dv 1)<|b_ an)<|ac (cQ<|ac (fJ (dv 0) T.aj T.fB (xp T) hr)<|ac dn<|ap 2 an) an),?_};refine !{a,_,_,rfl,h.ins,rfl,lr,dU ra,rfl,h.run,_,rfl,sm<|by decide,λp hp=>{dU ra,.inr z,?_,rfl,bg<|by lia,λd BW=>?_,λhn=>?_}};rw[ae<|gA h.run hp];exact h.run;rw[ik]at BW;cases e1:t_ ra z with|none=>(rw[e1]at BW;cases BW)|some ls=>obtain⟨l,vE⟩:=ls;rw[e1]at BW;cases BW;have e2:lu (ij ra) z=some vE:=(by rw[gU,e1];rfl);rw[e2]at q hl;have hc:=h.cell _<|du e1;have PN:(S.set p<|.lst []) l=some (.lst<|vE.map jY):=(by rw[ae<|gA hc hp];exact hc);have hi':(S.set p<|.lst []) a=some (.ins t.aq [("columns",.tup<|cs.map aB),("deeds",.ref ld),("runs",.ref lr)]):=(by rw[ae<|gA h.ins hp];exact h.ins);have qW:DC t.aq (S.set p<|.lst []) a ld lr cs dl ra:={hi',by rw[ae<|gA h.A2 hp];exact h.A2,by rw[ae<|gA h.run hp];exact h.run,λr hr=>by rw[ae<|gA (h.cell r hr) hp];exact h.cell r hr,h.kn,h.an,h.sz};refine{{rfl,_,PN},_,rfl,a,_,rfl,hi',rfl,a,_,cs,dl,_,rfl,⟨ld,lr,ra,qW,rfl,rfl⟩,_,rfl,uH,?_};have hle:vE.length<dl.length:=hl;refine{l,vE.map jY,_,rfl,rfl,PN,bg<|by rw[zb];lia,S.set l<|.lst<|(vE++[Std.mk dl.length none ws]).map jY,λb c hb=>?_,q _ _ {ld,lr,_,h.put e1<|by rw[zE];show vE.length+1<=_;lia,rfl,Pb e1} ?_};by_cases hbl:b=l;subst hbl;rw[aa]at hb⊢;rw[zC]at hb;exact hb;rw[ae hbl]at hb;rw[ae hbl,ae<|gA hb hp];exact hb;rw[Ka];exact tj<|Kb<|du e1
 rw[ik]at hn;cases e1:t_ ra z with|some ls=>(rw[e1]at hn;cases hn)|none=>have e2:lu (ij ra) z=none:=(by rw[gU,e1];rfl);rw[e2]at q hl;have npr:p≠lr:=(gA h.run hp).symm;generalize Fc:(S.set p<|.lst []).set lr _=S1;have s1p:S1 p=some (.lst []):=(by rw[<-Fc,ae npr,aa]);have s1r:S1 lr=some (.dM<|dU<|ra++[(z,p,[])]):=(by rw[<-Fc,aa,RZ e1]);have s1o:∀b,b≠p->b≠lr->S1 b=S b:=λb h1 h2=>(by rw[<-Fc,ae h2,ae h1]);have qW:DC t.aq S1 a ld lr cs dl (ra++[(z,p,[])]):=h.add e1 hp (zU _) s1p s1r s1o;refine{{rfl,_,s1p},_,rfl,a,_,rfl,qW.ins,rfl,a,_,cs,dl,_,rfl,{ld,lr,_,qW,rfl,rfl},_,rfl,uH,?_};refine{p,[],_,rfl,rfl,s1p,bg<|by show 0<=_;lia,S1.set p<|.lst<|[Std.mk dl.length none ws].map jY,.refl _,q _ _ {ld,lr,ra++[(z,p,[Std.mk dl.length none ws])],h.add e1 hp (by show 1<=_;have:0<dl.length:=hl;lia) aa ?_ λb h1 h2=>by rw[ae h1];exact s1o b h1 h2,rfl,RY e1} ?_};rw[ae npr.symm,s1r];unfold dU;rw[zC,zC];rfl;intro b c hb e;have h1:b≠p:=gA e hp;have h2:b≠lr:=λz=>hb (by rw[z];exact zf _<|zf _ zj);refine{λm=>?_,by rw[ae h1,s1o b h1 h2];exact e};unfold fp at m hb;rw[zC]at m;rcases zk.mp m with m|m;exact hb<|m ▸ zj;rcases zk.mp m with m|m;exact hb<|m ▸ zf _ zj;rcases zk.mp m with m|m;exact h2 m;rcases zP.mp m with m|m;exact hb<|zf _<|zf _<|zf _ m;exact h1<|zK.mp m
noncomputable def iV(n:Nat)(l:xz):xz:=l.dropLast++(l.getLast?.map λs=>Std.mk s.b (some n) s.ws).toList
noncomputable def oR(rs:mx)(z:Str)(n:Nat):mx:=DB rs z<|iV n<|(lu rs z).getD []
noncomputable def uL(rs:mx)(z:Str)(n:Nat)(ws:wp):mx:=DB rs z<|(lu rs z).getD []++[Std.mk n none ws]
theorem Kc(h:bZ C S a F cs dl rs)(z:Str):((lu rs z).getD []).length<=dl.length:=by obtain⟨ld,lr,ra,h,_,rfl⟩:=h;rw[gU];cases e:t_ ra z with|none=>exact zU _|some ls=>exact h.sz _<|du (l:=ls.1) (s:=ls.2) e
theorem Nl(rs:mx)(z:Str)(s:xz):(DB rs z s).length<=rs.length+1:=by unfold DB;split;rw[zb];lia;rw[zE];exact zq _
theorem fw:lu (r::rs) k=if r.1=k then some r.2 else lu rs k:=by unfold lu;rw[yc];by_cases h:r.1=k;rw[zu h,if_pos h];rfl;rw[zA h,if_neg h]
theorem j0:lu (DB rs z s) k=if k=z then some s else lu rs k:=by
 unfold DB;by_cases hs:(lu rs z).isSome=true;rw[if_pos hs];by_cases hk:k=z;subst hk;rw[if_pos rfl];induction rs with|nil=>(cases hs)|cons r rs ih=>rw[zx,fw];by_cases h:r.1=k;rw[if_pos h,if_pos h];rw[if_neg h,if_neg h];rw[fw,if_neg h]at hs;exact ih hs
 rw[if_neg hk];clear hs;induction rs with|nil=>rfl|cons r rs ih=>rw[zx,fw,fw,ih];by_cases h:r.1=z;rw[if_pos h,if_neg<|show ¬r.1=k from λe=>hk<|e.symm.trans h,if_neg<|show ¬r.1=k from λe=>hk<|e.symm.trans h];rw[if_neg h]
 rw[if_neg hs];have hn:lu rs z=none:=by cases e:lu rs z<;>simp_all
 clear hs;induction rs with|nil=>rw[List.nil_append,fw];by_cases hk:k=z;rw[if_pos hk,if_pos hk.symm];rw[if_neg hk,if_neg λe=>hk e.symm]|cons r rs ih=>rw[fw]at hn;by_cases h:r.1=z;rw[if_pos h]at hn;cases hn;rw[if_neg h]at hn;rw[List.cons_append,fw,fw,ih hn];by_cases h2:r.1=k;rw[if_pos h2,if_pos h2,if_neg<|show ¬k=z from λe=>h<|h2.trans e];rw[if_neg h2,if_neg h2]
inductive Pc(C:Addr)(ds:wp)(S:ao)(R:KD)(Z:KX):Prop where
 |mk (a F cs dl rs z)(h0:ds=[.ref a,.str z])(h1:bZ C S a F cs dl rs)(h2:(∃s,lu rs z=some s/\s≠[]))(h3:dl.length<=9000)(h4:∀S',bZ C S' a F cs dl (oR rs z dl.length)->DD F F S S'->R .av S')
theorem kB(h:l≠[]):∃r s,l=r++[s]:={l.dropLast,l.getLast h,(List.dropLast_concat_getLast h).symm}
theorem eW(n:Nat)(r:xz)(s:Std):iV n (r++[s])=r++[Std.mk s.b (some n) s.ws]:=by unfold iV;rw[List.dropLast_concat,List.getLast?_concat];rfl
theorem Ke:qv P w mg base T.ck 2 (Pc t.aq):=by refine T.ck.F.bF dX ?_;rintro _ _ _ _ _ _ _ S R Z hr ⟨a,F,cs,dl,rs,z,e,⟨ld,lr,ra,h,hF,t9⟩,⟨s0,TB,pU⟩,hd,q⟩;subst e hF t9;rw[gU]at TB;cases e1:t_ ra z with|none=>(rw[e1]at TB;cases TB)|some ls=>obtain⟨l,vE⟩:=ls;rw[e1]at TB;cases TB;obtain⟨r,sd,rfl⟩:=kB pU;have hlen:=h.sz _<|du e1;dsimp only at hlen;rw[zE]at hlen;have hlen:r.length+1<=dl.length:=hlen;have hc:=h.cell _<|du e1;dsimp only at hc;have ed:bY (dU ra) (.inr z)=some (.ref l):=(by rw[ik,e1];rfl);refine{_,(sc (bP (i:=2) dX.nd<|bm0 zM PySem.F.slot_list_pop PySem.F.type_list_pop VO<|ix hr.u (fl T.aj T.bN<|dv 0)<|dv 1)<|s1<|se<|bm zM zW zX cw (ix hr.u (fl T.aj T.bN<|dv 0)<|dv 1)<|ac (cQ<|ac (ix hr.u (dv 2) di)<|ac (fJ (dv 0) T.aj T.fB (xp T) hr)<|ac (ix hr.u (dv 2) di) an) an),?_};refine !{a,_,_,rfl,h.ins,rfl,_,rfl,dU ra,_,h.run,ed,{rfl,_,hc},l,_,jY sd,rfl,rfl,hc,?_,?_};rw[zC,zE];show(r.map jY++[jY sd])[(r.map jY).length+1-1]?=_;simp;have e2:((r++[sd]).map jY).dropLast=r.map jY:=(by rw[zC];exact List.dropLast_concat);rw[e2];have h1:DC t.aq (S.set l<|.lst<|r.map jY) a ld lr cs dl (ua ra z r):=h.put e1 (by lia);generalize Fc:S.set l _=S1 at h1;have e1':t_ (ua ra z r) z=some (l,r):=(by have hm:(z,l,r)∈ua ra z r:=(by unfold ua;exact zh.mpr {_,du e1,if_pos rfl});cases e3:t_ (ua ra z r) z with|none=>exact absurd rfl (nr e3 _ hm)|some x=>exact congrArg some<|congrArg Prod.snd<|gH (f:=λr:Str×Addr×List Std=>r.1) h1.kn (du (l:=x.1) (s:=x.2) e3) hm rfl);have ed':bY (dU<|ua ra z r) (.inr z)=some (.ref l):=(by rw[ik,e1'];rfl);have Yv:=h1.cell _<|du e1';refine !{a,_,_,rfl,h1.ins,rfl,_,rfl,_,_,h1.run,ed',{rfl,_,Yv},_,rfl,_,rfl,_,rfl,a,_,rfl,h1.ins,rfl,a,_,cs,dl,_,rfl,{ld,lr,_,h1,rfl,rfl},_,rfl,_,rfl,uH,l,_,_,rfl,rfl,Yv,bg<|by rw[zb];show r.length<=_;lia,?_};have h2:=h1.put (s':=r++[Std.mk sd.b (some dl.length) sd.ws]) e1' (by rw[zE];exact hlen);have e4:oR (ij ra) z dl.length=ij (ua (ua ra z r) z<|r++[Std.mk sd.b (some dl.length) sd.ws]):=(by unfold oR;rw[gU,e1];show DB (ij ra) z (iV dl.length<|r++[sd])=_;rw[eW,Pb e1];unfold ij ua;rw[zt,zt,zt];exact zY λx _=>by dsimp only[Function.comp];by_cases hx:x.1=z<;>simp[hx]);refine{_,?_,q _ {ld,lr,_,h2,by rw[Ka,Ka],e4} ?_};show Sub (S1.set l<|.lst<|(r++[_]).map jY) (S1.set l<|.lst<|r.map jY++[_]);rw[zC];exact .refl _;rw[<-Fc,bp];exact tj<|Kb<|du e1
theorem Fd(h:ofStr kP d=true):∃z,d=.str z/\kP z=true:=by cases d with|str z=>exact⟨z,rfl,h⟩|_=>cases h
theorem Fe(h:oO cs k v=true):∃z ws,k=.str z/\v=.tup ws/\kP z=true:=by unfold oO at h;rw[zI]at h;obtain⟨z,rfl,hz⟩:=Fd h.1;cases v with|tup ws=>exact⟨z,ws,rfl,rfl,hz⟩|_=>exact absurd h.2 zd
theorem xq:Gt S .av:={{.av,rfl},λ_=>nofun}
theorem Pd(h:ag (wt l m)=false):l≠[]:=by rintro rfl;cases h
theorem xr(hz:kP z=true)(i:Int):BR rs (.str z) i=wt ((lu rs z).getD []) i:=if_pos hz
inductive eX(t:eZ)(ds:wp)(S:ao)(R:KD)(Z:KX):Prop where
 |mk (a F cs dl rs k)(h0:ds=[.ref a,k])(h1:bZ t.aq S a F cs dl rs)(h2:Gt S k)(h3:(ag (BR rs k dl.length)=false->R .av S))(h4:(ag (BR rs k dl.length)=true->Z t.mT S))
theorem jf:qv P w mg base T.cj 4 (eX t):=by obtain⟨a,F,cs,dl,rs,k,e,hS,hk,q1,q2⟩:T.cj.F.bF jm;obtain⟨ld,lr,ra,h,_⟩:=id hS;refine{_,(s1<|si (bn fm (cme (dv 0) T.aj T.dk.e ((nv T).mono<|by decide) hr T.fi d1<|ap 1 an) dn) (s1<|sj ⟨T.wN⟩ T.J2<|ac ds an) s0),?_};refine !{a,_,rfl,h.ins,rfl,_,rfl,a,F,cs,dl,rs,k,.av,rfl,hS,hk,xq,λi hi=>?_,λhn=>by cases hn};cases hi;refine{_,rfl,?_};refine bS (λh1=>?_) λh1=>?_;exact{uG,fo<|q2 h1};exact fo<|q1 h1
inductive j5(t:eZ)(ds:wp)(S:ao)(R:KD)(Z:KX):Prop where
 |mk (a F cs dl rs k v)(h0:ds=[.ref a,k,v])(h1:bZ t.aq S a F cs dl rs)(h2:cs.length<=8)(h3:Gt S k)(h4:T_ S v)(h5:dl.length<=8000)(h6:rs.length<=8000)(h7:(oO cs k v=false->Z t.hU S))(h8:(oO cs k v=true->ag (BR rs k dl.length)=false->Z t.sH S))(h9:(∀z ws,k=.str z->v=.tup ws->oO cs k v=true->ag (BR rs k dl.length)=true->∀S' F',bZ t.aq S' a F' cs (dl++[.tup [.str "put",k,v]]) (uL rs z (dl.length+1) ws)->DD F F' S S'->R .av S'))
theorem R1:qv P w mg base T.fA 6 (j5 t):=by obtain⟨a,F,cs,dl,rs,k,v,e,hS,hc,hk,hv,hd,hn,q1,q2,q3⟩:T.fA.F.bF xh;obtain⟨ld,lr,ra,h,hF,t9⟩:=id hS;refine{_,(sc (se<|aP T.ku (nq T) hr<|ac (fl T.aj T.cS<|dv 0)<|ac (cQ<|ap 1<|ap 2 an) an)<|sc (si (bn lQ (cme (dv 0) T.aj T.dk.e ((nv T).mono<|by decide) hr T.fi d1<|ap 1 an) dn) (s1<|sj ⟨T.sM⟩ T.Ha<|ac ds an) s0)<|sc (se<|bm zM zW zX cw (fl T.aj T.cG<|dv 0)<|ac (cQ<|ac ds<|ap 1<|ap 2 an) an)<|s1<|se<|ox (dv 0) T.aj T.bK (A3 T) hr<|ap 1<|ap 2 an),?_};refine !{a,_,_,rfl,h.ins,rfl,_,rfl,_,rfl,cX,cs,k,v,rfl,hc,hk,hv,λHm=>?_,λx_=>fo<|q1 x_};refine !{a,_,rfl,h.ins,rfl,_,rfl,a,F,cs,dl,rs,k,.av,rfl,hS,hk,xq,λi hi=>?_,λhn=>by cases hn};cases hi;refine{_,rfl,?_};refine bS (λh1=>?_) λh1=>?_;exact{uG,fo<|q2 Hm<|nt h1};obtain⟨z,ws,rfl,rfl,hz⟩:=Fe Hm;refine !{a,_,_,rfl,h.ins,rfl,{rfl,_,h.A2},_,rfl,_,rfl,uH,ld,dl,_,rfl,rfl,h.A2,bg<|by lia,?_};have GG:=h.RX<|.tup [.str "put",.str z,.tup ws];have Fc:bZ t.aq (S.set ld<|.lst<|dl++[.tup [.str "put",.str z,.tup ws]]) a F cs (dl++[.tup [.str "put",.str z,.tup ws]]) rs:=⟨ld,lr,ra,GG,hF,t9⟩;have hl:=Kc hS z;refine !{a,_,rfl,GG.ins,rfl,_,rfl,_,rfl,a,F,cs,_,rs,z,ws,rfl,Fc,by rw[zE];exact Nat.lt_succ_of_le hl,by rw[zE];show dl.length+1<=_;lia,by lia,λS' F' qW hK=>fo<|q3 z ws rfl rfl Hm (nf h1) S' F' ?_ ?_};have:(dl++[D.tup [.str "put",.str z,.tup ws]]).length=dl.length+1:=zE;rw[this]at qW;exact qW;refine DD.trans (tj ?_) hK;rw[hF];exact zf _ zj
inductive fY(t:eZ)(ds:wp)(S:ao)(R:KD)(Z:KX):Prop where
 |mk (a F cs dl rs k v)(h0:ds=[.ref a,k,v])(h1:bZ t.aq S a F cs dl rs)(h2:cs.length<=8)(h3:Gt S k)(h4:T_ S v)(h5:dl.length<=8000)(h6:rs.length<=8000)(h7:(oO cs k v=false->Z t.hU S))(h8:(oO cs k v=true->ag (BR rs k dl.length)=true->Z t.mT S))(h9:(∀z ws,k=.str z->v=.tup ws->oO cs k v=true->ag (BR rs k dl.length)=false->∀S' F',bZ t.aq S' a F' cs (dl++[.tup [.str "change",k,v]]) (uL (oR rs z dl.length) z (dl.length+1) ws)->DD F F' S S'->R .av S'))
theorem Hn:qv P w mg base T.cU 6 (fY t):=by
 obtain⟨a,F,cs,dl,rs,k,v,e,hS,hc,hk,hv,hd,hn,q1,q2,q3⟩:T.cU.F.bF qA;obtain⟨ld,lr,ra,h,hF,t9⟩:=id hS;refine{_,(sc (se<|aP T.ku (nq T) hr<|ac (fl T.aj T.cS<|dv 0)<|ac (cQ<|ap 1<|ap 2 an) an)<|sc (se<|ox (dv 0) T.aj T.cj (jf T) hr<|ap 1 an)<|sc (se<|ox (dv 0) T.aj T.ck (Ke T) hr<|ap 1 an)<|sc (se<|bm zM zW zX cw (fl T.aj T.cG<|dv 0)<|ac (cQ<|ac ds<|ap 1<|ap 2 an) an)<|s1<|se<|ox (dv 0) T.aj T.bK (A3 T) hr<|ap 1<|ap 2 an),?_};refine !{a,_,_,rfl,h.ins,rfl,_,rfl,_,rfl,cX,cs,k,v,rfl,hc,hk,hv,λHm=>?_,λx_=>fo<|q1 x_};refine !{a,_,rfl,h.ins,rfl,_,rfl,a,F,cs,dl,rs,k,rfl,hS,hk,λh1=>?_,λh1=>fo<|q2 Hm h1};obtain⟨z,ws,rfl,rfl,hz⟩:=Fe Hm;have pU:∃s,lu rs z=some s/\s≠[]:=by rw[xr hz]at h1;have:=Pd h1;cases e:lu rs z with|none=>rw[e]at this;exact absurd rfl this|some s=>rw[e]at this;exact⟨s,rfl,this⟩
 refine !{a,_,rfl,h.ins,rfl,_,rfl,a,F,cs,dl,rs,z,rfl,hS,pU,by lia,λS1 Fc WU=>?_};obtain⟨Ua,lr1,ra1,GG,WV,R3⟩:=id Fc;refine !{a,_,_,rfl,GG.ins,rfl,{rfl,_,GG.A2},_,rfl,_,rfl,uH,Ua,dl,_,rfl,rfl,GG.A2,bg<|by lia,?_};have h2:=GG.RX<|.tup [.str "change",.str z,.tup ws];have WW:bZ t.aq (S1.set Ua<|.lst<|dl++[.tup [.str "change",.str z,.tup ws]]) a F cs (dl++[.tup [.str "change",.str z,.tup ws]]) (oR rs z dl.length):=⟨Ua,lr1,ra1,h2,WV,R3⟩;have hl:=Kc Fc z;have JC:(oR rs z dl.length).length<=rs.length+1:=Nl _ _ _;refine !{a,_,rfl,h2.ins,rfl,_,rfl,_,rfl,a,F,cs,_,_,z,ws,rfl,WW,by rw[zE];exact Nat.lt_succ_of_le hl,by rw[zE];show dl.length+1<=_;lia,by lia,λS' F' qW hK=>fo<|q3 z ws rfl rfl Hm h1 S' F' ?_ ?_};have:(dl++[D.tup [.str "change",.str z,.tup ws]]).length=dl.length+1:=zE;rw[this]at qW;exact qW;refine WU.trans<|DD.trans (tj ?_) hK;rw[WV];exact zf _ zj
inductive iW(t:eZ)(ds:wp)(S:ao)(R:KD)(Z:KX):Prop where
 |mk (a F cs dl rs k)(h0:ds=[.ref a,k])(h1:bZ t.aq S a F cs dl rs)(h2:Gt S k)(h3:dl.length<=8000)(h4:(ofStr kP k=false->Z t.hU S))(h5:(ofStr kP k=true->ag (BR rs k dl.length)=true->Z t.mT S))(h6:(∀z,k=.str z->kP z=true->ag (BR rs k dl.length)=false->∀S',bZ t.aq S' a F cs (dl++[.tup [.str "take",k]]) (oR rs z dl.length)->DD F F S S'->R .av S'))
theorem Nm:qv P w mg base T.eF 6 (iW t):=by
 obtain⟨a,F,cs,dl,rs,k,e,hS,hk,hd,q1,q2,q3⟩:T.eF.F.bF uF;obtain⟨ld,lr,ra,h,hF,t9⟩:=id hS;refine{_,(sc (si (cF<|tv<|aP T.l4 (ig T) hr<|ap 1 an) (s1<|sj ⟨T.h_⟩ T.kr<|ac ds an) s0)<|sc (se<|ox (dv 0) T.aj T.cj (jf T) hr<|ap 1 an)<|sc (se<|ox (dv 0) T.aj T.ck (Ke T) hr<|ap 1 an)<|s1<|se<|bm zM zW zX cw (fl T.aj T.cG<|dv 0)<|ac (cQ<|ac ds<|ap 1 an) an),?_};refine !{k,rfl,hk,_,rfl,?_};refine bS (λh0=>?_) λh0=>?_;exact{uG,fo<|q1<|nt h0};have h0:=nf h0;refine !{a,_,rfl,h.ins,rfl,_,rfl,a,F,cs,dl,rs,k,rfl,hS,hk,λh1=>?_,λh1=>fo<|q2 h0 h1};obtain⟨z,rfl,hz⟩:=Fd h0;have pU:∃s,lu rs z=some s/\s≠[]:=by rw[xr hz]at h1;have:=Pd h1;cases e:lu rs z with|none=>rw[e]at this;exact absurd rfl this|some s=>rw[e]at this;exact⟨s,rfl,this⟩
 refine !{a,_,rfl,h.ins,rfl,_,rfl,a,F,cs,dl,rs,z,rfl,hS,pU,by lia,λS1 Fc WU=>?_};obtain⟨Ua,lr1,ra1,GG,WV,R3⟩:=id Fc;refine !{a,_,_,rfl,GG.ins,rfl,{rfl,_,GG.A2},_,rfl,cX,Ua,dl,_,rfl,rfl,GG.A2,bg<|by lia,?_};refine fo<|q3 z rfl hz h1 _ {Ua,lr1,ra1,GG.RX _,WV,R3}<|WU.trans<|tj ?_;rw[WV];exact zf _ zj
inductive ip(t:eZ)(ds:wp)(S:ao)(R:KD)(Z:KX):Prop where
 |mk (a cs)(h0:ds=[.ref a,.tup<|cs.map aB])(h1:Gd cs)(h2:S a=some (.ins t.aq []))(h3:∀S' F,bZ t.aq S' a F cs [] []->DD [a] F S S'->R .av S')
theorem Nn:qv P w mg base T.fU 5 (ip t):=by
 obtain⟨a,cs,e,hg,ha,q⟩:T.fU.F.bF m_;refine{_,(sc (se<|aP T.gQ (oQ T) hr<|ap 1 an)<|sc (sf T.aj T.cS (dv 0)<|dv 1)<|sc (sf T.aj T.cG (dv 0)<|b_ an)<|s1<|sf T.aj T.bN (dv 0) VF),?_};refine !{cs,rfl,hg,_,rfl,_,rfl,a,[],rfl,ha,(show 0<1000 by decide),?_};refine{ng,λld Ub=>!{a,[("columns",.tup<|cs.map aB)],rfl,?_,(show 1<1000 by decide),λlr JC=>!{a,[("columns",.tup<|cs.map aB),("deeds",.ref ld)],rfl,?_,(show 2<1000 by decide),?_}}};have nl:a≠ld:=by rintro rfl;rw[aa]at Ub;cases Ub
 rw[ae nl,aa];rfl;have nl:a≠lr:=by rintro rfl;rw[aa]at JC;cases JC
 rw[ae nl,aa];rfl;have n1:a≠ld:=by rintro rfl;rw[aa]at Ub;cases Ub
 have n2:a≠lr:=by rintro rfl;rw[aa]at JC;cases JC
 have n3:ld≠lr:=by rintro rfl;rw[ae n1.symm,aa]at JC;cases JC
 rw[ae n1.symm]at Ub;rw[ae n2.symm,ae n3.symm,ae n2.symm]at JC;refine fo<|q _ (fp a ld lr []) {ld,lr,[],{aa,?_,?_,λr hr=>(nomatch hr),List.nodup_nil,(by simp),λr hr=>(nomatch hr)},rfl,rfl} λb c hb e=>?_;rw[ae n1.symm,ae n3,ae n1.symm,aa];rw[ae n2.symm,aa];rfl;have b1:b≠a:=λz=>hb (by rw[z];exact zj);have b2:b≠ld:=gA e Ub;have b3:b≠lr:=gA e JC;refine{λm=>?_,by rw[ae b1,ae b3,ae b1,ae b2,ae b1];exact e};unfold fp at m;simp only[yV,zk,zO,or_false]at m;rcases m with m|m|m;exact b1 m;exact b2 m;exact b3 m
noncomputable def xt(rs:mx)(i:Int)(z:Str):D:=.tup [.str z,wt ((lu rs z).getD []) i]
noncomputable def l9(rs:mx)(i:Int)(ss:lc):wp:=(ss.filter λz=>!ag (wt ((lu rs z).getD []) i)).map<|xt rs i
noncomputable def xu:D->Bool|.tup [_,x]=>!ag x|_=>false
theorem A4(ss:lc):((ss.map<|xt rs i).filter xu).map id=l9 rs i ss:=by unfold l9;rw[List.map_id,List.filter_map];rfl
inductive Pe(C N:Addr)(ds:wp)(S:ao)(R:KD)(Z:KX):Prop where
 |mk (a F cs dl rs m)(h0:ds=[.ref a,m])(h1:bZ C S a F cs dl rs)(h2:rs.length<64)(h3:Gt S m)(h4:(∀i ss,uK dl.length m=some i->ss.Perm (rs.map (·.1))->PyProof.Rows.sortedS ss=true->∀p,S p=none->R (.ref p) (S.set p<|.lst<|l9 rs i ss)))(h5:(uK dl.length m=none->Z N S))
theorem Ho:qv P w mg base T.iI 3 (Pe t.aq t.fN):=by
 obtain⟨a,F,cs,dl,rs,m,e,hS,hn,hm,q1,q2⟩:T.iI.F.bF fe;obtain⟨ld,lr,ra,h,hF,t9⟩:=id hS;have ek:(dU ra).map (·.1)=(rs.map (·.1)).map Sum.inr:=by rw[t9];unfold dU ij;rw[zt,zt,zt];rfl
 have el:(dU ra).length<64:=by rw[t9]at hn;unfold ij at hn;unfold dU;rw[zb]at hn⊢;exact hn
 refine{_,(sc (bP (i:=2) fe.nd<|ox (dv 0) T.aj T.cn (je T) hr<|ap 1 an)<|sc (AI (N:=["key","then","self"]) (src:=[none,some 2,some 0]) 3 fe.nd (km<|inClass bw 10) (il<|cb Ax T.fQ d_<|ac (fl T.aj T.bN<|dv 0) an) nW<|cQ<|ap 0<|ac (aP T.gF (jZ T) hr<|ac (bv (fl T.aj T.bN<|dv 2)<|dv 0)<|ap 1 an) an)<|s1<|sr<|sA (N:=["row"]) (src:=[none]) (km<|inClass bw 10) (il<|dv 3) (if1<|bn lQ (bv (dv 0) di) dn)<|dv 0),?_};refine !{a,_,rfl,h.ins,rfl,_,rfl,a,F,cs,dl,rs,m,rfl,hS,hm,λi hi=>?_,λhn=>fo<|q2 hn};refine !{a,_,_,rfl,h.ins,rfl,lr,dU ra,rs.map (·.1),rfl,h.run,ek,el,λss hp hs p lq=>?_};have hlen:ss.length<64:=by rw[hp.length_eq,zb];exact hn
 refine{_,aa,?_};refine comp_map (λd=>match d with|.str z=>xt rs i z|_=>.av) aa (by show(ss.map D.str).length<=1000;rw[zb];omega) (λd hd Q hQ=>?_) λp2 iu=>?_;obtain⟨z,hz,rfl⟩:=zh.mp hd;have ZX:z∈rs.map (·.1):=hp.mem_iff.mp hz;obtain⟨r,jg,e⟩:=zh.mp ZX;rw[t9]at jg;unfold ij at jg;obtain⟨r0,x_,rfl⟩:=zh.mp jg;have e1:t_ ra z=some r0.2:=by cases e3:t_ ra z with|none=>exact absurd e (nr e3 _ x_)|some x=>exact congrArg some<|congrArg Prod.snd<|gH (f:=λr:Str×Addr×List Std=>r.1) h.kn (du (l:=x.1) (s:=x.2) e3) x_ e.symm
 have ed:bY (dU ra) (.inr z)=some (.ref r0.2.1):=by rw[ik,e1];rfl
 have hc:=h.cell _ x_;have eq:(lu rs z).getD []=r0.2.2:=by rw[t9,gU,e1];rfl
 have hQ:Q (.tup [.str z,wt ((lu rs z).getD []) i]) (S.set p<|.lst<|ss.map D.str):=hQ;rw[eq]at hQ;have hi1:(S.set p<|.lst<|ss.map D.str) a=_:=(ae<|gA h.ins lq).trans h.ins;have Hm:(S.set p<|.lst<|ss.map D.str) lr=_:=(ae<|gA h.run lq).trans h.run;have Yv:(S.set p<|.lst<|ss.map D.str) r0.2.1=_:=(ae<|gA hc lq).trans hc;exact !!{a,_,_,rfl,hi1,rfl,_,rfl,dU ra,_,Hm,ed,_,rfl,_,_,i,rfl,Yv,cX,hQ};have em:(ss.map D.str).map (λd=>match d with|.str z=>xt rs i z|_=>.av)=ss.map (xt rs i):=by rw[zt];rfl
 refine !{ss.map<|xt rs i,by show((S.set p _).set p2<|.lst<|(ss.map D.str).map _) p2=_;rw[aa,em],?_};refine fF xu id (by show((S.set p _).set p2<|.lst<|(ss.map D.str).map _) p2=_;rw[aa,em]) (by show(ss.map<|xt rs i).length<=1000;rw[zb];omega) (λd hd Q Q' hQ Kf=>?_) λp3 Pf=>?_;obtain⟨z,hz,rfl⟩:=zh.mp hd;refine !!!⟨?_⟩;exact bS (λh=>!⟨hQ h⟩) λh=>Kf h;have abl:S p3=none:=by cases e:S p3 with|none=>rfl|some c=>exact absurd Pf<|by rw[ae (gA e<|by have:(S.set p<|.lst<|ss.map D.str) p2=none:=iu;cases e':S p2 with|none=>rfl|some c'=>rw[ae<|gA e' lq,e']at this;cases this),ae<|gA e lq,e];exact nofun
 refine{S.set p3<|.lst<|l9 rs i ss,λb c hb=>?_,q1 i ss hi hp hs p3 abl};show((((S.set p<|.lst<|ss.map D.str).set p2 _).set p3<|.lst<|((ss.map<|xt rs i).filter xu).map id)) b=some c;rw[A4];by_cases hb3:b=p3;subst hb3;rw[aa]at hb⊢;exact hb;rw[ae hb3]at hb;have abn:S p2=none:=by cases e':S p2 with|none=>rfl|some c'=>have:(S.set p<|.lst<|ss.map D.str) p2=none:=iu;rw[ae<|gA e' lq,e']at this;cases this
 rw[ae hb3,ae<|gA hb abn,ae<|gA hb lq];exact hb
theorem Hq{S:ao}{p:Addr}{c:Ce}(h:S p=some c):S.set p c=S:=by funext b;by_cases e:b=p;subst e;rw[aa,h];rw[ae e]
theorem Kg{S:ao}{p q:Addr}{c e:Ce}(h:S q=none)(hn:p≠q):Sub (S.set p c) ((S.set q e).set p c):=λb x hb=>by by_cases WX:b=p;subst WX;rw[aa]at hb⊢;exact hb;rw[ae WX]at hb⊢;exact(Sub.new h) _ _ hb
theorem dpI:∀xs:ul,DpAll S (xs.map D.int) (xs.map PyData.int)/\PyData.canLayAll0 (xs.map PyData.int)=true/\PyData.depthAll (xs.map PyData.int)<=0|[]=>{by simp only[yV,DpAll],rfl,zU _}|x::xs=>by obtain⟨a,b,c⟩:=dpI (S:=S) xs;exact{by simp only[zx,DpAll];exact{_,_,rfl,by simp only[Dp],a},by simp only[zx,PyData.canLayAll0,PyData.canLay0,b,Bool.and_self],by simp only[zx,PyData.depthAll,PyData.depth];lia}
theorem Np{S:ao}{a b:Addr}{xs:ul}{R:KD}(e1:S a=some (.lst<|xs.map D.int))(e2:S b=some (.lst []))(q:R (.bl xs.isEmpty) S):GK false (.ref a) (.ref b) S R:=by obtain⟨k1,k2,k3⟩:=dpI (S:=S) xs;refine{.list<|xs.map PyData.int,.list [],{_,_,e1,rfl,k1},{[],[],e2,rfl,by simp only[DpAll]},by simp only[PyData.canLay0];exact k2,by simp only[PyData.canLay0,PyData.canLayAll0],.inl<|by simp only[PyData.depth];lia,?_};rw[if_neg zd,show PyData.eqv (.list<|xs.map PyData.int) (.list [])=xs.isEmpty by cases xs<;>simp[PyData.eqv,PyData.eqvAll]];exact q
theorem Nq{k n:Nat}(h:k<n):seqIndex? ((k:Nat):Int) n=some k:=by have e:(if ((k:Nat):Int)<0 then ((k:Nat):Int)+(n:Int) else ((k:Nat):Int))=((k:Nat):Int):=if_neg (by lia);unfold seqIndex?;dsimp only;rw[e,if_pos<|by simp;lia];rfl
theorem kQ{p:Bool}{A B:Prop}(h:p=false)(q:B):if p=true then A else B:=by rw[h];exact aX q
theorem Yw{p:Bool}{A B:Prop}(h:p=true)(q:A):if p=true then A else B:=by rw[h];exact dJ q
theorem cq{L:wp}{S:ao}{p:Addr}{n:Int}{R:KD}(h0:0<=n)(h1:n<(L.length:Int))(hp:S p=none)(q:∀d,d∈L->R d S):AtL p n (S.set p<|.lst L) λd S'=>Fo S' (R d):=by obtain⟨v,e1,e2⟩:=qQ (l:=L) h0 h1;exact{L,v,aa,e1,S,.new hp,q v<|zy e2}
theorem A5{xs:ul}{i:Int}{P:Int->Prop}(h0:0<=i)(h1:i<((xs.map D.int).length:Int))(h:∀x∈xs,P x):∃x,gZ (xs.map D.int) i=some (.int x)/\P x:=by obtain⟨d,e1,e2⟩:=qQ (l:=xs.map D.int) h0 h1;obtain⟨x,hx,rfl⟩:=zh.mp<|zy e2;exact{x,e1,h x hx}
inductive pV(ds:wp)(S:ao)(R:KD)(Z:KX):Prop where
 |mk (ns:ul)(k:Nat)(h0:ds=[.jl<|ns.map D.int,.int k])(h1:∀c:Int,R (.int c) S)
theorem dE:Ok P w base T.cT 1 pV:=by
 obtain⟨ns,k,e,q⟩:T.cT.F.bF xg;refine{_,(sc (si (bn rZ (dv 1)<|cb aO T.aL aD<|ap 0 an) (s1<|sr<|bv (dv 0)<|dv 1) s0)<|s1<|sr di),?_};refine !!!!⟨?_⟩;refine bS (λh=>?_) λh=>?_;have h:(k:Int)<(((ns.map D.int).length:Nat):Int):=zG h;have hk:k<ns.length:=by rw[zb]at h;lia
 exact !!{.int ns[k],bu<|by rw[zi];simp[hk],fo<|q _};exact fo<|q 0
inductive Dv(S:ao)(c:Int)(n:Nat)(lf:Addr)(aA:SD)(S':ao):Prop where
 |mk (r:Int)(xs:ul)(h0:aA=[some<|.int c,some<|.int (n:Nat),some<|.ref lf,some<|.int r,none,none])(h1:S'=S.set lf (.lst<|xs.map D.int))(h2:xs.length<=n)(h3:∀x∈xs,0<=x):Dv S c n lf aA S'
inductive Dw(S:ao)(c:Int)(n:Nat)(lf:Addr)(m:Nat)(aA:SD)(S':ao):Prop where
 |mk (r:Int)(xs:ul)(h0:aA=[some<|.int c,some<|.int (n:Nat),some<|.ref lf,some<|.int r,none,none])(h1:S'=S.set lf (.lst<|xs.map D.int))(h2:xs.length+m=n)(h3:∀x∈xs,0<=x):Dw S c n lf m aA S'
inductive Dx(S:ao)(c:Int)(n:Nat)(lf:Addr)(r:Int)(aA:SD)(S':ao):Prop where
 |mk (o4 o5:wP)(xs:ul)(h0:aA=[some<|.int c,some<|.int (n:Nat),some<|.ref lf,some<|.int r,o4,o5])(h1:S'=S.set lf (.lst<|xs.map D.int))(h2:n<=xs.length)(h3:xs.length<=40)(h4:∀x∈xs,0<=x):Dx S c n lf r aA S'
inductive Dy(S:ao)(c:Int)(n:Nat)(lf:Addr)(r:Int)(xl i:Nat)(aA:SD)(S':ao):Prop where
 |mk (nu:Int)(o5:wP)(xs:ul)(h0:aA=[some<|.int c,some<|.int (n:Nat),some<|.ref lf,some<|.int r,some<|.int nu,o5])(h1:0<=nu)(h2:nu<1000000000000048280)(h3:S'=S.set lf (.lst<|xs.map D.int))(h4:xs.length=xl+(i-3))(h5:∀x∈xs,0<=x):Dy S c n lf r xl i aA S'
inductive vF(ds:wp)(S:ao)(R:KD)(Z:KX):Prop where
 |mk (c:Int)(n:Nat)(h0:ds=[.int c,.int (n:Nat)])(h1:n<=20)(h2:∀(xs:ul) p,xs.length=n->(∀x∈xs,0<=x)->S p=none->R (.ref p) (S.set p<|.lst<|xs.map D.int))
theorem j6:Ok P w base T.iQ 1 vF:=by
 obtain⟨c,n,e,hn,q⟩:T.iQ.F.bF cH;refine{_,(sc (bP (i:=2) cH.nd<|b_ an)<|sc (bP (i:=3) cH.nd di)<|sc (qX<|si (bn aaa (dv 0)<|be mJ di di) (s1<|bP (i:=3) cH.nd<|be kZ (dv 0)<|be mJ di di) s0)<|sc (qX<|swh (twd<|twand (bn qu (dv 3) di)<|tw1<|bn rZ (cb aO T.aL aD<|ap 2 an)<|dv 1)<|sc (se<|bm zM zW zX cw (dv 2)<|ac (be bq (dv 3)<|be mJ di di) an)<|s1<|bP (i:=3) cH.nd<|be cg (dv 3)<|be mJ di di)<|sc (bP (i:=4) cH.nd<|be bz (be bq (dv 0)<|be bz (be mJ di di) di) di)<|sc (qX<|GR (LG T.dN<|ac (be bz (dv 1) di) an) (gn (i:=5) cH.nd)<|sc (bP (i:=4) cH.nd<|be bq (be bz (be bz (be rY (dv 4)<|dv 4)<|be rY di<|dv 4)<|dv 5)<|be bz (be mJ di di) di)<|s1<|si (bn qu (dv 5) di) (s1<|se<|bm zM zW zX cw (dv 2)<|ac (be bq (be rY (dv 4)<|be bz (be cg (dv 4) di) di)<|be bz (be mJ di di) di) an) s0)<|s1<|sr<|WL (dv 2) o0<|o1<|dv 1),?_};refine{ng,λlf Nr=>?_};refine{λaA S'=>∃r:Int,aA=[some<|.int c,some<|.int (n:Nat),some<|.ref lf,some<|.int r,none,none]/\S'=S.set lf (.lst []),?_,?_};refine{_,rfl,{by decide,by decide,by decide},_,rfl,bS (λh=>?_) λh=>fo {0,rfl,rfl}};exact{_,rfl,{by decide,by decide,by decide},fo !⟨rfl⟩};rintro aA S' ⟨r,rfl,rfl⟩;refine{Dv S c n lf,?_,?_};refine{Dw S c n lf,{n,r,[],rfl,rfl,Nat.zero_add _,λ_ h=>(nomatch h)},?_};rintro m aA S' ⟨r,xs,rfl,rfl,hl,hx⟩;have hS:(S.set lf<|.lst<|xs.map D.int) lf=some (.lst<|xs.map D.int):=aa;refine !!⟨bS (λh1=>!!⟨.inl {_,hS,_,rfl,_,rfl,bS (λh2=>?_) λh2=>?_}⟩) λh1=>aX<|fo {r,xs,rfl,rfl,by lia,hx}⟩;have h2:(((xs.map D.int).length:Nat):Int)<((n:Nat):Int):=zG h2;rw[zb]at h2;refine{_,rfl,{rfl,_,hS},_,rfl,{by decide,by decide,by decide},by decide,lf,_,_,rfl,rfl,hS,bg<|by rw[zb];lia,?_};refine{_,rfl,{by decide,by decide,by decide},{by decide,by trivial},m-1,by lia,_,xs++[r%10^(15:Int).toNat],rfl,?_,by rw[zE];show xs.length+1+_=_;lia,λx FW=>?_};rw[bp,zC];rfl;rcases zP.mp FW with h|h;exact hx x h;rw[zK.mp h];exact zN _ (by decide);exact fo {r,xs,rfl,rfl,by lia,hx};rintro aA S' ⟨r,xs,rfl,rfl,hl,hx⟩;have nb:∀z:Int,0<=z%1000000000000000009/\z%1000000000000000009<1000000000000000009:=λz=>{zN z<|by decide,zL z<|by decide};have e18:((10:Int)^(18:Int).toNat+9)=1000000000000000009:=by decide
 refine{_,rfl,{by decide,by decide,by decide},by decide,?_};refine{Dx S c n lf r,?_,?_};refine !{((n:Nat):Int)+3,rfl,by lia,by lia,?_};refine{Dy S c n lf r xs.length,?_,λ_ _ _ _=>trivial,?_,?_};have:=nb c;rw[e18];exact{_,none,xs,rfl,by lia,by lia,rfl,rfl,hx};rintro i d aA S' hd ⟨nu,o5,ys,rfl,n0,n1,rfl,hyl,hy⟩;have hd:(cR 0 (((n:Nat):Int)+3).toNat)[i]?=some d:=hd;obtain⟨hi,rfl⟩:=bU hd;refine !!{.inl {by lia,by lia},_,rfl,.inl {by decide,by decide},_,rfl,{by decide,by decide,by decide},by decide,?_};rw[e18];have b1:=nb<|nu*nu+48271*nu+(0+(i:Nat));generalize (nu*nu+48271*nu+(0+(i:Nat)))%1000000000000000009=nu2 at b1⊢;have hS:(S.set lf<|.lst<|ys.map D.int) lf=some (.lst<|ys.map D.int):=aa;refine !!⟨bS (λh=>?_) λh=>?_⟩;have h:(2:Int)<0+((i:Nat):Int):=zG h;refine{_,rfl,{rfl,_,hS},_,rfl,_,rfl,{by decide,by trivial},.inl {by lia,by lia},{by decide,by decide,by decide},by decide,lf,_,_,rfl,rfl,hS,bg<|by rw[zb];lia,?_};refine{nu2,_,ys++[nu2*(nu2/1009+69621)%(10^(18:Int).toNat+9)],rfl,by lia,by lia,?_,by rw[zE];show ys.length+1=_;lia,λx FW=>?_};rw[bp,zC];rfl;rcases zP.mp FW with h|h;exact hy x h;rw[zK.mp h];exact zN _ (by decide);have h:¬(2:Int)<0+((i:Nat):Int):=zV h;exact{nu2,_,ys,rfl,by lia,by lia,rfl,by lia,hy};rintro aA S' ⟨nu,o5,ys,rfl,_,_,rfl,hyl,hy⟩;rw[show({cR 0 (((n:Nat):Int)+3).toNat,λ_=>True}:nV).xs.length=(((n:Nat):Int)+3).toNat from bE]at hyl;exact fo {_,_,ys,rfl,rfl,by lia,by lia,hy};rintro aA S' ⟨o4,o5,ys,rfl,rfl,OW,Oo,hy⟩;refine !!!{_,aa,λp hp=>?_};have BS:S p=none:=by rw[ae<|show p≠lf by rintro rfl;rw[aa]at hp;cases hp]at hp;exact hp
 have e:dh (ys.map D.int) none (some ((n:Nat):Int))=(ys.take n).map D.int:=by unfold dh;rw[HT.sIx_nat,HT.sIx_none,zb,Nat.min_eq_left OW,List.drop_zero,Nat.sub_zero,List.map_take]
 rw[e];refine{_,λb x hb=>?_,q (ys.take n) p (by rw[yi];lia) (λx FW=>hy x<|List.mem_of_mem_take FW) BS};by_cases WX:b=p;subst WX;rw[aa]at hb⊢;exact hb;rw[ae WX]at hb⊢;exact(Sub.new Nr) _ _ hb
inductive vG(ds:wp)(S:ao)(R:KD)(Z:KX):Prop where
 |mk (p:Addr)(xs:ul)(h0:ds=[.ref p])(h1:S p=some (.lst<|xs.map D.int))(h2:xs.length<=20)(h3:∀x∈xs,0<=x)(h4:∀(x:Int)(ys:ul),0<=x->ys.length<=xs.length->(∀y∈ys,0<=y)->R (.int x) (S.set p<|.lst<|ys.map D.int))
theorem A6:Ok P w base T.q9 1 vG:=by obtain⟨p,xs,e,hp,hl,hx,q⟩:T.q9.F.bF Dn;refine{_,(sc (si (bn aR (dv 0)<|b_ an) (s1<|sr di) s0)<|s1<|sr<|bm zM PySem.F.slot_list_pop PySem.F.type_list_pop MO (dv 0)<|ac di an),?_};refine !{ng,λp2 iu=>Np ((Sub.new iu) _ _ hp) aa !⟨?_⟩};cases xs with|nil=>refine Yw rfl {S.set p<|.lst [],?_,q 3 [] (by decide) (zq _) λ_ h=>(nomatch h)};rw[Hq<|show S p=some (.lst []) from hp];exact .new iu|cons x xs=>refine kQ rfl !⟨{rfl,_,(Sub.new iu) _ _ hp},p,_,_,0,.int x,rfl,rfl,(Sub.new iu) _ _ hp,by decide,by decide,Nq (k:=0)<|by simp,rfl,?_⟩;refine{_,?_,q x xs (hx x zj) (by simp) λy hy=>hx y<|zf _ hy};exact Kg iu λe=>by rw[e,iu]at hp;cases hp
noncomputable abbrev KW:lc:=["a","ab","b","abc","z","a1","b22","aa","m","m0","ba","zzzzzzzzz"]
noncomputable abbrev KU:lc:=["","0","b7","zz","9"]
noncomputable abbrev KS:lc:=KW.flatMap λa=>KU.map λb=>a++b
theorem fZ:∀z∈KS,kP z=true/\z.cps.size<=12/\PyData.strOk z=true:=by trivial
theorem WY:∀a∈KW,∀b∈KU,a.length+b.length<=1000:=by trivial
noncomputable abbrev BU:lc:=["key","a","ab","at","up","mark","b","price"]
theorem Kh:∀z∈BU,lg z=true/\PyData.strOk z=true:=by trivial
noncomputable abbrev WDS:lc:=["","a","ab","b","a b","B","~","=b"]
theorem R4:∀z∈WDS,pP z=true:=by trivial
noncomputable def bC:D->Bool|.av=>true|.int _=>true|.str z=>decide (z.cps.size<=40)&&PyData.strOk z|_=>false
theorem fz(h:bC d=true):d=.av\/(∃i,d=.int i)\/∃z,d=.str z:=by cases d<;>first|exact .inl rfl|exact .inr (.inl {_,rfl})|exact .inr (.inr {_,rfl})|cases h
def Vg(kind:Str)(d:D):Prop:=iT kind d=true/\bC d=true
theorem Nt(h:pP z=true):bC (.str z)=true:=by unfold pP at h;rw[zI,z0]at h;show(decide (z.cps.size<=40)&&PyData.strOk z)=true;rw[h.1,yf];unfold PyData.strOk;rw[<-Array.all_toList,z0];intro c hc;have:=h.2 c hc;unfold E7 at this;simp only[zI,zR]at this⊢;lia
theorem R5{k:Str}(h:k ="number")(i:Int):Vg k (.int i):={by rw[h];rfl,rfl}
theorem R6{k:Str}(h:¬k ="number")(hz:pP z=true):Vg k (.str z):={by unfold iT;rw[if_neg h];exact hz,Nt hz}
theorem R7(k:Str):Vg k .av:=⟨rfl,rfl⟩
inductive vH(ds:wp)(S:ao)(R:KD)(Z:KX):Prop where
 |mk (k:Str)(x:Int)(h0:ds=[.str k,.int x])(h1:∀d,Vg k d->R d S)
theorem A7:Ok P w base T.q_ 1 vH:=by obtain⟨k,x,e,q⟩:T.q_.F.bF sV;refine{_,(sc (si (bn aR (be bq (dv 1) di) di) (s1<|sr dn) s0)<|sc (si (bn aR (dv 0) ds) (sc (bP (i:=2) sV.nd<|be rY (be bq (be cg (dv 1) di)<|be mJ di di)<|be mJ di di)<|s1<|sr<|wq<|bv (b_<|ac di<|ac di<|ac di<|ac di<|ac (GL di)<|ac (GL di)<|ap 2<|ac (be kZ di<|dv 2) an)<|be bq (be cg (dv 1) di) di) s0)<|s1<|sr<|wq<|bv (b_<|ac ds<|ac ds<|ac ds<|ac ds<|ac ds<|ac ds<|ac ds<|ac ds an)<|be bq (be cg (dv 1) di) di),?_};refine !{by decide,_,rfl,bS (λ_=>fo<|q _<|R7 k) λ_=>!!⟨?_⟩};have i0:0<=x/5%8:=zN _ (by decide);have i1:x/5%8<8:=zL _ (by decide);refine bS (λh=>?_) λh=>?_;have h:k ="number":=zG h;have g0:0<=x/40%10^(15:Int).toNat:=zN _ (by decide);have g1:x/40%10^(15:Int).toNat<10^(15:Int).toNat:=zL _ (by decide);refine{_,rfl,{by decide,by trivial},{by decide,by decide,by decide},by decide,{by decide,by decide,by decide},.inl {Int.lt_of_lt_of_le (by decide) g0,Int.lt_trans g1<|by decide},?_};generalize x/40%10^(15:Int).toNat*10^(44:Int).toNat=gr;refine !!!!{Hh,λp hp=>!⟨{by decide,by trivial},by decide,cq i0 i1 hp λd hd=>?_⟩};have hd:d∈[D.int 0,.int 1,.int 2,.int 10,.int (-1),.int (-2),.int gr,.int<|0-gr]:=hd;simp only[zk,zO,or_false]at hd;rcases hd with rfl|rfl|rfl|rfl|rfl|rfl|rfl|rfl<;>exact fo (q _<|R5 h _);refine{Hh,λp hp=>!⟨{by decide,by trivial},by decide,cq i0 i1 hp λd hd=>?_⟩};have hd:d∈WDS.map D.str:=hd;obtain⟨z,hz,rfl⟩:=zh.mp hd;exact fo<|q _<|R6 (zV h)<|R4 z hz
inductive Ff(ds:wp)(S:ao)(R:KD)(Z:KX):Prop where
 |mk (x:Int)(h0:ds=[.int x])(h1:∀z∈KS,R (.str z) S)
theorem Ki:Ok P w base T.E3 1 Ff:=by
 obtain⟨x,e,q⟩:T.E3.F.bF AZ;refine{_,(sc (bP (i:=1) AZ.nd<|wq<|bv (b_<|ac ds<|ac ds<|ac ds<|ac ds<|ac ds<|ac ds<|ac ds<|ac ds<|ac ds<|ac ds<|ac ds<|ac ds an)<|be bq (dv 0) di)<|s1<|sr<|be bz (dv 1)<|wq<|bv (b_<|ac ds<|ac ds<|ac ds<|ac ds<|ac ds<|ac ds<|ac ds<|ac ds an)<|be bq (be cg (dv 0) di) di),?_};refine{WT,λp hp=>!{by decide,cq (zN _<|by decide) (zL _<|by decide) hp λd hd=>?_}};have hd:d∈KW.map D.str:=hd;obtain⟨a,ha,rfl⟩:=zh.mp hd;refine !{Hh,λp hp=>!⟨{by decide,by trivial},by decide,cq (zN _<|by decide) (zL _<|by decide) hp λd hd=>?_⟩};obtain⟨b,hb,rfl⟩:∃b∈KU,d=.str b:=by have hd:d∈[D.str "",.str "",.str "",.str "",.str "0",.str "b7",.str "zz",.str "9"]:=hd;simp only[zk,zO,or_false]at hd;rcases hd with h|h|h|h|h|h|h|h<;>exact{_,by simp,h}
 exact{sm<|WY a ha b hb,fo<|q _<|List.mem_flatMap.mpr {a,ha,zh.mpr ⟨b,hb,rfl⟩}}
theorem cM{α β:Type}{rel:α->β->Prop}{l:List α}{m:List β}(h:Paired rel l m):∀{i:Nat}{b:β},m[i]?=some b->∃a,l[i]?=some a/\rel a b:=by induction h with|nil=>intro i a h;simp at h|cons r t ih=>intro i a h;cases i with|zero=>(rw[List.getElem?_cons_zero]at h⊢;cases h;exact{_,rfl,r})|succ i=>rw[List.getElem?_cons_succ]at h⊢;exact ih h
theorem vI{α β:Type}{rel:α->β->Prop} : ∀{l:List α}{m:List β},m.length=l.length->(∀(i:Nat) a b,l[i]?=some a->m[i]?=some b->rel a b)->Paired rel l m|[],[],_,_=>.nil|a::l,b::m,h,k=>.cons (k 0 a b rfl rfl)<|vI (by simpa using h) λi x y e1 e2=>k (i+1) x y (by rw[List.getElem?_cons_succ];exact e1)<|by rw[List.getElem?_cons_succ];exact e2
def Wg(cs:wT)(ws:wp):Prop:=Paired (λ(c:Str×Str) v=>Vg c.2 v) cs ws
noncomputable def tm(tr j:Nat):Str:=BU.getD ((tr+3*j)%8) ""
theorem Kj:∀tr<8,∀i<9,((List.range i).map<|tm tr).Nodup:=by trivial
theorem R8(tr j:Nat):tm tr j∈BU:=by have:(tr+3*j)%8<8:=Nat.mod_lt _ (by decide);unfold tm;rw[zB,ze<|show(tr+3*j)%8<BU.length from this];exact List.getElem_mem _
theorem R9(tr j:Nat):tm (tr%8) j=tm tr j:=by unfold tm;rw[show(tr%8+3*j)%8=(tr+3*j)%8 by lia]
def Cg(cs:wT):Prop:=Gd cs/\∀c∈cs,c.1∈BU
inductive Nw(S:ao)(c:Int)(lx ln lf:Addr)(m tr:Nat)(x0:Int)(i:Nat)(aA:SD)(S':ao):Prop where
 |mk (cs:wT)(y2:Int)(o6:wP)(h0:aA=[some<|.int c,some<|.ref lx,some<|.ref ln,some<|.int (m:Nat),some<|.ref lf,o6])(h1:cs.map Prod.fst=(List.range i).map (tm tr))(h2:(∀c∈cs,c.2 ="number"\/c.2 ="word"))(h3:S' lx=some (.lst<|[x0,((tr:Nat):Int),y2].map D.int))(h4:S' ln=some (.lst<|BU.map D.str))(h5:S' lf=some (.lst<|cs.map aB))(h6:Sub S S'):Nw S c lx ln lf m tr x0 i aA S'
inductive pW(ds:wp)(S:ao)(R:KD)(Z:KX):Prop where
 |mk (c:Int)(h0:ds=[.int c])(h1:∀cs,Cg cs->R (.tup<|cs.map aB) S)
theorem DH:Ok P w base T.oI 2 pW:=by
 obtain⟨c,e,q⟩:T.oI.F.bF cW;refine{_,(sc (bP (i:=1) cW.nd<|aP T.iQ (j6 T) hr<|ap 0<|ac di an)<|sc (bP (i:=2) cW.nd<|b_<|ac ds<|ac ds<|ac ds<|ac ds<|ac ds<|ac ds<|ac ds<|ac ds an)<|sc (bP (i:=3) cW.nd<|wq<|bv (b_<|ac di<|ac di<|ac di<|ac di<|ac di<|ac di<|ac di<|ac di an)<|be bq (bv (dv 1) di) di)<|sc (bP (i:=4) cW.nd<|b_ an)<|sc (qX<|GR (LG T.dN<|ap 3 an) (gn (i:=5) cW.nd)<|sc (se<|bm zM zW zX cw (dv 4)<|ac (cQ<|ac (bv (dv 2)<|be bq (be bz (bv (dv 1) di)<|be rY di<|dv 5) di)<|ac (wq<|bv (b_<|ac ds<|ac ds an)<|be bq (bv (dv 1) di) di) an) an)<|s1<|sls (dv 1) di<|be cg (bv (dv 1) di) di)<|s1<|sr<|ct iF T.bB bf<|ap 4 an),?_};refine !{c,3,rfl,by decide,λxs lx uM hx uk=>?_};obtain⟨x0,x1,x2,rfl⟩:∃x0 x1 x2,xs=[x0,x1,x2]:=by match xs,uM with|[a,b,c],_=>exact⟨a,b,c,rfl⟩
 obtain⟨tr,rfl⟩:=Int.eq_ofNat_of_zero_le<|hx x1 (by simp);refine{Hh,λln Rn=>?_};have H9:((S.set lx<|.lst<|[x0,((tr:Nat):Int),x2].map D.int).set ln<|.lst<|BU.map D.str) lx=some (.lst<|[x0,((tr:Nat):Int),x2].map D.int):=(ae<|gA aa Rn).trans aa;have OW:((S.set lx<|.lst<|[x0,((tr:Nat):Int),x2].map D.int).set ln<|.lst<|BU.map D.str) ln=some (.lst<|BU.map D.str):=aa;have s1:=(Sub.new (c:=.lst<|[x0,((tr:Nat):Int),x2].map D.int) uk).trans<|.new (c:=.lst<|BU.map D.str) Rn;have nxn:lx≠ln:=gA aa Rn;rw[show[D.str "key",.str "a",.str "ab",.str "at",.str "up",.str "mark",.str "b",.str "price"]=BU.map D.str from rfl];generalize (S.set lx<|.lst<|[x0,((tr:Nat):Int),x2].map D.int).set ln (.lst<|BU.map D.str)=S1 at H9 OW s1⊢;refine{Hh,λp hp=>!{_,_,(Sub.new hp) _ _ H9,rfl,by decide,cq (zN _<|by decide) (zL _<|by decide) hp λd hd=>?_}};obtain⟨m,rfl,hm⟩:∃m:Nat,d=.int m/\m<=8:=by have hd:d∈[D.int 1,.int 2,.int 3,.int 0,.int 2,.int 1,.int 8,.int 3]:=hd;simp only[zk,zO,or_false]at hd;rcases hd with h|h|h|h|h|h|h|h;exact{1,h,by decide};exact{2,h,by decide};exact{3,h,by decide};exact{0,h,by decide};exact{2,h,by decide};exact{1,h,by decide};exact{8,h,by decide};exact{3,h,by decide}
 refine{ng,λlf Nr=>?_};have afd:S1 lx≠none:=by rw[H9];nofun
 have nxf:lx≠lf:=gA H9 Nr;have nnf:ln≠lf:=gA OW Nr;have sz:=s1.trans<|Sub.new (c:=.lst []) Nr;have abp:S lf=none:=by cases e:S lf with|none=>rfl|some z=>have:=s1 _ _ e;rw[Nr]at this;cases this
 refine{λaA S'=>∃(cs:wT)(o6:wP),aA=[some<|.int c,some<|.ref lx,some<|.ref ln,some<|.int (m:Nat),some<|.ref lf,o6]/\Cg cs/\S' lf=some (.lst<|cs.map aB)/\Sub S S',?_,?_};refine !{((m:Nat):Int),rfl,by lia,by lia,?_};refine{Nw S c lx ln lf m tr x0,{[],x2,none,rfl,rfl,λ_ h=>(nomatch h),(ae nxf).trans H9,(ae nnf).trans OW,aa,sz},λ_ _ _ _=>trivial,?_,?_};rintro i d aA S' hd ⟨cs,y2,o6,rfl,hn,hk,hX,hN,hF,hs⟩;have hd:(cR 0 ((m:Nat):Int).toNat)[i]?=some d:=hd;obtain⟨hi,rfl⟩:=bU hd;have BO:cs.length=i:=by have:=congrArg List.length hn;simpa using this
 have enm:gZ (BU.map D.str) ((((tr:Nat):Int)+3*(0+((i:Nat):Int)))%8)=some (.str<|tm tr i):=by rw[show(((tr:Nat):Int)+3*(0+((i:Nat):Int)))%8=(((tr+3*i)%8:Nat):Int) by lia];have dY:(tr+3*i)%8<8:=Nat.mod_lt _ (by decide);refine bu ?_;rw[zi];unfold tm;rw[zB,ze<|show(tr+3*i)%8<BU.length from dY];rfl
 refine{_,rfl,{rfl,_,hF},_,rfl,_,rfl,_,_,hX,rfl,_,rfl,.inl {by decide,by decide},by decide,_,_,hN,enm,cX,λp hp=>!{_,_,(Sub.new hp) _ _ hX,rfl,by decide,cq (zN _<|by decide) (zL _<|by decide) hp λd hd=>?_}};obtain⟨kd,rfl,hkd⟩:∃kd:Str,d=.str kd/\(kd ="number"\/kd ="word"):=by have hd:d∈[D.str "number",.str "word"]:=hd;simp only[zk,zO,or_false]at hd;rcases hd with h|h;exact{_,h,.inl rfl};exact{_,h,.inr rfl}
 refine{cX,lf,_,_,rfl,rfl,hF,bg<|by rw[zb];lia,?_};have Fh:(S'.set lf<|.lst<|cs.map aB++[.tup [.str<|tm tr i,.str kd]]) lx=some (.lst<|[x0,((tr:Nat):Int),y2].map D.int):=(ae nxf).trans hX;refine !{_,_,Fh,rfl,{by decide,by trivial},_,rfl,lx,_,2,2,rfl,rfl,Fh,rfl,?_};refine{cs++[(tm tr i,kd)],y2/2,_,rfl,?_,?_,aa,(ae nxn.symm).trans<|(ae nnf).trans hN,?_,λb x hb=>?_};rw[zC,hn,List.range_succ,zC];rfl;intro c hc;rcases zP.mp hc with h|h;exact hk c h;rw[zK.mp h];exact hkd;rw[ae nxf.symm,aa,zC];rfl;have hbx:b≠lx:=gA hb uk;rw[ae hbx,ae<|gA hb abp];exact hs b x hb;rintro aA S' ⟨cs,y2,o6,rfl,hn,hk,hX,hN,hF,hs⟩;rw[show({cR 0 ((m:Nat):Int).toNat,λ_=>True}:nV).xs.length=((m:Nat):Int).toNat from bE,show((m:Nat):Int).toNat=m by lia]at hn;have BO:cs.length=m:=by have:=congrArg List.length hn;simpa using this
 have Tw:∀c∈cs,c.1∈BU:=λc hc=>by have:c.1∈cs.map Prod.fst:=zh.mpr ⟨c,hc,rfl⟩;rw[hn]at this;obtain⟨j,_,e⟩:=zh.mp this;rw[<-e];exact R8 tr j
 have hnd:(cs.map Prod.fst).Nodup:=by rw[hn,zY λj _=>(R9 tr j).symm];exact Kj (tr%8) (Nat.mod_lt _<|by decide) m<|by lia
 exact fo {cs,_,rfl,{{by lia,hnd,λc hc=>{(Kh _<|Tw c hc).1,hk c hc}},Tw},hF,hs};rintro aA S' ⟨cs,o6,rfl,hc,hF,hs⟩;exact !{_,_,rfl,.inl hF,S,hs,q cs hc}
inductive tq(ds:wp)(S:ao)(R:KD)(Z:KX):Prop where
 |mk (cs:wT)(l:Addr)(xs:ul)(h0:ds=[.tup<|cs.map aB,.ref l])(h1:Gd cs)(h2:S l=some (.lst<|xs.map D.int))(h3:cs.length<=xs.length)(h4:∀ws,Wg cs ws->R (.tup ws) S)
theorem Hr:Ok P w base T.sP 2 tq:=by
 obtain⟨cs,l,xs,e,hg,hl,uM,q⟩:T.sP.F.bF A1;have h8:=hg.1;refine{_,(s1<|sr<|ct iF T.bB bf<|ac (sA (N:=["_law_k","_law_xs","_law_columns_here"]) (src:=[none,some 1,some 0]) (km C6) (LG T.dN<|ac (cb aO T.aL aD<|ap 0 an) an) nW<|aP T.q_ (A7 T) hr<|ac (bv (bv (dv 2)<|dv 0) di)<|ac (bv (dv 1)<|dv 0) an) an),?_};refine !!!{by rw[zb];lia,by rw[zb];lia,?_};rw[zb];refine jV (λd v=>∃(j:Nat)(c:Str×Str),d=.int (0+(j:Nat))/\cs[j]?=some c/\Vg c.2 v) trivial (by show(cR 0 _).length<=_;rw[bE];lia) (λd hd Q hQ=>?_) λout hp p lq=>?_;obtain⟨j,hj⟩:=yu hd;have hj:(cR 0 ((cs.length:Nat):Int).toNat)[j]?=some d:=hj;obtain⟨hjn,rfl⟩:=bU hj;have hjc:j<cs.length:=by lia
 have ec:=ze hjc;generalize cs[j]=c at ec;have ex:(xs.map D.int)[j]?=some (.int<|xs[j]'(by lia)):=by rw[zi,ze<|show j<xs.length by lia];rfl
 generalize xs[j]'_=x at ex;have ej:(0:Int)+((j:Nat):Int)=((j:Nat):Int):=Int.zero_add _;refine !!{aB c,by rw[ej];exact bu<|by rw[zi,ec];rfl,_,rfl,_,rfl,_,rfl,_,_,hl,by rw[ej];exact bu ex,c.2,x,rfl,λv hv=>hQ v ⟨j,c,rfl,ec,hv⟩};have hw:Wg cs out:=by have hlen:=yS hp;rw[show({cR 0 ((cs.length:Nat):Int).toNat,λ_=>True}:nV).xs=cR 0 ((cs.length:Nat):Int).toNat from rfl,bE]at hlen;refine vI (by lia) λj c v ec ev=>?_;obtain⟨d,hd,j',c',e1,e2,hv⟩:=cM hp ev;have hd:(cR 0 ((cs.length:Nat):Int).toNat)[j]?=some d:=hd;obtain⟨_,e3⟩:=bU hd;rw[e3]at e1;have e1:(0:Int)+((j:Nat):Int)=0+((j':Nat):Int):=D.int.inj e1;obtain rfl:j=j':=(by lia);rw[ec]at e2;cases e2;exact hv
 exact{_,out,rfl,.inl aa,S,.new lq,q out hw}
abbrev Kn:=List<|Str×List D
noncomputable def j7(kn:Kn):ww:=kn.map λr=>(Sum.inr r.1,D.tup r.2)
noncomputable def iX(kn:Kn)(z:Str):Option (List D):=(kn.find? λr=>decide<|r.1=z).map (·.2)
structure KI(cs:wT)(kn:Kn):Prop where
 nd:(kn.map (·.1)).Nodup
 ok:∀r∈kn,r.1∈KS/\Wg cs r.2
theorem bL:iX (r::kn) k=if r.1=k then some r.2 else iX kn k:=by unfold iX;rw[yc];by_cases h:r.1=k;rw[zu h,if_pos h];rfl;rw[zA h,if_neg h]
theorem tw(kn:Kn)(k:Str):bY (j7 kn) (.inr k)=(iX kn k).map D.tup:=by induction kn with|nil=>rfl|cons r kn ih=>rw[bL];unfold bY j7 at *;rw[zx,yc];by_cases h:r.1=k;have:decide ((Sum.inr r.1:Key)=.inr k)=true:=zu (by rw[h]);dsimp only;rw[this,if_pos h];rfl;have:decide ((Sum.inr r.1:Key)=.inr k)=false:=zA λe=>h<|yP e;dsimp only;rw[this,if_neg h];exact ih
theorem xw(h:iX kn k=some ws):(k,ws)∈kn:=by induction kn with|nil=>(cases h)|cons r kn ih=>rw[bL]at h;by_cases hk:r.1=k;rw[if_pos hk]at h;cases h;rw[<-hk];exact zj;rw[if_neg hk]at h;exact zf _<|ih h
theorem oS(h:k∈kn.map (·.1)):∃ws,iX kn k=some ws:=by induction kn with|nil=>(cases h)|cons r kn ih=>rw[bL];by_cases hk:r.1=k;exact{r.2,if_pos hk};rw[if_neg hk];rw[zx]at h;rcases zk.mp h with e|h;exact absurd e.symm hk;exact ih h
theorem sub_len[DecidableEq α]:∀{l m:List α},l.Nodup->(∀x∈l,x∈m)->l.length<=m.length|[],m,_,_=>zU _|a::l,m,nd,h=>by obtain⟨n1,n2⟩:=ym.mp nd;have h1:=sub_len (m:=m.erase a) n2 λx hx=>(List.mem_erase_of_ne λe=>n1<|by rw[<-e];exact hx).mpr<|h x<|zf _ hx;have h2:=List.length_erase_of_mem<|h a zj;have h3:0<m.length:=List.length_pos_of_mem<|h a zj;rw[zQ];omega
theorem KI.len(h:KI cs kn):kn.length<=60:=by
 have:=sub_len h.nd (m:=KS) λx hx=>by obtain⟨r,hr,rfl⟩:=zh.mp hx;exact(h.ok r hr).1
 rw[zb]at this;exact zJ this<|by trivial
noncomputable def qC(kn:Kn)(z:Str)(ws:wp):Kn:=if (iX kn z).isSome then kn.map λr=>if r.1=z then (r.1,ws) else r else kn++[(z,ws)]
noncomputable def xx(kn:Kn)(z:Str):Kn:=kn.filter λr=>decide<|r.1≠z
theorem Kk(kn:Kn)(z:Str)(ws:wp):dput (j7 kn) (.inr z) (.tup ws)=j7 (qC kn z ws):=by
 unfold dput qC;have e:((j7 kn).any λkv=>decide<|kv.1=.inr z)=(iX kn z).isSome:=by induction kn with|nil=>rfl|cons r kn ih=>unfold j7 at *;rw[zx,yT,ih,bL];by_cases h:r.1=z;rw[if_pos h,zu<|by rw[h],Bool.true_or];rfl;rw[if_neg h,zA λe=>h<|yP e,Bool.false_or]
 rw[e];split;unfold j7;rw[zt,zt];refine zY λr _=>?_;dsimp only[Function.comp];by_cases h:r.1=z;rw[if_pos h,if_pos<|by rw[h]];rw[if_neg h,if_neg λe=>h<|yP e];unfold j7;rw[zC];rfl
theorem R_(kn:Kn)(z:Str):Ap (j7 kn) (.inr z)=j7 (xx kn z):=by unfold Ap xx j7;rw[List.filter_map];congr 1;refine List.filter_congr λr _=>?_;dsimp only[Function.comp];rw[yO];exact{λh e=>h<|by rw[e],λh e=>h<|yP e}
theorem Nu:iX (qC kn z ws) k=if k=z then some ws else iX kn k:=by
 unfold qC;by_cases hs:(iX kn z).isSome=true;rw[if_pos hs];by_cases hk:k=z;subst hk;rw[if_pos rfl];induction kn with|nil=>(cases hs)|cons r rs ih=>rw[zx,bL];by_cases h:r.1=k;rw[if_pos h,if_pos h];rw[if_neg h,if_neg h];rw[bL,if_neg h]at hs;exact ih hs
 rw[if_neg hk];clear hs;induction kn with|nil=>rfl|cons r rs ih=>rw[zx,bL,bL,ih];by_cases h:r.1=z;rw[if_pos h,if_neg<|show ¬r.1=k from λe=>hk<|e.symm.trans h,if_neg<|show ¬r.1=k from λe=>hk<|e.symm.trans h];rw[if_neg h]
 rw[if_neg hs];have hn:iX kn z=none:=by cases e:iX kn z<;>simp_all
 clear hs;induction kn with|nil=>rw[List.nil_append,bL];by_cases hk:k=z;rw[if_pos hk,if_pos hk.symm];rw[if_neg hk,if_neg λe=>hk e.symm]|cons r rs ih=>rw[bL]at hn;by_cases h:r.1=z;rw[if_pos h]at hn;cases hn;rw[if_neg h]at hn;rw[List.cons_append,bL,bL,ih hn];by_cases h2:r.1=k;rw[if_pos h2,if_pos h2,if_neg<|show ¬k=z from λe=>h<|h2.trans e];rw[if_neg h2,if_neg h2]
theorem Nv:iX (xx kn z) k=if k=z then none else iX kn k:=by unfold xx;induction kn with|nil=>(split<;>rfl)|cons r kn ih=>rw[yN,bL];by_cases h:r.1=z;rw[if_neg<|by simp[h],ih];by_cases hk:k=z;rw[if_pos hk,if_pos hk];rw[if_neg hk,if_neg hk,if_neg<|show ¬r.1=k from λe=>hk<|e.symm.trans h];rw[if_pos<|by simp[h],bL,ih];by_cases hk:k=z;rw[if_pos hk,if_pos hk,if_neg<|show ¬r.1=k from λe=>h<|e.trans hk];rw[if_neg hk,if_neg hk]
theorem KI.put(h:KI cs kn)(hz:z∈KS)(hw:Wg cs ws):KI cs (qC kn z ws):=by
 unfold qC;split;refine{?_,λr hr=>?_};have:(kn.map λr=>if r.1=z then (r.1,ws) else r).map (·.1)=kn.map (·.1):=by rw[zt];exact zY λr _=>by dsimp only[Function.comp];split<;>rfl
 rw[this];exact h.nd;obtain⟨r0,x_,e⟩:=zh.mp hr;by_cases q:r0.1=z;rw[if_pos q]at e;subst e;exact{(h.ok r0 x_).1,hw};rw[if_neg q]at e;subst e;exact h.ok r0 x_;rename_i hs;refine{?_,λr hr=>?_};rw[zC];refine mF h.nd λm=>hs ?_;obtain⟨Yx,e⟩:=oS m;show(iX kn z).isSome=true;rw[show iX kn z=some Yx from e];rfl;rcases zP.mp hr with hr|hr;exact h.ok r hr;rw[zK.mp hr];exact⟨hz,hw⟩
theorem KI.del(h:KI cs kn)(z:Str):KI cs (xx kn z):={(List.Sublist.map _ yy).nodup h.nd,λr hr=>h.ok r (yF.mp hr).1}
def GD(ks:lc)(cs:wT)(kn:Kn)(d:D):Prop:=(∃z ws,z∈ks/\Wg cs ws/\iX kn z=none/\d=.tup [.str "put",.str z,.tup ws])\/(∃z ws,z∈KS/\Wg cs ws/\(iX kn z).isSome=true/\d=.tup [.str "change",.str z,.tup ws])\/∃z,z∈KS/\(iX kn z).isSome=true/\d=.tup [.str "take",.str z]
def Ly(S:ao)(n:Nat)(d:D):Prop:=∃p,Dp S d p/\p.canLay0=true/\p.depth<=n
theorem Ly.all:∀{ds:wp},(∀d∈ds,Ly S n d)->∃ps:wl,DpAll S ds ps/\PyData.canLayAll0 ps=true/\PyData.depthAll ps<=n/\ps.length=ds.length|[],_=>{[],by simp only[DpAll],rfl,zU _,rfl}|d::ds,h=>by obtain⟨p,h1,h2,h3⟩:=h d zj;obtain⟨ps,k1,k2,k3,k4⟩:=Ly.all λx hx=>h x<|zf _ hx;refine{p::ps,by simp only[DpAll];exact⟨p,ps,rfl,h1,k1⟩,by simp only[PyData.canLayAll0,h2,k2,Bool.and_self],by simp only[PyData.depthAll];lia,by rw[zQ,zQ,k4]}
theorem Ly.tup{S:ao}{n:Nat}{ds:wp}(h:∀d∈ds,Ly S n d):Ly S (n+1) (.tup ds):=by obtain⟨ps,k1,k2,k3,_⟩:=Ly.all h;exact{.tuple ps,by simp only[Dp];exact⟨ps,rfl,k1⟩,by simp only[PyData.canLay0];exact k2,by simp only[PyData.depth];lia}
theorem Ly.str(h:PyData.strOk z=true):Ly S 0 (.str z):={.str z,by simp only[Dp],by simp only[PyData.canLay0];exact h,by simp only[PyData.depth];lia}
theorem Ly.le(h:Ly S n d)(l:n<=m):Ly S m d:=by obtain⟨p,a,b,c⟩:=h;exact{p,a,b,zJ c l}
theorem Ly.av:Ly S 0 .av:={.none,by simp only[Dp],by simp only[PyData.canLay0],by simp only[PyData.depth];lia}
theorem Ly.plain(h:bC d=true):Ly S 0 d:=by cases d with|av=>exact Ly.av|int i=>exact{.int i,by simp only[Dp],by simp only[PyData.canLay0],by simp only[PyData.depth];lia}|str z=>have h:(decide (z.cps.size<=40)&&PyData.strOk z)=true:=h;rw[zI]at h;exact Ly.str h.2|_=>cases h
theorem Ly.lst{S:ao}{n:Nat}{a:Addr}{ds:wp}(e:S a=some (.lst ds))(h:∀d∈ds,Ly S n d):∃p,Dl S (.ref a) p/\p.canLay0=true/\p.depth<=n+1/\∀b,S b=some (.lst ds)->Dl S (.ref b) p:=by obtain⟨ps,k1,k2,k3,_⟩:=Ly.all h;exact{.list ps,⟨ds,ps,e,rfl,k1⟩,by simp only[PyData.canLay0];exact k2,by simp only[PyData.depth];lia,λb hb=>⟨ds,ps,hb,rfl,k1⟩}
theorem tD{S:ao}{a b:Addr}{ds:wp}{R:KD}{neg:Bool}(e1:S a=some (.lst ds))(e2:S b=some (.lst ds))(h:∀d∈ds,Ly S 60 d)(q:R (.bl<|!neg) S):GK neg (.ref a) (.ref b) S R:=by
 obtain⟨p,k1,k2,k3,k4⟩:=Ly.lst e1 h;have e:(if neg then !PyData.eqv p p else PyData.eqv p p)=!neg:=by rw[SeqAt.eqv_refl p k2];cases neg<;>rfl
 exact{p,p,k1,k4 b e2,k2,k2,.inl<|by lia,by rw[e];exact q}
theorem tE(ps:wl):PyData.eqv (.list ps) (.list [])=ps.isEmpty:=by cases ps<;>simp[PyData.eqv,PyData.eqvAll]
theorem Kl(ps:wl):PyData.eqv (.tuple ps) (.tuple [])=ps.isEmpty:=by cases ps<;>simp[PyData.eqv,PyData.eqvAll]
theorem eq_nil{S:ao}{a b:Addr}{ds:wp}{R:KD}(e1:S a=some (.lst ds))(e2:S b=some (.lst []))(h:∀d∈ds,Ly S 60 d)(q:R (.bl ds.isEmpty) S):GK false (.ref a) (.ref b) S R:=by obtain⟨ps,k1,k2,k3,k4⟩:=Ly.all h;refine{.list ps,.list [],⟨ds,ps,e1,rfl,k1⟩,{[],[],e2,rfl,by simp only[DpAll]},by simp only[PyData.canLay0];exact k2,by simp only[PyData.canLay0,PyData.canLayAll0],.inl<|by simp only[PyData.depth];lia,?_};rw[if_neg zd,tE,show ps.isEmpty=ds.isEmpty by cases ps<;>cases ds<;>first|rfl|cases k4];exact q
theorem Nx{S:ao}{ds:wp}{R:KD}(h:∀d∈ds,Ly S 60 d)(q:R (.bl ds.isEmpty) S):GK false (.tup ds) (.tup []) S R:=by obtain⟨ps,k1,k2,k3,k4⟩:=Ly.all h;refine{.tuple ps,.tuple [],by simp only[Dl,Dp];exact⟨ps,rfl,k1⟩,by simp only[Dl,Dp];exact{[],rfl,by simp only[DpAll]},by simp only[PyData.canLay0];exact k2,by simp only[PyData.canLay0,PyData.canLayAll0],.inl<|by simp only[PyData.depth];lia,?_};rw[if_neg zd,Kl,show ps.isEmpty=ds.isEmpty by cases ps<;>cases ds<;>first|rfl|cases k4];exact q
theorem Wg.all(h:Wg cs ws):∀d∈ws,bC d=true:=by unfold Wg at h;induction h with|nil=>exact λ_ h=>(nomatch h)|cons r t ih=>intro d hd;rcases zk.mp hd with e|hd;rw[e];exact r.2;exact ih d hd
theorem Wg.ly{cs:wT}{ws:wp}(h:Wg cs ws){S:ao} : Ly S 1 (.tup ws):=Ly.tup λd hd=>Ly.plain<|h.all d hd
def Mo(sp:qS):qS:=λds S R Z=>∃R0 Z0,sp ds S R0 Z0/\(∀d S',R0 d S'->R d S')/\∀C S',Z0 C S'->Z C S'
theorem Sa(F:bI P w K mg base (fH P w mg) k f fd ps<|qU K sp):bI P w K mg base (fH P w mg) k f fd ps (qU K<|Mo sp):=F.imp<|by rintro vs H Q E ⟨ds,S,R,Z,v,hS,⟨R0,Z0,h,h1,h2⟩,hR,hZ⟩;exact{ds,S,R0,Z0,v,hS,h,λd S' u H' r=>hR d S' u H'<|h1 _ _ r,λC S' H' z=>hZ C S' H'<|h2 _ _ z}
abbrev Pg:=j5
abbrev A8:=fY
abbrev Km:=iW
def KnD(kn:Kn)(d:D)(rj:Kn):Prop:=(∃(n:Str) (z:Str) (ws:wp),(n ="put"\/n ="change")/\d=.tup [.str n,.str z,.tup ws]/\rj=qC kn z ws)\/∃z,(iX kn z).isSome=true/\d=.tup [.str "take",.str z]/\rj=xx kn z
inductive DJ(t:eZ)(ds:wp)(S:ao)(R:KD)(Z:KX):Prop where
 |mk (a fs)(h0:S a=some (.ins t.aq fs))(h1:fs.map Prod.fst=(["columns","deeds","runs"]:lc))(h2:((∃k v,ds=[.ref a,.tup [.str "put",k,v]]/\Pg t [.ref a,k,v] S R Z)\/(∃k v,ds=[.ref a,.tup [.str "change",k,v]]/\A8 t [.ref a,k,v] S R Z)\/∃k,ds=[.ref a,.tup [.str "take",k]]/\Km t [.ref a,k] S R Z))
theorem lk0:∀{fs:wE},m∉fs.map Prod.fst->fs.lookup m=none|[],_=>rfl| (a,b)::fs,h=>by rw[zx,zk]at h;rw[yh,show(m==a)=false from beq_false_of_ne λe=>h<|.inl e];exact lk0 λq=>h<|.inr q
theorem lk3{fs:wE}(h:fs.map Prod.fst=(["columns","deeds","runs"]:lc)){m:Str}(hm:m∉(["columns","deeds","runs"]:lc)):fs.lookup m=none:=lk0<|by rw[h];exact hm
def Ph(t:eZ):qS:=λds S R Z=>DJ t ds S (λ_=>R .av) Z
theorem Ny:Ok P w base T.wY 7 (Ph t):=by have j8:qv P w mg base T.fA 6 (Mo<|Pg t):=Sa<|R1 T;have f_:qv P w mg base T.cU 6 (Mo<|A8 t):=Sa<|Hn T;have iY:qv P w mg base T.eF 6 (Mo<|Km t):=Sa<|Nm T;refine T.wY.F.ok He (λds S R Z ⟨_,_,_,_,h⟩=>by rcases h with⟨_,_,e,_⟩|⟨_,_,e,_⟩|⟨_,e,_⟩<;>rw[e]<;>rfl) λgy A outer s H E ds S R Z hr ⟨a,fs,ha,hf,h⟩=>?_;rcases h with⟨k,v,e,h⟩|⟨k,v,e,h⟩|⟨k,e,h⟩;subst e;refine{_,(s1<|si (a_ aR hr.u (ix hr.u (dv 1) di) ds) (s1<|se<|ox (dv 0) T.aj T.fA j8 hr<|ac (ix hr.u (dv 1) di)<|ac (ix hr.u (dv 1) di) an)<|s1<|si (a_ aR hr.u (ix hr.u (dv 1) di) ds) (s1<|se<|ox (dv 0) T.aj T.cU f_ hr<|ac (ix hr.u (dv 1) di)<|ac (ix hr.u (dv 1) di) an)<|s1<|se<|ox (dv 0) T.aj T.eF iY hr<|ac (ix hr.u (dv 1) di) an),?_};refine !!!⟨?_⟩;refine bS (λ_=>?_) λh=>absurd h (by decide);exact !{a,_,rfl,ha,lk3 hf<|by decide,_,rfl,_,rfl,_,rfl,_,rfl,_,Z,h,λd S' r=>fo r,λC S' z=>fo z};subst e;refine{_,(s1<|si (a_ aR hr.u (ix hr.u (dv 1) di) ds) (s1<|se<|ox (dv 0) T.aj T.fA j8 hr<|ac (ix hr.u (dv 1) di)<|ac (ix hr.u (dv 1) di) an)<|s1<|si (a_ aR hr.u (ix hr.u (dv 1) di) ds) (s1<|se<|ox (dv 0) T.aj T.cU f_ hr<|ac (ix hr.u (dv 1) di)<|ac (ix hr.u (dv 1) di) an)<|s1<|se<|ox (dv 0) T.aj T.eF iY hr<|ac (ix hr.u (dv 1) di) an),?_};refine !!!⟨?_⟩;refine bS (λh=>absurd h<|by decide) λ_=>?_;refine !!!⟨?_⟩;refine bS (λ_=>?_) λh=>absurd h (by decide);exact !{a,_,rfl,ha,lk3 hf<|by decide,_,rfl,_,rfl,_,rfl,_,rfl,_,Z,h,λd S' r=>fo r,λC S' z=>fo z};subst e;refine{_,(s1<|si (a_ aR hr.u (ix hr.u (dv 1) di) ds) (s1<|se<|ox (dv 0) T.aj T.fA j8 hr<|ac (ix hr.u (dv 1) di)<|ac (ix hr.u (dv 1) di) an)<|s1<|si (a_ aR hr.u (ix hr.u (dv 1) di) ds) (s1<|se<|ox (dv 0) T.aj T.cU f_ hr<|ac (ix hr.u (dv 1) di)<|ac (ix hr.u (dv 1) di) an)<|s1<|se<|ox (dv 0) T.aj T.eF iY hr<|ac (ix hr.u (dv 1) di) an),?_};refine !!!⟨?_⟩;refine bS (λh=>absurd h<|by decide) λ_=>?_;refine !!!⟨?_⟩;refine bS (λh=>absurd h<|by decide) λ_=>?_;exact !{a,_,rfl,ha,lk3 hf<|by decide,_,rfl,_,rfl,_,Z,h,λd S' r=>fo r,λC S' z=>fo z}
noncomputable def p3(p:Str×Str×Str):D:=.tup [.str p.1,.str p.2.1,.str p.2.2]
noncomputable def oU(z:Str):Bool:=decide (z ="up")||decide (z ="down")
noncomputable def Ko(z:Str):Bool:=decide (z ="first")||decide (z ="last")
theorem Kq(z a b:Str)(x y:V):(([(a,x),(b,y)]:ii).lookup z).isSome=(decide (z=a)||decide (z=b)):=by rw[yh,yh];by_cases h:z=a;rw[show(z==a)=true by simp[h],zu h];rfl;rw[show(z==a)=false by simp[h],zA h];by_cases h2:z=b;rw[show(z==b)=true by simp[h2],zu h2];rfl;rw[show(z==b)=false by simp[h2],zA h2];rfl
noncomputable def gI(cs:wT)(p:Str×Str×Str):Bool:=decide (p.1∈cs.map Prod.fst)&&(oU p.2.1&&Ko p.2.2)
noncomputable def DK(cs:wT)(ps:List<|Str×Str×Str)(wy:Str):Bool:=decide (ps.length<=8)&&(ps.all (gI cs)&&(decide ((ps.map Prod.fst).Nodup)&&oU wy))
theorem xy(l:wE)(z:Str)(h:bY (so l) (.inr z)=some d):∃p∈l,p.1=z/\d=p.2:=by
 have all:∀(l:wE)(c:ww),bY (l.foldl (λc p=>dput c (.inr p.1) p.2) c) (.inr z)=some d->(∃p∈l,p.1=z/\d=p.2)\/bY c (.inr z)=some d:=by intro l;induction l with|nil=>intro c h;exact .inr h|cons p l ih=>intro c h;rcases ih _ h with⟨q,hq,e⟩|h;exact .inl {q,zf _ hq,e};rw[Ay]at h;by_cases e:(.inr z:Key)=.inr p.1;rw[if_pos e]at h;exact .inl {p,zj,(yP e).symm,(zS h).symm};rw[if_neg e]at h;exact .inr h
 rcases all l [] h with h|h;exact h;cases h
def Pok(p:Str×Str×Str):Prop:=p.1.cps.size<=1000/\p.2.1.cps.size<=1000/\p.2.2.cps.size<=1000
inductive A9(ds:wp)(S:ao)(R:KD)(Z:KX):Prop where
 |mk (z)(h0:ds=[.str z])(h1:R (.bl<|oU z) S)
theorem vJ:Ok P w base T.wR 1 A9:=by obtain⟨z,e,q⟩:T.wR.F.bF Hc;refine{_,(s1<|sr<|qt (cb cY T.ay au<|ap 0<|ac (t6 T.pK jy) an)<|HW<|cmk T.AQ (dv 0)<|dg (v:=.ref t.jF) T.wK rfl λ_=>iC _),?_};refine !{_,_,_,_,rfl,cP,rfl,_,rfl,dJ !{z,rfl,rfl,?_}};rw[Kq];exact fo q
inductive A_(ds:wp)(S:ao)(R:KD)(Z:KX):Prop where
 |mk (z)(h0:ds=[.str z])(h1:R (.bl<|Ko z) S)
theorem Hs:Ok P w base T.C_ 1 A_:=by obtain⟨z,e,q⟩:T.C_.F.bF Hd;refine{_,(s1<|sr<|qt (cb cY T.ay au<|ap 0<|ac (t6 T.pK jy) an)<|HW<|cmk T.AR (dv 0)<|dg (v:=.ref t.jG) T.wL rfl λ_=>iC _),?_};refine !{_,_,_,_,rfl,cP,rfl,_,rfl,dJ !{z,rfl,rfl,?_}};rw[Kq];exact fo q
inductive nA(ds:wp)(S:ao)(R:KD)(Z:KX):Prop where
 |mk (cs z)(h0:ds=[.tup<|cs.map aB,.str z])(h1:Gd cs)(h2:z.cps.size<=1000)(h3:(∀k,(z,k)∈cs->R (.str k) S))(h4:(z∉cs.map Prod.fst->R .av S))
theorem gW:Ok P w base T.eC 3 nA:=by
 obtain⟨cs,z,e,hg,hz,q1,q2⟩:T.eC.F.bF uA;refine{_,(sc (si (cF<|tv<|aP T.qZ (sZ T) hr<|ap 1 an) (s1<|sr dn) s0)<|s1<|sr<|ca (ct Rq T.RV Mp<|ap 0 an)<|dv 1),?_};refine !{.str z,rfl,gt_str hz,_,rfl,?_};refine bS (λh=>?_) λh=>?_;have h:lg z=false:=nt h;refine fo<|q2 λm=>?_;obtain⟨c,hc,rfl⟩:=zh.mp m;rw[(hg.2.2 c hc).1]at h;cases h;have ek:cs.map aB=(cs.map λc=>(c.1,D.str c.2)).map Jy:=by rw[zt];rfl
 refine !{(cs.map λc=>(c.1,D.str c.2)),by rw[ek],λp hp=>{p,_,rfl,aa,_,rfl,_,.inr z,aa,rfl,S,.new hp,?_}};have h1:=GU (cs.map λc=>(c.1,D.str c.2)) z;cases q3:bY (so<|cs.map λc=>(c.1,D.str c.2)) (.inr z) with|none=>(rw[q3]at h1;refine q2 λm=>?_;obtain⟨c,hc,e⟩:=zh.mp m;have:(cs.map λc=>(c.1,D.str c.2)).any (λp=>decide<|p.1=z)=true:=yx.mpr {_,zh.mpr ⟨c,hc,rfl⟩,zu e};rw[this]at h1;cases h1)|some d=>obtain⟨p,hp,e1,rfl⟩:=xy _ _ q3;obtain⟨c,hc,rfl⟩:=zh.mp hp;have e1:c.1=z:=e1;exact q1 c.2<|by rw[<-e1];exact hc
inductive vK(ds:wp)(S:ao)(R:KD)(Z:KX):Prop where
 |mk (cs p)(h0:ds=[.tup<|cs.map aB,p3 p])(h1:Gd cs)(h2:Pok p)(h3:R (.bl<|gI cs p) S)
theorem DL:Ok P w base T.wV 4 vK:=by
 have xA:Ok P w base T.eC 3 (λds S R _=>∃cs z,ds=[.tup<|cs.map aB,.str z]/\Gd cs/\z.cps.size<=1000/\∀d,ag d=!decide (z∈cs.map Prod.fst)->R d S):=(gW T).Rm <| by rintro ds S R Z ⟨cs,z,e,hg,hz,q⟩;exact{cs,z,e,hg,hz,λk hk=>q _<|by rw[zu<|zh.mpr {_,hk,rfl}];rfl,λhn=>q _<|by rw[zA hn];rfl}
 obtain⟨cs,p,e,hg,hp,q⟩:T.wV.F.bF Dk;refine{_,(sc (si (twd<|twor (cF<|tv<|cb cY T.ay au<|ap 1<|ac (t6 T.bB bf) an)<|tw1<|bn g8 (cb aO T.aL aD<|ap 1 an) di) (s1<|sr db) s0)<|s1<|sr<|qt (bi lQ (aP T.eC xA hr<|ap 0<|ac (bv (dv 1) di) an) dn)<|qt (aP T.wR (vJ T) hr<|ac (bv (dv 1) di) an)<|HW<|aP T.C_ (Hs T) hr<|ac (bv (dv 1) di) an),?_};refine !{_,_,_,_,rfl,aY,rfl,_,rfl,aX !!!⟨aX ?_⟩};refine !!!{cs,p.1,rfl,hg,hp.1,λd hd=>!⟨?_⟩};unfold gI at q;refine bS (λh=>?_) λh=>?_;have h:(!ag d)=true:=h;rw[hd,Bool.not_not]at h;rw[h,yf]at q;refine !!{p.2.1,rfl,_,rfl,?_};refine bS (λh2=>?_) λh2=>?_;rw[h2,yf]at q;exact !!{p.2.2,rfl,fo q};rw[h2,zZ]at q;exact fo q;have h:(!ag d)=false:=h;rw[hd,Bool.not_not]at h;rw[h,zZ]at q;exact fo q
inductive lA(t:eZ)(ds:wp)(S:ao)(R:KD)(Z:KX):Prop where
 |mk (cs ps wy)(h0:ds=[.tup<|cs.map aB,.tup [.tup<|ps.map p3,.str wy]])(h1:Gd cs)(h2:(∀p∈ps,Pok p))(h3:(DK cs ps wy=true->R .av S))(h4:(DK cs ps wy=false->Z t.lV S))
theorem gb:Ok P w base T.eQ 5 (lA t):=by
 obtain⟨cs,ps,wy,e,hg,hp,q1,q2⟩:T.eQ.F.bF fV;have Uc:(ps.map p3).length=ps.length:=zb _;refine{_,(sc (si (twd<|twor (cF<|tv<|cb cY T.ay au<|ap 1<|ac (t6 T.bB bf) an)<|tw1<|bn g8 (cb aO T.aL aD<|ap 1 an) di) (s1<|sj ⟨T.dy⟩ T.eO<|ac ds an) s0)<|sc (bP (i:=2) fV.nd<|bv (dv 1) di)<|sc (si (twd<|twor (cF<|tv<|cb cY T.ay au<|ap 2<|ac (t6 T.bB bf) an)<|tw1<|bn qu (cb aO T.aL aD<|ap 2 an)<|dg (v:=.int 8) T.jI {_,rfl} λ_=>aT _) (s1<|sj ⟨T.dy⟩ T.eO<|ac ds an) s0)<|sc (si (cF<|tv<|cb i9 T.ja e_<|ac (sA (N:=["part","columns"]) (src:=[none,some 0]) (km k8) (HZ<|dv 2) nW<|aP T.wV (DL T) hr<|ap 1<|ap 0 an) an) (s1<|sj ⟨T.dy⟩ T.eO<|ac ds an) s0)<|sc (AI (N:=["part"]) (src:=[none]) 3 fV.nd (km k8) (HZ<|dv 2) nW<|bv (dv 0) di)<|sc (si (bn g8 (lse (dv 3) T.aL T.O8)<|cb aO T.aL aD<|ap 3 an) (s1<|sj ⟨T.dy⟩ T.eO<|ac ds an) s0)<|s1<|si (cF<|tv<|aP T.wR (vJ T) hr<|ac (bv (dv 1) di) an) (s1<|sj ⟨T.dy⟩ T.eO<|ac ds an) s0),?_};refine !{_,_,_,_,rfl,aY,rfl,_,rfl,aX !!!⟨aX ?_⟩};refine !!!{_,_,_,_,rfl,aY,rfl,_,rfl,aX !!!⟨?_⟩};refine bS (λh=>?_) λh=>?_;have h:(8:Int)<(((ps.map p3).length:Nat):Int):=zG h;rw[Uc]at h;exact{uG,fo<|q2<|by unfold DK;rw[zA<|by omega];rfl};have h:¬(8:Int)<(((ps.map p3).length:Nat):Int):=zV h;rw[Uc]at h;have h8:ps.length<=8:=by omega
 unfold DK at q1 q2;rw[zu h8,yf]at q1 q2;refine !{_,.inl rfl,?_};refine jV (λd v=>∃p,d=p3 p/\v=.bl (gI cs p)) trivial (by show(ps.map p3).length<=_;omega) (λd hd Q hQ=>?_) λout ho p lq=>?_;obtain⟨p,Sb,rfl⟩:=zh.mp hd;exact !!{cs,p,rfl,hg,hp p Sb,hQ _ ⟨p,rfl,rfl⟩};have eo:out=(ps.map<|gI cs).map D.bl:=by have:∀{ps:List (Str×Str×Str)}{out:wp},Paired (λd v=>∃p,d=p3 p/\v=.bl (gI cs p)) (ps.map p3) out->out=(ps.map<|gI cs).map D.bl:=(by intro ps;induction ps with|nil=>(intro out h;cases h;rfl)|cons x ps ih=>intro out h;cases h with|cons r t=>obtain⟨p,e1,e2⟩:=r;have:x=p:=(by obtain⟨a,b,c⟩:=x;obtain⟨a',b',c'⟩:=p;unfold p3 at e1;injection e1 with e1;injection e1 with h1 e1;injection e1 with h2 e1;injection e1 with h3 _;injection h1 with h1;injection h2 with h2;injection h3 with h3;rw[show a=a' from h1,show b=b' from h2,show c=c' from h3]);rw[e2,ih t,<-this];rfl);exact this ho
 subst eo;refine{.ref p,ps.map<|gI cs,rfl,aa,_,rfl,?_};rw[show(ps.map<|gI cs).all id=ps.all (gI cs) from all_map];refine bS (λha=>?_) λha=>?_;have ha:=nt ha;exact{uG,S,.new lq,q2<|by rw[ha];rfl};have ha:=nf ha;rw[ha,yf]at q1 q2;refine !{_,.inl rfl,?_};refine comp_map (λd=>match d with|.tup (x::_)=>x|_=>.av) trivial (by show(ps.map p3).length<=_;omega) (λd hd Q hQ=>?_) λp2 iu=>?_;obtain⟨p,Sb,rfl⟩:=zh.mp hd;exact !!⟨hQ⟩;have e3:(ps.map p3).map (λd=>match d with|.tup (x::_)=>x|_=>.av)=(ps.map Prod.fst).map D.str:=by rw[zt,zt];rfl
 rw[show({ps.map p3,λ_=>True}:nV).xs=ps.map p3 from rfl,e3];have sb:Sub S ((S.set p<|.lst<|(ps.map<|gI cs).map D.bl).set p2<|.lst<|(ps.map Prod.fst).map D.str):=(Sub.new lq).trans<|.new iu;have WW:((S.set p<|.lst<|(ps.map<|gI cs).map D.bl).set p2<|.lst<|(ps.map Prod.fst).map D.str) p2=some (.lst<|(ps.map Prod.fst).map D.str):=aa;generalize (S.set p<|.lst<|(ps.map<|gI cs).map D.bl).set p2 (.lst<|(ps.map Prod.fst).map D.str)=S2 at sb WW⊢;refine !{ps.map Prod.fst,WW,by rw[zb];omega,_,rfl,_,rfl,.inl {_,WW,_,rfl,?_}};have e4:decide ((((i7<|ps.map Prod.fst).length:Nat):Int)=((((ps.map Prod.fst).map D.str).length:Nat):Int))=decide ((ps.map Prod.fst).Nodup):=by rw[yO,<-vd,zb];omega
 refine bS (λhn=>?_) λhn=>?_;have hn:(!decide ((((i7<|ps.map Prod.fst).length:Nat):Int)=((((ps.map Prod.fst).map D.str).length:Nat):Int)))=true:=hn;rw[e4]at hn;exact{uG,S,sb,q2<|by rw[nt hn];rfl};have hn:(!decide ((((i7<|ps.map Prod.fst).length:Nat):Int)=((((ps.map Prod.fst).map D.str).length:Nat):Int)))=false:=hn;rw[e4]at hn;rw[nf hn,yf]at q1 q2;refine !!{wy,rfl,_,rfl,?_};refine bS (λhw=>?_) λhw=>?_;exact{uG,S,sb,q2<|nt hw};exact{S,sb,q1<|nf hw}
def xB(o:Str)(c:Str×Str)(v:D):Prop:=o ="is"\/(v≠.av/\(o ="below"\/o ="above"\/(o ="begins"/\c.2 ="word")))
def Lf(cs:wT)(d:D):Prop:=d=.tup [.str "every"]\/(∃ks:lc,d=.tup [.str "key",.tup<|ks.map .str]/\ks.length<=8/\∀k∈ks,k∈KS)\/∃(o:Str) (c:Str×Str) (v:D),c∈cs/\Vg c.2 v/\xB o c v/\d=.tup [.str o,.str c.1,v]
def Sg(cs:wT):Nat->D->Prop|0,_=>False|n+1,d=>Lf cs d\/(∃e,d=.tup [.str "not",e]/\Sg cs n e)\/∃(o:Str) (ds:wp),(o ="and"\/o ="or")/\d=.tup [.str o,.tup ds]/\ds.length<=8/\∀e∈ds,Sg cs n e
theorem Fi(h:Vg k v):Gt S v:=by have h:=h.2;cases v with|av=>(exact{{_,rfl},λz e=>by cases e})|int i=>(exact{{_,rfl},λz e=>by cases e})|str z=>unfold bC at h;simp only[zI,zR]at h;exact gt_str (by lia)|_=>cases h
noncomputable def nB:D->List D|.tup [.str o,.tup ds]=>(if o ="not" then[.tup ds] else if o ="and"\/o ="or" then ds else[])|.tup [.str o,e]=>(if o ="not" then[e] else[])|_=>[]
noncomputable def pX:Nat->D->Nat|0,_=>0|n+1,d=>((nB d).map<|pX n).sum+1
theorem xC(e:D):nB (.tup [.str "not",e])=[e]:=by cases e<;>rfl
theorem xD{o:Str}(h:o ="and"\/o ="or")(ds:wp):nB (.tup [.str o,.tup ds])=ds:=by rcases h with rfl|rfl<;>rfl
def Sq(cs:wT)(d:D):Prop:=Sg cs 7 d/\pX 7 d<=200
inductive iq(ds:wp)(S:ao)(R:KD)(Z:KX):Prop where
 |mk (es)(h0:ds=[.tup es])(h1:es.length<=8)(h2:R (.bl true) S)
theorem pY:Ok P w base T.dQ 1 iq:=by obtain⟨es,e,hl,q⟩:T.dQ.F.bF m7;refine{_,(s1<|sr<|qt (cb cY T.ay au<|ap 0<|ac (t6 T.bB bf) an)<|HW<|bi jA (cb aO T.aL aD<|ap 0 an)<|dg (v:=.int 8) T.lY {_,rfl} λ_=>aT _),?_};refine !{_,_,_,_,rfl,aY,rfl,_,rfl,dJ !!⟨?_⟩};have e1:decide (((es.length:Nat):Int)<=8)=true:=zu (by lia);show Fo S (R<|.bl<|decide<|((es.length:Nat):Int)<=8);rw[e1];exact fo q
inductive gX(ds:wp)(S:ao)(R:KD)(Z:KX):Prop where
 |mk (cs o c v)(h0:ds=[.tup<|cs.map aB,.tup [.str o,.str c.1,v]])(h1:Gd cs)(h2:c∈cs)(h3:Vg c.2 v)(h4:xB o c v)(h5:R (.bl true) S)
theorem tG:Ok P w base T.jO 4 gX:=by
 obtain⟨cs,o,c,v,e,hg,hc,hv,ho,q⟩:T.jO.F.bF jR;have hn:∀k,(c.1,k)∈cs->k=c.2:=λk hk=>by have:=gH hg.2.1 hk hc rfl;rw[<-this]
 refine{_,(sc (bP (i:=2) jR.nd<|aP T.eC (gW T) hr<|ap 0<|ac (bv (dv 1) di) an)<|sc (si (twd<|twor (bn fm (dv 2) dn)<|tw1<|cF<|tv<|aP T.jL (jX T) hr<|ap 2<|ac (bv (dv 1) di) an) (s1<|sr db) s0)<|sc (si (bn aR (bv (dv 1) di) ds) (s1<|sr db) s0)<|sc (si (twd<|twand (bn aR (bv (dv 1) di) ds)<|tw1<|bn g8 (dv 2) ds) (s1<|sr db) s0)<|s1<|sr<|bi lQ (bv (dv 1) di) dn),?_};refine !!!{cs,c.1,rfl,hg,oP (hg.2.2 c hc).1,λk hk=>?_,λhk=>absurd (zh.mpr ⟨c,hc,rfl⟩) hk};cases hn k hk;refine !!⟨aX !!!{c.2,v,rfl,Fi hv,_,rfl,?_}⟩;rw[hv.1];refine aX !!!⟨?_⟩;rcases ho with rfl|⟨hvn,ho⟩;exact k7<|fo q;have OX:ag v=false:=by cases v<;>first|rfl|exact absurd rfl hvn
 have e9:(!ag v)=true:=by rw[OX];rfl
 have fin:Fo S (R<|.bl<|!ag v):=by rw[e9];exact fo q
 rcases ho with rfl|rfl|⟨rfl,hw⟩;refine cu !!!⟨cu !!⟨fin⟩⟩;refine cu !!!⟨cu !!⟨fin⟩⟩;refine cu !!!⟨k7 !!⟨?_⟩⟩;rw[hw];exact cu !!⟨fin⟩
theorem Nz(h:z∈KS):z.cps.size<=1000:=zJ (fZ z h).2.1<|by decide
inductive pZ(ds:wp)(S:ao)(R:KD)(Z:KX):Prop where
 |mk (cs n d)(h0:ds=[.tup<|cs.map aB,d])(h1:Gd cs)(h2:Sg cs n d)(h3:R (.bl true) S)
theorem xE:Ok P w base T.oH 5 pZ:=by
 obtain⟨cs,n,d,e,hg,hs,q⟩:T.oH.F.bF xb;refine{_,(sc (si (twd<|twor (cF<|tv<|cb cY T.ay au<|ap 1<|ac (t6 T.bB bf) an)<|twor (bn aR (cb aO T.aL aD<|ap 1 an) di)<|tw1<|cF<|tv<|cb cY T.ay au<|ac (bv (dv 1) di)<|ac (t6 T.pK jy) an) (s1<|sr db) s0)<|sc (si (bn g8 (mgk T.G_ (by decide) (gK T.C8)<|bv (dv 1) di)<|cb aO T.aL aD<|ap 1 an) (s1<|sr db) s0)<|sc (si (bn wg (bv (dv 1) di)<|cQ<|ac ds<|ac ds<|ac ds<|ac ds an) (s1<|sr<|aP T.jO (tG T) hr<|ap 0<|ap 1 an) s0)<|sc (si (bn aR (bv (dv 1) di) ds) (s1<|sr<|qt (aP T.dQ (pY T) hr<|ac (bv (dv 1) di) an)<|HW<|cb i9 T.ja e_<|ac (sA (N:=["key"]) (src:=[none]) (km AJ) (HZ<|bv (dv 1) di) nW<|aP T.l4 (ig T) hr<|ap 0 an) an) s0)<|sc (si (bn wg (bv (dv 1) di)<|cQ<|ac ds<|ac ds an) (s1<|sr<|aP T.dQ (pY T) hr<|ac (bv (dv 1) di) an) s0)<|s1<|sr db),?_};cases n with|zero=>exact hs.elim|succ n =>
 rcases hs with (rfl|⟨ks,rfl,hk8,BP⟩|⟨o,c,v,hc,hv,ho,rfl⟩)|⟨e,rfl,he⟩|⟨o,es,ho,rfl,LK,_⟩;refine !{_,_,_,_,rfl,aY,rfl,_,rfl,aX !!!⟨kQ rfl !!{_,_,_,_,rfl,cP,rfl,_,rfl,aX ?_}⟩};refine !!!!!!⟨kQ rfl ?_⟩;exact !!{uI,rfl,rfl,_,rfl,cu !!!⟨cu !!{cX,rfl,rfl,_,rfl,cu<|fo q}⟩};refine !{_,_,_,_,rfl,aY,rfl,_,rfl,aX !!!⟨kQ rfl !!{_,_,_,_,rfl,cP,rfl,_,rfl,aX ?_}⟩};refine !!!!!!⟨kQ rfl ?_⟩;refine !!{uI,rfl,rfl,_,rfl,cu !!!⟨k7 ?_⟩};refine !!!{by rw[zb];exact hk8,_,rfl,dJ !!{_,.inl rfl,?_}};refine comp_map (λ_=>.bl true) trivial (by show(ks.map D.str).length<=1000;rw[zb];lia) (λd hd Q hQ=>?_) λp hp=>?_;obtain⟨k,hk,rfl⟩:=zh.mp hd;refine !{.str k,rfl,gt_str<|Nz<|BP k hk,?_};show Q (.bl<|kP k) S;rw[(fZ k<|BP k hk).1];exact hQ;have e2:(ks.map D.str).map (λ_=>D.bl true)=(ks.map λ_=>true).map D.bl:=by rw[zt,zt];rfl
 have e3:(ks.map λ_=>true).all id=true:=by rw[all_map];exact z0.mpr λ_ _=>rfl
 refine{.ref p,ks.map λ_=>true,rfl,?_,S,.new hp,?_};show(S.set p<|.lst<|(ks.map D.str).map _) p=_;rw[aa,e2];rw[e3];exact q;have h4:o ="is"\/o ="below"\/o ="above"\/o ="begins":=by rcases ho with h|⟨_,h|h|⟨h,_⟩⟩;exact .inl h;exact .inr<|.inl h;exact .inr<|.inr<|.inl h;exact .inr<|.inr<|.inr h
 refine !{_,_,_,_,rfl,aY,rfl,_,rfl,aX !!!⟨kQ rfl !!{_,_,_,_,rfl,cP,rfl,_,rfl,aX ?_}⟩};have fin:∀Zq:KX,gX [D.tup<|cs.map aB,.tup [.str o,.str c.1,v]] S (λd S'=>Fo S'<|R d) Zq:=λ_=>{cs,o,c,v,rfl,hg,hc,hv,ho,fo q};rcases h4 with rfl|rfl|rfl|rfl;exact !!!!!!⟨kQ rfl !!{uI,rfl,rfl,_,rfl,k7 !!⟨(fin _)⟩}⟩;exact !!!!!!⟨kQ rfl !!{uI,rfl,rfl,_,rfl,k7 !!⟨(fin _)⟩}⟩;exact !!!!!!⟨kQ rfl !!{uI,rfl,rfl,_,rfl,k7 !!⟨(fin _)⟩}⟩;exact !!!!!!⟨kQ rfl !!{uI,rfl,rfl,_,rfl,k7 !!⟨(fin _)⟩}⟩;refine !{_,_,_,_,rfl,aY,rfl,_,rfl,aX !!!⟨kQ rfl !!{_,_,_,_,rfl,cP,rfl,_,rfl,aX ?_}⟩};refine !!!!!!⟨kQ rfl ?_⟩;exact !!{uI,rfl,rfl,_,rfl,cu !!!⟨cu !!{cX,rfl,rfl,_,rfl,cu<|fo q}⟩};have h8:es.length<=8:=by lia
 rcases ho with rfl|rfl;refine !{_,_,_,_,rfl,aY,rfl,_,rfl,aX !!!⟨kQ rfl !!{_,_,_,_,rfl,cP,rfl,_,rfl,aX ?_}⟩};refine !!!!!!⟨kQ rfl ?_⟩;exact !!{uI,rfl,rfl,_,rfl,cu !!!⟨cu !!{cX,rfl,rfl,_,rfl,k7 !!!{h8,fo q}}⟩};refine !{_,_,_,_,rfl,aY,rfl,_,rfl,aX !!!⟨kQ rfl !!{_,_,_,_,rfl,cP,rfl,_,rfl,aX ?_}⟩};refine !!!!!!⟨kQ rfl ?_⟩;exact !!{uI,rfl,rfl,_,rfl,cu !!!⟨cu !!{cX,rfl,rfl,_,rfl,k7 !!!{h8,fo q}}⟩}
inductive jh(ds:wp)(S:ao)(R:KD)(Z:KX):Prop where
 |mk (l es cs m)(h0:ds=[.ref l])(h1:S l=some (.lst es))(h2:(es.flatMap nB).length<=900)(h3:(∀e∈es,Sg cs (m+1) e))(h4:∀p,S p=none->R (.ref p) (S.set p<|.lst<|es.flatMap nB))
theorem oV:Ok P w base T.gR 1 jh:=by
 obtain⟨l,es,cs,m,e,hl,h8,LK,q⟩:T.gR.F.bF eG;refine{_,(sc (bP (i:=1) eG.nd<|b_ an)<|sc (qX<|GR (il<|dv 0) (gn (i:=2) eG.nd)<|sc (qX<|si (bn aR (bv (dv 2) di) ds) (s1<|se<|bm zM zW zX cw (dv 1)<|ac (bv (dv 2) di) an) s0)<|s1<|si (bn wg (bv (dv 2) di)<|cQ<|ac ds<|ac ds an) (s1<|se<|bm zM PySem.F.slot_list_extend PySem.F.type_list_extend GV (dv 1)<|ac (bv (dv 2) di) an) s0)<|s1<|sr<|dv 1),?_};refine{ng,λf hf=>?_};have Nr:l≠f:=gA hl hf;refine{λaA S'=>∃o,aA=[some<|.ref l,some<|.ref f,o]/\S'=S.set f (.lst<|es.flatMap nB),?_,?_};refine !{es,(ae Nr).trans hl,?_};refine{λi aA S'=>∃o,aA=[some<|.ref l,some<|.ref f,o]/\S'=S.set f (.lst<|(es.take i).flatMap nB),⟨none,rfl,rfl⟩,?_,?_,?_};rintro i aA S' ⟨o,rfl,rfl⟩;exact(ae Nr).trans hl;rintro i e aA S' he ⟨o,rfl,rfl⟩;have he:es[i]?=some e:=he;have hem:=LK e<|zy he;have et:(es.take<|i+1).flatMap nB=(es.take i).flatMap nB++nB e:=by rw[List.take_add_one,he,List.flatMap_append];simp
 have NA:((es.take i).flatMap nB).length+(nB e).length<=900:=by rw[<-zE,<-et];refine zJ ?_ h8;(conv=>rhs;rw[<-List.take_append_drop (i+1) es,List.flatMap_append,zE]);exact Nat.le_add_right _ _
 generalize (es.take i).flatMap nB=fs at et NA⊢;have Ud:(S.set f<|.lst fs) f=some (.lst fs):=aa;have keep:nB e=[]->∃o,[some<|D.ref l,some<|D.ref f,some e]=[some<|.ref l,some<|.ref f,o]/\S.set f (.lst fs)=S.set f (.lst<|(es.take<|i+1).flatMap nB):=λh=>!⟨by rw[et,h,List.append_nil]⟩;have more:∀ds,nB e=ds->∃o,[some<|D.ref l,some<|D.ref f,some e]=[some<|.ref l,some<|.ref f,o]/\(S.set f<|.lst fs).set f (.lst<|fs++ds)=S.set f (.lst<|(es.take<|i+1).flatMap nB):=λds h=>!⟨by rw[et,h,bp]⟩;rcases hem with (rfl|⟨ks,rfl,_,_⟩|⟨o,c,v,_,_,ho,rfl⟩)|⟨e',rfl,Ya⟩|⟨o,ds,ho,rfl,Tj,hd⟩;refine{λqM S2=>qM=_/\S2=S.set f (.lst fs),!!!⟨cu<|fo ⟨rfl,rfl⟩⟩,?_};rintro _ _ ⟨rfl,rfl⟩;exact !!{cX,rfl,rfl,_,rfl,cu<|keep rfl};refine{λqM S2=>qM=_/\S2=S.set f (.lst fs),!!!⟨cu<|fo ⟨rfl,rfl⟩⟩,?_};rintro _ _ ⟨rfl,rfl⟩;exact !!{cX,rfl,rfl,_,rfl,cu<|keep rfl};rcases ho with rfl|⟨_,rfl|rfl|⟨rfl,_⟩⟩;refine{λqM S2=>qM=_/\S2=S.set f (.lst fs),!!!⟨cu<|fo ⟨rfl,rfl⟩⟩,?_};rintro _ _ ⟨rfl,rfl⟩;exact !!{cX,rfl,rfl,_,rfl,cu<|keep rfl};refine{λqM S2=>qM=_/\S2=S.set f (.lst fs),!!!⟨cu<|fo ⟨rfl,rfl⟩⟩,?_};rintro _ _ ⟨rfl,rfl⟩;exact !!{cX,rfl,rfl,_,rfl,cu<|keep rfl};refine{λqM S2=>qM=_/\S2=S.set f (.lst fs),!!!⟨cu<|fo ⟨rfl,rfl⟩⟩,?_};rintro _ _ ⟨rfl,rfl⟩;exact !!{cX,rfl,rfl,_,rfl,cu<|keep rfl};refine{λqM S2=>qM=_/\S2=S.set f (.lst fs),!!!⟨cu<|fo ⟨rfl,rfl⟩⟩,?_};rintro _ _ ⟨rfl,rfl⟩;exact !!{cX,rfl,rfl,_,rfl,cu<|keep rfl};refine{λqM S2=>qM=_/\S2=(S.set f<|.lst fs).set f (.lst<|fs++[e']),!!!⟨k7 !⟨{rfl,_,Ud},_,rfl,_,rfl,f,_,_,rfl,rfl,Ud,bg<|by rw[xC]at NA;simp at NA;omega,fo ⟨rfl,rfl⟩⟩⟩,?_};rintro _ _ ⟨rfl,rfl⟩;exact !!{cX,rfl,rfl,_,rfl,cu<|more _<|xC e'};have eds:=xD ho ds;rw[eds]at NA;rcases ho with rfl|rfl;refine{λqM S2=>qM=_/\S2=S.set f (.lst fs),!!!⟨cu<|fo ⟨rfl,rfl⟩⟩,?_};rintro _ _ ⟨rfl,rfl⟩;exact !!{cX,rfl,rfl,_,rfl,k7 !⟨{rfl,_,Ud},_,rfl,_,rfl,f,_,_,rfl,rfl,Ud,sm<|by omega,more _ eds⟩};refine{λqM S2=>qM=_/\S2=S.set f (.lst fs),!!!⟨cu<|fo ⟨rfl,rfl⟩⟩,?_};rintro _ _ ⟨rfl,rfl⟩;exact !!{cX,rfl,rfl,_,rfl,k7 !⟨{rfl,_,Ud},_,rfl,_,rfl,f,_,_,rfl,rfl,Ud,sm<|by omega,more _ eds⟩};rintro aA S' ⟨o,rfl,rfl⟩;refine fo {o,rfl,?_};rw[show({es,λS=>S l=some (.lst es)}:nV).xs=es from rfl,yI];rintro aA S' ⟨o,rfl,rfl⟩;exact{_,rfl,fo<|q f hf}
theorem Kr{cs:wT}{n:Nat}{d:D}(h:Sg cs (n+1) d):∀f∈nB d,Sg cs n f:=by
 rcases h with (rfl|⟨ks,rfl,_,_⟩|⟨o,c,v,_,_,ho,rfl⟩)|⟨e',rfl,Ya⟩|⟨o,ds,ho,rfl,Tj,hd⟩;exact nofun;exact nofun;exact nofun;rw[xC];exact λf hf=>by rw[zK.mp hf];exact Ya
 rw[xD ho];exact hd
theorem Ks(n:Nat):∀es:wp,(es.map<|pX<|n+1).sum=es.length+((es.flatMap nB).map<|pX n).sum|[]=>rfl|e::es=>by have:=Ks n es;rw[zx,List.sum_cons,zQ,List.flatMap_cons,zC,List.sum_append,this,show pX (n+1) e=((nB e).map<|pX n).sum+1 from rfl];lia
theorem Se{cs:wT}{n:Nat}{es:wp}(h:∀e∈es,Sg cs (n+1) e):(es.flatMap nB).length<=((es.flatMap nB).map<|pX n).sum:=by
 have h:∀f∈es.flatMap nB,Sg cs n f:=λf hf=>by obtain⟨e,he,hf⟩:=List.mem_flatMap.mp hf;exact Kr (h e he) f hf
 generalize es.flatMap nB=fs at h⊢;induction fs with|nil=>exact zq _|cons f fs ih=>have h1:=h f zj;have ih:=ih λx hx=>h x<|zf _ hx;have:1<=pX n f:=(by cases n with|zero=>exact h1.elim|succ n=>exact Nat.le_add_left _ _);rw[zx,List.sum_cons,zQ];lia
inductive lB(ds:wp)(S:ao)(R:KD)(Z:KX):Prop where
 |mk (cs d)(h0:ds=[.tup<|cs.map aB,d])(h1:Gd cs)(h2:Sq cs d)(h3:R .av S)
theorem gf:Ok P w base T.eR 6 lB:=by
 obtain⟨cs,d,e,hg,hd,q⟩:T.eR.F.bF bH;refine{_,(sc (bP (i:=2) bH.nd<|b_<|ap 1 an)<|sc (bP (i:=3) bH.nd di)<|sc (bP (i:=4) bH.nd di)<|s1<|swh (bn qu (cb aO T.aL aD<|ap 2 an) di)<|sc (sau (i:=3) bH.nd di)<|sc (sau (i:=4) bH.nd<|cb aO T.aL aD<|ap 2 an)<|sc (si (twd<|twor (bn qu (dv 3)<|dg (v:=.int 8) T.wI {_,rfl} λ_=>aT _)<|tw1<|bn qu (dv 4)<|dg (v:=.int 200) T.jJ {_,rfl} λ_=>aT _) (s1<|sj ⟨T.iJ⟩ T.pL<|ac ds an) s0)<|sc (si (cF<|tv<|cb i9 T.ja e_<|ac (sA (N:=["thing","columns"]) (src:=[none,some 0]) (km uy) (il<|dv 2) nW<|aP T.oH (xE T) hr<|ap 1<|ap 0 an) an) (s1<|sj ⟨T.iJ⟩ T.pL<|ac ds an) s0)<|s1<|bP (i:=2) bH.nd<|aP T.gR (oV T) hr<|ap 2 an),?_};refine !{uG,λl0 T8=>?_};refine{λm aA S'=>∃(l:Addr)(es:wp)(dp p:Nat),aA=[some<|.tup<|cs.map aB,some d,some<|.ref l,some<|.int dp,some<|.int p]/\S' l=some (.lst es)/\Sub S S'/\(∀e∈es,Sg cs m e)/\dp+m=7/\p+(es.map<|pX m).sum<=200,{7,l0,[d],0,0,rfl,aa,.new T8,λe he=>by rw[zK.mp he];exact hd.1,rfl,by have:=hd.2;simp only[zx,yV,List.sum_cons,List.sum_nil];lia},?_};rintro m aA S' ⟨l,es,dp,p,rfl,hl,sb,LK,hdp,hp⟩;refine !!⟨.inl {_,hl,_,rfl,?_}⟩;refine bS (λh1=>?_) λh1=>?_;have Jd:0<es.length:=by have h1:(0:Int)<((es.length:Nat):Int):=zG h1;lia
 obtain⟨e0,he0⟩:=List.exists_mem_of_length_pos Jd;obtain⟨n,rfl⟩:∃n,m=n+1:=by cases m with|zero=>exact(LK e0 he0).elim|succ n=>exact⟨n,rfl⟩
 have afm:=Ks n es;have Vn:=Se (cs:=cs) (n:=n) (es:=es) LK;refine !!!!!⟨.inl {_,hl,_,rfl,?_}⟩;refine !!⟨kQ (zA<|by lia) !!⟨kQ (zA<|by lia) ?_⟩⟩;refine !{es,hl,?_};refine comp_map (λ_=>.bl true) hl (by show es.length<=1000;lia) (λe he Q hQ=>?_) λp1 my=>?_;exact !!{cs,_,e,rfl,hg,LK e he,hQ};have e2:es.map (λ_=>D.bl true)=(es.map λ_=>true).map D.bl:=by rw[zt];rfl
 have e3:(es.map λ_=>true).all id=true:=by rw[all_map];exact z0.mpr λ_ _=>rfl
 refine{.ref p1,es.map λ_=>true,rfl,?_,_,rfl,?_};show(S'.set p1<|.lst<|es.map _) p1=_;rw[aa,e2];rw[e3];refine aX ?_;have s1:=sb.trans<|.new (c:=.lst<|es.map λ_=>D.bl true) my;have Ig:(S'.set p1<|.lst<|es.map λ_=>D.bl true) l=some (.lst es):=(ae<|gA hl my).trans hl;refine !{l,es,cs,n,rfl,Ig,by lia,LK,λp2 h3=>?_};refine{n,Nat.lt_succ_self n,p2,es.flatMap nB,dp+1,p+es.length,?_,aa,s1.trans<|.new h3,λf hf=>?_,by lia,by lia};show[_,_,_,some<|D.int<|((dp:Nat):Int)+1,some<|D.int<|((p:Nat):Int)+((es.length:Nat):Int)]=_;rw[show(((dp:Nat):Int)+1)=((dp+1:Nat):Int) by lia,show(((p:Nat):Int)+((es.length:Nat):Int))=((p+es.length:Nat):Int) by lia];obtain⟨e,he,hf⟩:=List.mem_flatMap.mp hf;exact Kr (LK e he) f hf;exact⟨S,sb,q⟩
noncomputable def Kt(cs:wT)(z:Str):Nat:=(cs.map Prod.fst).idxOf z
noncomputable def ak(cs:wT)(ws:wp)(z:Str):D:=(ws[Kt cs z]?).getD .av
noncomputable def ah(r:Str×List D):D:=.tup [.str r.1,.tup r.2]
theorem DM{α β:Type}{rel:α->β->Prop}{l:List α}{m:List β}(h:Paired rel l m):∀{i:Nat}{a:α},l[i]?=some a->∃b,m[i]?=some b/\rel a b:=by induction h with|nil=>intro i a h;simp at h|cons r t ih=>intro i a h;cases i with|zero=>(rw[List.getElem?_cons_zero]at h⊢;cases h;exact{_,rfl,r})|succ i=>rw[List.getElem?_cons_succ]at h⊢;exact ih h
theorem tH(hg:Gd cs)(h:c∈cs):cs[Kt cs c.1]?=some c/\(cs.map Prod.fst)[Kt cs c.1]?=some c.1:=by
 have hm:c.1∈cs.map Prod.fst:=zh.mpr ⟨c,h,rfl⟩;have hi:(cs.map Prod.fst).idxOf c.1<(cs.map Prod.fst).length:=List.idxOf_lt_length_of_mem hm;have e1:(cs.map Prod.fst)[(cs.map Prod.fst).idxOf c.1]?=some c.1:=by rw[ze hi,List.getElem_idxOf]
 refine{?_,e1};obtain⟨j,ej⟩:=yu h;have ej1:(cs.map Prod.fst)[j]?=some c.1:=by rw[zi,ej];rfl
 obtain⟨b1,c1⟩:=zg.mp e1;obtain⟨b2,c2⟩:=zg.mp ej1;have:=(List.getElem_inj hg.2.1 (h₀:=b1) (h₁:=b2)).mp<|c1.trans c2.symm;unfold Kt;rw[this];exact ej
theorem kC{cs:wT}(hg:Gd cs){ws:wp}(hw:Wg cs ws){c:Str×Str}(h:c∈cs):ws[Kt cs c.1]?=some (ak cs ws c.1)/\Vg c.2 (ak cs ws c.1):=by obtain⟨v,e,r⟩:=DM hw (tH hg h).1;unfold ak;rw[e];exact⟨rfl,r⟩
noncomputable def l_:D->D->Bool|.av,.av=>true|.int i,.int j=>decide (i=j)|.str i,.str j=>decide (i=j)|_,_=>false
theorem aU(ha:bC a=true)(hb:bC b=true):l_ a b=true↔a=b:=by rcases fz ha with rfl|⟨i,rfl⟩|⟨i,rfl⟩<;>rcases fz hb with rfl|⟨j,rfl⟩|⟨j,rfl⟩<;>simp[l_]
theorem nC(ha:bC a=true)(hb:bC b=true)(q:R (.bl<|if neg then !l_ a b else l_ a b) S):GK neg a b S R:=by
 obtain⟨p,p1,p2,p3⟩:=Ly.plain (S:=S) ha;obtain⟨r,r1,r2,r3⟩:=Ly.plain (S:=S) hb;have fin:PyData.eqv p r=l_ a b->R (.bl<|if neg then !PyData.eqv p r else PyData.eqv p r) S:=λe=>by rw[e];exact q
 have d:p.depth<=64:=by lia
 rcases fz ha with rfl|⟨i,rfl⟩|⟨i,rfl⟩<;>rcases fz hb with rfl|⟨j,rfl⟩|⟨j,rfl⟩<;>first|exact q|exact{p,r,p1,r1,p2,r2,.inl d,fin<|by simp only[Dp]at p1 r1;subst p1 r1;rfl}
noncomputable def tI:D->D->Bool|.int i,.int j=>decide (i<j)|.str i,.str j=>nU i j|_,_=>false
noncomputable def stP:D->D->Bool|.str i,.str j=>PySem.Txt.startswith i j|_,_=>false
noncomputable def Ba(o:Str)(a b:D):Bool:=if o ="is" then l_ a b else if ag a then false else if o ="below" then tI a b else if o ="above" then tI b a else stP a b
noncomputable def Ht:D->List D|.tup ds=>ds|_=>[]
noncomputable def WZ(cs:wT)(r:Str×List D)(f:D->Bool):D->Bool|.tup [.str _]=>true|.tup [.str o,e]=>(if o ="not" then !f e else if o ="key" then Ci (kJ<|.str r.1) ((Ht e).map kJ) else if o ="and" then (Ht e).all f else (Ht e).any f)|.tup [.str o,.str z,v]=>Ba o (ak cs r.2 z) v|_=>false
noncomputable def bh(cs:wT)(r:Str×List D):Nat->D->Bool|0,_=>false|n+1,d=>WZ cs r (bh cs r n) d
theorem Fj(cs:wT)(r:Str×List D)(n:Nat)(o:Str)(e:D):bh cs r (n+1) (.tup [.str o,e])=if o ="not" then !bh cs r n e else if o ="key" then Ci (kJ<|.str r.1) ((Ht e).map kJ) else if o ="and" then (Ht e).all (bh cs r n) else (Ht e).any (bh cs r n):=rfl
theorem Pl(cs:wT)(r:Str×List D)(n:Nat)(o z:Str)(v:D):bh cs r (n+1) (.tup [.str o,.str z,v])=Ba o (ak cs r.2 z) v:=rfl
theorem Bb(cs:wT)(r:Str×List D)(n:Nat)(ks:wp):bh cs r (n+1) (.tup [.str "key",.tup ks])=Ci (kJ<|.str r.1) (ks.map kJ):=by rw[Fj,if_neg<|by trivial,if_pos rfl];rfl
theorem Bc(cs:wT)(r:Str×List D)(n:Nat)(e:D):bh cs r (n+1) (.tup [.str "not",e])=!bh cs r n e:=by rw[Fj,if_pos rfl]
theorem Bd(cs:wT)(r:Str×List D)(n:Nat)(es:wp):bh cs r (n+1) (.tup [.str "and",.tup es])=es.all (bh cs r n):=by rw[Fj,if_neg<|by trivial,if_neg<|by trivial,if_pos rfl];rfl
theorem Fl(cs:wT)(r:Str×List D)(n:Nat)(es:wp):bh cs r (n+1) (.tup [.str "or",.tup es])=es.any (bh cs r n):=by rw[Fj,if_neg<|by trivial,if_neg<|by trivial,if_neg<|by trivial];rfl
theorem mf{k:Str}(ha:Vg k a)(hb:Vg k b)(na:a≠.av)(nb:b≠.av):(∃i j,a=.int i/\b=.int j)\/∃i j,a=.str i/\b=.str j:=by
 obtain⟨a1,a2⟩:=ha;obtain⟨b1,b2⟩:=hb;have no:∀{i:Int}{z:Str},iT k (.int i)=true->iT k (.str z)=true->False:=λh1 h2=>by unfold iT at h1 h2;simp only[ag,Bool.false_or]at h1 h2;by_cases e:k ="number";rw[if_pos e]at h2;cases h2;rw[if_neg e]at h1;cases h1
 rcases fz a2 with rfl|⟨i,rfl⟩|⟨i,rfl⟩<;>rcases fz b2 with rfl|⟨j,rfl⟩|⟨j,rfl⟩<;>first|exact absurd rfl na|exact absurd rfl nb|exact .inl ⟨i,j,rfl,rfl⟩|exact .inr ⟨i,j,rfl,rfl⟩|exact(no a1 b1).elim|exact(no b1 a1).elim
theorem rm(h:Vg "word" a)(n:a≠.av):∃z,a=.str z:=by obtain⟨h1,h2⟩:=h;rcases fz h2 with rfl|⟨i,rfl⟩|⟨z,rfl⟩;exact absurd rfl n;unfold iT at h1;rw[if_neg<|by trivial]at h1;cases h1;exact⟨z,rfl⟩
theorem aV(h:ag a=false):a≠.av:=by rintro rfl;cases h
inductive mh(ds:wp)(S:ao)(R:KD)(Z:KX):Prop where
 |mk (cs r c)(h0:ds=[.tup<|cs.map aB,ah r,.str c.1])(h1:Gd cs)(h2:Wg cs r.2)(h3:c∈cs)(h4:R (ak cs r.2 c.1) S)
theorem dI:Ok P w base T.cy 2 mh:=by
 obtain⟨cs,r,c,e,hg,hw,hc,q⟩:T.cy.F.bF AY;obtain⟨n1,n2⟩:=tH hg hc;refine{_,(s1<|sr<|bv (bv (dv 1) di)<|bm zM PySem.F.slot_list_index PySem.F.type_list_index r_ (aP T.mZ (pS T) hr<|ap 0 an)<|ap 2 an),?_};refine !!!{cs,rfl,hg.1,λp hp=>?_};refine{{rfl,_,aa},_,rfl,(cs.map Prod.fst).map D.str,.str c.1,Kt cs c.1,rfl,aa,rfl,?_,{.str c.1,by rw[zi,n2];rfl,by show(c.1==c.1)=true;simp},?_,?_};rw[List.all_map];exact z0.mpr λ_ _=>rfl;intro m u hm hu;rw[zi]at hu;cases e:(cs.map Prod.fst)[m]? with|none=>(rw[e]at hu;cases hu)|some z'=>rw[e]at hu;cases hu;show(z'==c.1)=false;have:z'≠c.1:=λq=>(by subst q;obtain⟨b1,c1⟩:=zg.mp e;obtain⟨b2,c2⟩:=zg.mp n2;have:=(List.getElem_inj hg.2.1 (h₀:=b1) (h₁:=b2)).mp<|c1.trans c2.symm;lia);simpa using this
 exact{_,bu (kC hg hw hc).1,S,.new hp,q}
inductive gk(ds:wp)(S:ao)(R:KD)(Z:KX):Prop where
 |mk (o a b c)(h0:ds=[.str o,a,b])(h1:Vg c.2 a)(h2:Vg c.2 b)(h3:xB o c b)(h4:R (.bl<|Ba o a b) S)
theorem qD:Ok P w base T.iL 1 gk:=by
 obtain⟨o,a,b,c,e,ha,hb,ho,q⟩:T.iL.F.bF qy;refine{_,(sc (si (bn aR (dv 0) ds) (s1<|sr<|bi aR (dv 1)<|dv 2) s0)<|sc (si (bn fm (dv 1) dn) (s1<|sr db) s0)<|sc (si (bn aR (dv 0) ds) (s1<|sr<|bi rZ (dv 1)<|dv 2) s0)<|sc (si (bn aR (dv 0) ds) (s1<|sr<|bi qu (dv 1)<|dv 2) s0)<|s1<|sr<|bm PySem.F.plainAttrs_str PySem.F.slot_str_startswith PySem.F.type_str_startswith Jn (dv 1)<|ap 2 an),?_};unfold Ba at q;rcases ho with rfl|⟨nb,ho⟩;rw[if_pos rfl]at q;exact !!⟨k7 !!⟨nC ha.2 hb.2<|fo q⟩⟩;have ne:∀{A B:Bool},o≠"is"->R (.bl<|if o ="is" then A else B) S->R (.bl B) S:=λh q=>by rw[if_neg h]at q;exact q
 rcases ho with rfl|rfl|⟨rfl,hk⟩;rw[if_neg<|by trivial]at q;refine !!⟨cu !!⟨bS (λh=>?_) λh=>?_⟩⟩;rw[if_pos h]at q;exact fo q;rw[if_neg<|by rw[show ag a=false from h];exact zd,if_pos rfl]at q;refine !!⟨k7 !!⟨?_⟩⟩;rcases mf ha hb (aV h) nb with⟨i,j,rfl,rfl⟩|⟨i,j,rfl,rfl⟩<;>exact fo q;rw[if_neg<|by trivial]at q;refine !!⟨cu !!⟨bS (λh=>?_) λh=>?_⟩⟩;rw[if_pos h]at q;exact fo q;rw[if_neg<|by rw[show ag a=false from h];exact zd,if_neg<|by trivial,if_pos rfl]at q;refine !!⟨cu !!⟨k7 !!⟨?_⟩⟩⟩;rcases mf ha hb (aV h) nb with⟨i,j,rfl,rfl⟩|⟨i,j,rfl,rfl⟩<;>exact fo q;rw[if_neg<|by trivial]at q;refine !!⟨cu !!⟨bS (λh=>?_) λh=>?_⟩⟩;rw[if_pos h]at q;exact fo q;rw[if_neg<|by rw[show ag a=false from h];exact zd,if_neg<|by trivial,if_neg<|by trivial]at q;refine !!⟨cu !!⟨cu ?_⟩⟩;rw[hk]at ha hb;obtain⟨i,rfl⟩:=rm ha<|aV h;obtain⟨j,rfl⟩:=rm hb nb;exact !{rfl,_,rfl,i,j,rfl,rfl,fo q}
inductive DN(n:Nat)(ds:wp)(S:ao)(R:KD)(Z:KX):Prop where
 |mk (cs d r)(h0:ds=[.tup<|cs.map aB,d,ah r])(h1:Gd cs)(h2:Sg cs n d)(h3:Wg cs r.2)(h4:R (.bl<|bh cs r n d) S)
theorem kD(T:Txt w K mg t):∀n,Ok P w base T.passes (3+n) (DN n)
 |0=>by refine T.passes.F.ok (k:=2) vA (by rintro ds S R Z ⟨_,_,_,e,_⟩;rw[e];rfl) (by rintro gy A outer s H E ds S R Z hr ⟨cs,d,r,e,hg,hs,_⟩;exact hs.elim)
 |n+1=>by
  refine T.passes.F.ok (k:=3+n) vA (by rintro ds S R Z ⟨_,_,_,e,_⟩;rw[e];rfl) ?_;obtain⟨cs,d,r,e,hg,hs,hw,q⟩;refine{_,(sc (si (a_ aR hr.u (ix hr.u (dv 1) di) ds) (s1<|sr db) s0)<|sc (si (a_ aR hr.u (ix hr.u (dv 1) di) ds) (s1<|sr<|cm wg hr.u (ix hr.u (dv 2) di)<|ix hr.u (dv 1) di) s0)<|sc (si (a_ aR hr.u (ix hr.u (dv 1) di) ds) (s1<|sr<|Q7<|aP T.passes (kD T n) hr<|ap 0<|ac (ix hr.u (dv 1) di)<|ap 2 an) s0)<|sc (si (a_ aR hr.u (ix hr.u (dv 1) di) ds) (s1<|sr<|cb i9 T.ja e_<|ac (sA (N:=["inner","columns","row"]) (src:=[none,some 0,some 2]) (km AK) (HZ<|ix hr.u (dv 1) di) nW<|aP T.passes (kD T n) hr<|ap 1<|ap 0<|ap 2 an) an) s0)<|sc (si (a_ aR hr.u (ix hr.u (dv 1) di) ds) (s1<|sr<|cb OI T.O7 IZ<|ac (sA (N:=["inner","columns","row"]) (src:=[none,some 0,some 2]) (km AK) (HZ<|ix hr.u (dv 1) di) nW<|aP T.passes (kD T n) hr<|ap 1<|ap 0<|ap 2 an) an) s0)<|s1<|sr<|aP T.iL (qD T) hr<|ac (ix hr.u (dv 1) di)<|ac (aP T.cy (dI T) hr<|ap 0<|ap 2<|ac (ix hr.u (dv 1) di) an)<|ac (ix hr.u (dv 1) di) an),?_};rcases hs with (rfl|⟨ks,rfl,hk8,BP⟩|⟨o,c,v,hc,hv,ho,rfl⟩)|⟨e,rfl,he⟩|⟨o,es,ho,rfl,LK,Vu⟩;exact !!!⟨k7<|fo q⟩;refine !!!⟨cu !!!⟨k7 ?_⟩⟩;refine !!!!{rfl,?_,?_};rw[List.all_map];exact z0.mpr λ_ _=>rfl;rw[Bb]at q;exact fo q;rw[Pl]at q;have fin:∀Zq,gk [D.str o,ak cs r.2 c.1,v] S (λd S'=>Fo S'<|R d) Zq:=λ_=>{o,_,v,c,rfl,(kC hg hw hc).2,hv,ho,fo q};have h4:o ="is"\/o ="below"\/o ="above"\/o ="begins":=by rcases ho with h|⟨_,h|h|⟨h,_⟩⟩;exact .inl h;exact .inr<|.inl h;exact .inr<|.inr<|.inl h;exact .inr<|.inr<|.inr h
  rcases h4 with rfl|rfl|rfl|rfl;exact !!!⟨cu !!!⟨cu !!!⟨cu !!!⟨cu !!!⟨cu !!!!!!{cs,r,c,rfl,hg,hw,hc,_,rfl,_,rfl,fin _}⟩⟩⟩⟩⟩;exact !!!⟨cu !!!⟨cu !!!⟨cu !!!⟨cu !!!⟨cu !!!!!!{cs,r,c,rfl,hg,hw,hc,_,rfl,_,rfl,fin _}⟩⟩⟩⟩⟩;exact !!!⟨cu !!!⟨cu !!!⟨cu !!!⟨cu !!!⟨cu !!!!!!{cs,r,c,rfl,hg,hw,hc,_,rfl,_,rfl,fin _}⟩⟩⟩⟩⟩;exact !!!⟨cu !!!⟨cu !!!⟨cu !!!⟨cu !!!⟨cu !!!!!!{cs,r,c,rfl,hg,hw,hc,_,rfl,_,rfl,fin _}⟩⟩⟩⟩⟩;rw[Bc]at q;exact !!!⟨cu !!!⟨cu !!!⟨k7 !!!!{cs,e,r,rfl,hg,he,hw,_,rfl,fo q}⟩⟩⟩;have hz:es.length<=1000:=by lia
  rcases ho with rfl|rfl;rw[Bd]at q;refine !!!⟨cu !!!⟨cu !!!⟨cu !!!⟨k7 !!{_,.inl rfl,?_}⟩⟩⟩⟩;refine comp_map (λd=>.bl<|bh cs r n d) trivial hz (λd hd Q hQ=>!!!{cs,d,r,rfl,hg,Vu d hd,hw,hQ}) λp hp=>?_;refine{.ref p,es.map<|bh cs r n,rfl,?_,S,.new hp,?_};show(S.set p<|.lst<|es.map _) p=_;rw[aa,zt];rfl;rw[all_map];exact q;rw[Fl]at q;refine !!!⟨cu !!!⟨cu !!!⟨cu !!!⟨cu !!!⟨k7 !!{_,.inl rfl,?_}⟩⟩⟩⟩⟩;refine comp_map (λd=>.bl<|bh cs r n d) trivial hz (λd hd Q hQ=>!!!{cs,d,r,rfl,hg,Vu d hd,hw,hQ}) λp hp=>?_;refine{.ref p,es.map<|bh cs r n,rfl,?_,S,.new hp,?_};show(S.set p<|.lst<|es.map _) p=_;rw[aa,zt];rfl;rw[List.any_map];exact q
abbrev Row:=Str×List D
abbrev At:=List Row
abbrev Part:=Str×Str×Str
abbrev xL:=List Part
theorem Sf{a b:Str}(h:a.cps.toList=b.cps.toList):a=b:=by obtain⟨x⟩:=a;obtain⟨y⟩:=b;exact congrArg Str.mk<|Array.ext' h
theorem Fm(a:Str):nU a a=false:=zA<|List.lt_irrefl _
theorem kE{a b:Str}(h:a≠b):nU b a=!nU a b:=by unfold nU;rw[yk];simp only[decide_eq_true_iff,Bool.not_eq_true',yq];constructor;exact λh1 h2=>List.lt_irrefl _<|List.lt_trans h1 h2;intro h1;by_cases h2:b.cps.toList<a.cps.toList;exact h2;exact absurd (Sf<|List.le_antisymm (List.not_lt.mp h2)<|List.not_lt.mp h1) h
theorem DP(h1:nU a b=true)(h2:nU b c=true):nU a c=true:=zu<|List.lt_trans (zG h1)<|zG h2
theorem NB(a:D):tI a a=false:=by cases a<;>first|rfl|exact Fm _|exact zA (Int.lt_irrefl _)
theorem nD(ha:Vg k a)(hb:Vg k b)(na:a≠.av)(nb:b≠.av)(h:a≠b):tI b a=!tI a b:=by rcases mf ha hb na nb with⟨i,j,rfl,rfl⟩|⟨i,j,rfl,rfl⟩;have jt:i≠j:=λe=>h<|congrArg D.int e;show decide (j<i)=!decide (i<j);rw[yk];simp only[decide_eq_true_iff,Bool.not_eq_true',yq];lia;exact kE λe=>h<|congrArg D.str e
theorem Sh(h:tI x y=true):(∃i j,x=.int i/\y=.int j/\i<j)\/∃i j,x=.str i/\y=.str j/\nU i j=true:=by unfold tI at h;split at h;exact .inl {_,_,rfl,rfl,zG h};exact .inr {_,_,rfl,rfl,h};cases h
theorem Ku(h1:tI a b=true)(h2:tI b c=true):tI a c=true:=by rcases Sh h1 with⟨i,j,rfl,rfl,k1⟩|⟨i,j,rfl,rfl,k1⟩<;>rcases Sh h2 with⟨j',l,e,rfl,k2⟩|⟨j',l,e,rfl,k2⟩<;>cases e;exact zu<|Int.lt_trans k1 k2;exact DP k1 k2
theorem Kv(h:Wu a b):tI a b=true:=by cases a with|int i=>(cases b with|int j=>exact zu h|_=>exact h.elim)|str i=>(cases b with|str j=>exact zu h|_=>exact h.elim)|_=>exact h.elim
noncomputable def cz(p:Part)(x y:D):Bool:=if (ag x != ag y)=true then ag x==decide (p.2.2 ="first") else tI x y==decide (p.2.1 ="up")
noncomputable def bJ(cs:wT)(wy:Str):List Part->Row->Row->Bool|[],a,b=>nU a.1 b.1==decide (wy ="up")|p::ps,a,b=>if l_ (ak cs a.2 p.1) (ak cs b.2 p.1)=true then bJ cs wy ps a b else cz p (ak cs a.2 p.1) (ak cs b.2 p.1)
theorem bxor:((!x)==u)=!(x==u):=by cases x<;>cases u<;>rfl
theorem df(h:ag x=true):x=.av:=by cases x<;>first|rfl|cases h
theorem oW(hx:Vg k x)(hy:Vg k y)(h:x≠y):cz p y x=!cz p x y:=by unfold cz;cases nx:ag x with|true=>(cases ny:ag y with|true=>exact absurd ((df nx).trans (df ny).symm) h|false=>rw[if_pos<|by rfl,if_pos<|by rfl];cases decide (p.2.2 ="first")<;>rfl)|false=>cases ny:ag y with|true=>(rw[if_pos<|by rfl,if_pos<|by rfl];cases decide (p.2.2 ="first")<;>rfl)|false=>rw[if_neg<|by simp,if_neg<|by simp,nD hx hy (aV nx) (aV ny) h,bxor]
theorem Fn(hx:Vg k x)(hy:Vg k y)(hz:Vg k z)(hxy:x≠y)(hyz:y≠z)(h1:cz p x y=true)(h2:cz p y z=true):x≠z/\cz p x z=true:=by
 have hxz:x≠z:=by rintro rfl;have:=oW (p:=p) hx hy hxy;rw[h1,h2]at this;cases this
 refine{hxz,?_};unfold cz at h1 h2⊢;cases nx:ag x with|true=>(cases ny:ag y with|true=>exact absurd ((df nx).trans (df ny).symm) hxy|false=>rw[nx,ny,if_pos<|by rfl]at h1;cases nz:ag z with|true=>exact absurd ((df nx).trans (df nz).symm) hxz|false=>rw[if_pos<|by rfl];exact h1)|false=>cases ny:ag y with|true=>(rw[nx,ny,if_pos<|by rfl]at h1;cases nz:ag z with|true=>exact absurd ((df ny).trans (df nz).symm) hyz|false=>rw[ny,nz,if_pos<|by rfl]at h2;cases e:decide (p.2.2 ="first")<;>rw[e]at h1 h2<;>first|cases h1;done|cases h2;done)|false=>rw[nx,ny,if_neg<|by simp]at h1;cases nz:ag z with|true=>rw[ny,nz,if_pos<|by rfl]at h2;rw[if_pos<|by rfl];exact h2|false=>rw[ny,nz,if_neg<|by simp]at h2;rw[if_neg<|by simp];cases e:decide (p.2.1 ="up") with|true=>rw[e]at h1 h2;rw[Ku (a:=x) (b:=y) (c:=z) (by simpa using h1)<|by simpa using h2];rfl|false=>rw[e]at h1 h2;have h1:tI x y=false:=(by simpa using h1);have h2:tI y z=false:=(by simpa using h2);have a1:=nD hx hy (aV nx) (aV ny) hxy;have a2:=nD hy hz (aV ny) (aV nz) hyz;rw[h1]at a1;rw[h2]at a2;have a3:=Ku a2 a1;have a4:=nD hx hz (aV nx) (aV nz) hxz;rw[a3]at a4;cases q:tI x z with|true=>(rw[q]at a4;cases a4)|false=>rfl
def Pin(cs:wT)(ps:xL):Prop:=∀p∈ps,∃c∈cs,c.1=p.1
section
variable{cs:wT}{wy:Str}
theorem Pin.tail(h:Pin cs<|p::ps):Pin cs ps:=λq hq=>h q<|zf _ hq
theorem rn(hg:Gd cs)(h:Pin cs<|p::ps):∃k,∀ws,Wg cs ws->Vg k (ak cs ws p.1):=by obtain⟨c,hc,e⟩:=h p zj;rw[<-e];exact{c.2,λws hw=>(kC hg hw hc).2}
theorem tJ(hg:Gd cs):∀{ps:xL}{a b:Row},Pin cs ps->Wg cs a.2->Wg cs b.2->a.1≠b.1->bJ cs wy ps b a=!bJ cs wy ps a b|[],a,b,_,_,_,h=>by show(nU b.1 a.1==_)=!(nU a.1 b.1==_);rw[kE h,bxor]|p::ps,a,b,hp,ha,hb,h=>by obtain⟨k,hk⟩:=rn hg hp;have va:=hk _ ha;have vb:=hk _ hb;unfold bJ;by_cases e:ak cs a.2 p.1=ak cs b.2 p.1;rw[if_pos<|(aU vb.2 va.2).mpr e.symm,if_pos<|(aU va.2 vb.2).mpr e];exact tJ hg hp.tail ha hb h;rw[if_neg λq=>e ((aU vb.2 va.2).mp q).symm,if_neg λq=>e<|(aU va.2 vb.2).mp q];exact oW va vb e
theorem Kw(hg:Gd cs):∀{ps:xL}{a b c:Row},Pin cs ps->Wg cs a.2->Wg cs b.2->Wg cs c.2->a.1≠b.1->b.1≠c.1->a.1≠c.1->bJ cs wy ps a b=true->bJ cs wy ps b c=true->bJ cs wy ps a c=true|[],a,b,c,_,_,_,_,h1,h2,h3,q1,q2=>(by have q1:(nU a.1 b.1==decide (wy ="up"))=true:=q1;have q2:(nU b.1 c.1==decide (wy ="up"))=true:=q2;show(nU a.1 c.1==decide (wy ="up"))=true;cases e:decide (wy ="up") with|true=>rw[e]at q1 q2;rw[DP (b:=b.1) (by simpa using q1)<|by simpa using q2];rfl|false=>rw[e]at q1 q2;have q1:nU a.1 b.1=false:=(by simpa using q1);have q2:nU b.1 c.1=false:=(by simpa using q2);have a1:=kE h1;have a2:=kE h2;rw[q1]at a1;rw[q2]at a2;have a3:=DP a2 a1;have a4:=kE h3;rw[a3]at a4;cases q:nU a.1 c.1 with|true=>(rw[q]at a4;cases a4)|false=>rfl)|p::ps,a,b,c,hp,ha,hb,hc,h1,h2,h3,q1,q2=>by obtain⟨k,hk⟩:=rn hg hp;have va:=hk _ ha;have vb:=hk _ hb;have vc:=hk _ hc;unfold bJ at q1 q2⊢;by_cases e1:ak cs a.2 p.1=ak cs b.2 p.1;rw[if_pos<|(aU va.2 vb.2).mpr e1]at q1;by_cases e2:ak cs b.2 p.1=ak cs c.2 p.1;rw[if_pos<|(aU vb.2 vc.2).mpr e2]at q2;rw[if_pos<|(aU va.2 vc.2).mpr<|e1.trans e2];exact Kw hg hp.tail ha hb hc h1 h2 h3 q1 q2;rw[if_neg λq=>e2<|(aU vb.2 vc.2).mp q]at q2;rw[e1,if_neg λq=>e2<|(aU vb.2 vc.2).mp q];exact q2;rw[if_neg λq=>e1<|(aU va.2 vb.2).mp q]at q1;by_cases e2:ak cs b.2 p.1=ak cs c.2 p.1;rw[<-e2,if_neg λq=>e1<|(aU va.2 vb.2).mp q];exact q1;rw[if_neg λq=>e2<|(aU vb.2 vc.2).mp q]at q2;obtain⟨e3,q3⟩:=Fn va vb vc e1 e2 q1 q2;rw[if_neg λq=>e3<|(aU va.2 vc.2).mp q];exact q3
def Rg(cs:wT)(rs:At):Prop:=(∀r∈rs,Wg cs r.2)/\(rs.map Prod.fst).Nodup
theorem Rg.perm(h:Rg cs rs)(p:dF.Perm rs):Rg cs dF:={λr hr=>h.1 r<|p.mem_iff.mp hr,(p.map _).nodup_iff.mpr h.2}
theorem Rg.sub(h:Rg cs rs)(p:dF.Sublist rs):Rg cs dF:={λr hr=>h.1 r<|p.subset hr,h.2.sublist<|p.map _}
theorem NC(hg:Gd cs)(hp:Pin cs ps)(hr:Rg cs m)(hl:l.Pairwise λa b=>bJ cs wy ps a b=true)(hm:m.Pairwise λa b=>bJ cs wy ps a b=true)(pm:l.Perm m):l=m:=by refine List.Perm.eq_of_pairwise (le:=λa b=>bJ cs wy ps a b=true) (λa b ha hb h1 h2=>?_) hl hm pm;have ha:=pm.mem_iff.mp ha;by_cases e:a.1=b.1;exact gH (f:=Prod.fst) hr.2 ha hb e;have:=tJ (wy:=wy) hg hp (hr.1 a ha) (hr.1 b hb) e;rw[h1,h2]at this;cases this
end
theorem DQ{l m:wS}(hl:l.Nodup)(hm:m.Nodup)(h:∀x,x∈l↔x∈m):l.Perm m:=by induction l generalizing m with|nil=>(cases m with|nil=>exact .nil|cons y m=>exact absurd ((h y).mpr zj)<|by simp)|cons x l ih=>obtain⟨n1,n2⟩:=ym.mp hl;have hx:=(h x).mp zj;refine .trans ((ih n2 (hm.erase x) λy=>?_).cons x) (List.perm_cons_erase hx).symm;rw[hm.mem_erase_iff];constructor;intro hy;exact{λe=>n1<|e ▸ hy,(h y).mp<|zf _ hy};rintro⟨h1,h2⟩;rcases zk.mp ((h y).mpr h2) with e|e;exact absurd e h1;exact e
theorem map_range(d:α)(xs:List α):(List.range xs.length).map (λk=>xs.getD k d)=xs:=by refine List.ext_getElem (by simp) λi h1 h2=>?_;simp[ze h2]
theorem Hu{α:Type}(d:α){xs:List α}{g:Nat->Nat}(lt:∀k,k<xs.length->g k<xs.length)(inj:∀i j,i<xs.length->j<xs.length->g i=g j->i=j):((List.range xs.length).map λk=>xs.getD (g k) d).Perm xs:=by
 have nd:((List.range xs.length).map g).Nodup:=by refine List.pairwise_map.mpr<|List.nodup_range.imp_of_mem λ{a b} ha hb n e=>n<|inj a b (zT.mp ha) (zT.mp hb) e
 have sub:∀x∈(List.range xs.length).map g,x∈List.range xs.length:=λx hx=>by obtain⟨k,hk,rfl⟩:=zh.mp hx;exact zT.mpr<|lt k<|zT.mp hk
 have p:((List.range xs.length).map g).Perm (List.range xs.length):=DQ nd List.nodup_range λx=>by refine{sub x,λhx=>?_};by_cases h:x∈(List.range xs.length).map g;exact h;exfalso;have:=sub_len nd (m:=(List.range xs.length).erase x) λy hy=>(List.Nodup.mem_erase_iff List.nodup_range).mpr {λe=>h<|e ▸ hy,sub y hy};rw[zb,List.length_erase_of_mem hx,List.length_range]at this;have:=zT.mp hx;lia
 have e:((List.range xs.length).map λk=>xs.getD (g k) d)=((List.range xs.length).map g).map λk=>xs.getD k d:=by rw[zt];rfl
 rw[e];have:=p.map λk=>xs.getD k d;rw[map_range]at this;exact this
theorem Hv{α:Type}(d:α){xs:List α}{g:Nat->Nat}{r:α->α->Prop}(h:∀i j,i<j->j<xs.length->r (xs.getD (g i) d) (xs.getD (g j) d)):((List.range xs.length).map λk=>xs.getD (g k) d).Pairwise r:=by rw[List.pairwise_map,List.pairwise_iff_getElem];intro i j hi hj jt;rw[List.length_range]at hj;rw[List.getElem_range,List.getElem_range];exact h i j jt hj
noncomputable def r0:Row:=("",[])
theorem getD_map{rs:At}{j:Nat}(h:j<rs.length):(rs.map ah).getD j .av=ah (rs.getD j r0):=by rw[zB,zB,zi,ze h];rfl
theorem getD_mem{rs:At}{j:Nat}(h:j<rs.length):rs.getD j r0∈rs:=by rw[zB,ze h];exact List.getElem_mem h
theorem nE{rs:At}{b:Bool}{f:D->D}{g:Nat->Nat}(h:RB b (λj=>f<|(rs.map ah).getD j .av) (rs.map ah).length g): ∃dF:At,(List.range (rs.map ah).length).map (λk=>(rs.map ah).getD (g k) .av)=dF.map ah/\dF.Perm rs/\∀q r:Row->Row->Prop,rs.Pairwise q->(∀x y,x∈rs->y∈rs->(if b=true then Wu (f<|ah y) (f<|ah x) else Wu (f<|ah x) (f<|ah y))->r x y)->(∀x y,x∈rs->y∈rs->f (ah x)=f (ah y)->q x y->r x y)->dF.Pairwise r:=by have hn:(rs.map ah).length=rs.length:=zb _;rw[hn]at h⊢;refine{(List.range rs.length).map λk=>rs.getD (g k) r0,?_,Hu r0 h.lt h.inj,λq r hq h1 h2=>Hv r0 λi j jt hj=>?_};rw[zt];exact zY λk hk=>getD_map<|h.lt k<|zT.mp hk;have gi:=h.lt i<|Nat.lt_trans jt hj;have gj:=h.lt j hj;have o:=h.ord i j jt hj;rw[getD_map gi,getD_map gj]at o;rcases o with o|⟨o,l⟩;exact h1 _ _ (getD_mem gi) (getD_mem gj) o;refine h2 _ _ (getD_mem gi) (getD_mem gj) o ?_;have:=List.pairwise_iff_getElem.mp hq (g i) (g j) gi gj l;rw[zB,zB,ze gi,ze gj];exact this
section
variable{cs:wT}{wy:Str}
noncomputable def valued(cs:wT)(p:Part)(r:Row):Bool:=!ag (ak cs r.2 p.1)
theorem ND(h1:ag x=true)(h2:ag y=true):l_ x y=true:=by rw[df h1,df h2];rfl
theorem xG(h:ag x≠ag y):l_ x y=false:=by unfold l_;split<;>first|rfl|exact absurd rfl h
theorem Hw{ps:xL}{p:Part}{L V:At}(hL:L.Pairwise λa b=>bJ cs wy ps a b=true)(hV:V.Perm<|L.filter<|valued cs p)(Yy:V.Pairwise λa b=>bJ cs wy (p::ps) a b=true): (if p.2.2 ="first" then L.filter (λr=>!valued cs p r)++V else V++L.filter (λr=>!valued cs p r)).Perm L/\(if p.2.2 ="first" then L.filter (λr=>!valued cs p r)++V else V++L.filter (λr=>!valued cs p r)).Pairwise λa b=>bJ cs wy (p::ps) a b=true:=by
 have hN:(L.filter λr=>!valued cs p r).Pairwise λa b=>bJ cs wy (p::ps) a b=true:=by refine(hL.sublist yy).imp_of_mem λ{a b} ha hb h=>?_;have ha:=(yF.mp ha).2;have hb:=(yF.mp hb).2;unfold valued at ha hb;rw[Bool.not_not]at ha hb;show(if l_ (ak cs a.2 p.1) (ak cs b.2 p.1)=true then bJ cs wy ps a b else _)=true;rw[if_pos<|ND ha hb];exact h
 have Pm:∀a∈L.filter (λr=>!valued cs p r),∀b∈V,ag (ak cs a.2 p.1)=true/\ag (ak cs b.2 p.1)=false:=λa ha b hb=>by have ha:=(yF.mp ha).2;have hb:=(yF.mp<|hV.mem_iff.mp hb).2;unfold valued at ha hb;rw[Bool.not_not]at ha;exact{ha,by simpa using hb}
 have pm:(L.filter (λr=>!valued cs p r)++V).Perm L:=(List.Perm.append_left _ hV).trans<|List.perm_append_comm.trans<|List.filter_append_perm (valued cs p) L;by_cases e:p.2.2 ="first";rw[if_pos e];refine{pm,List.pairwise_append.mpr {hN,Yy,λa ha b hb=>?_}};obtain⟨na,nb⟩:=Pm a ha b hb;show(if l_ (ak cs a.2 p.1) (ak cs b.2 p.1)=true then bJ cs wy ps a b else cz p (ak cs a.2 p.1) (ak cs b.2 p.1))=true;rw[xG<|by rw[na,nb];nofun,if_neg zd];unfold cz;rw[na,nb,if_pos<|by rfl,zu e];rfl;rw[if_neg e];refine{List.perm_append_comm.trans pm,List.pairwise_append.mpr {Yy,hN,λa ha b hb=>?_}};obtain⟨na,nb⟩:=Pm b hb a ha;show(if l_ (ak cs a.2 p.1) (ak cs b.2 p.1)=true then bJ cs wy ps a b else cz p (ak cs a.2 p.1) (ak cs b.2 p.1))=true;rw[xG<|by rw[na,nb];nofun,if_neg zd];unfold cz;rw[na,nb,if_pos<|by rfl,zA e];rfl
theorem Be(hg:Gd cs)(hp:Pin cs ps):∀{F:At},Rg cs (x::F)->(F.Pairwise λa b=>bJ cs wy ps a b=true)->(F.take (F.filter λy=>bJ cs wy ps y x).length++x::F.drop (F.filter λy=>bJ cs wy ps y x).length).Pairwise λa b=>bJ cs wy ps a b=true|[],_,_=>by simp|y::F,hr,h=>by obtain⟨h1,h2⟩:=List.pairwise_cons.mp h;have nd:=hr.2;rw[zx,zx]at nd;obtain⟨n1,n2⟩:=ym.mp nd;obtain⟨n3,n4⟩:=ym.mp n2;have nxy:y.1≠x.1:=λe=>n1 (by rw[<-e];exact zj);have wx:=hr.1 x zj;have wy':=hr.1 y<|zf _ zj;cases e:bJ cs wy ps y x with|true=>(rw[yN,if_pos e,zQ,List.take_succ_cons,List.drop_succ_cons,List.cons_append,List.pairwise_cons];have jg:Rg cs (x::F):=hr.sub<|(List.sublist_cons_self y F).cons₂ x;refine{λz hz=>?_,Be hg hp jg h2};rcases zP.mp hz with hz|hz;exact h1 z<|List.mem_of_mem_take hz;rcases zk.mp hz with rfl|hz;exact e;exact h1 z<|List.mem_of_mem_drop hz)|false=>have none:∀z∈y::F,bJ cs wy ps z x=false:=λz hz=>(by rcases zk.mp hz with rfl|hz;exact e;cases q:bJ cs wy ps z x with|false=>rfl|true=>have nyz:y.1≠z.1:=λe=>n3 (by rw[e];exact zh.mpr ⟨z,hz,rfl⟩);have nzx:z.1≠x.1:=λe=>n1 (by rw[<-e];exact zf _<|zh.mpr ⟨z,hz,rfl⟩);have wz:=hr.1 z<|zf _<|zf _ hz;rw[Kw hg hp wy' wz wx nyz nzx nxy (h1 z hz) q]at e;cases e);have e0:(y::F).filter (λy=>bJ cs wy ps y x)=[]:=List.filter_eq_nil_iff.mpr λz hz=>(by rw[none z hz];exact zd);rw[e0];show(x::y::F).Pairwise _;refine List.pairwise_cons.mpr {λz hz=>?_,h};have nzx:z.1≠x.1:=λe=>n1 (by rw[<-e];exact zh.mpr ⟨z,hz,rfl⟩);rw[tJ hg hp (hr.1 z<|zf _ hz) wx nzx,none z hz];rfl
theorem Kx(x:α)(F:List α)(m:Nat):(F.take m++x::F.drop m).Perm (F++[x]):=by refine(List.perm_middle).trans<|List.Perm.trans ?_ List.perm_append_comm;rw[List.take_append_drop];exact .refl _
end
noncomputable abbrev qK:Str:="sorted_by_keys.<locals>.<lambda>"
noncomputable abbrev qV:Str:="sorted_by_values.<locals>.<lambda>"
noncomputable def Si:D->D|.tup (x::_)=>x|_=>.av
noncomputable def DR(cs:wT)(z:Str):D->D|.tup [_,.tup ws]=>ak cs ws z|_=>.av
inductive Ky(t:eZ)(ds:wp)(S:ao)(R:KD)(Z:KX):Prop where
 |mk (cs:wT)(l:Addr)(rs:At)(wy:Str)(h0:ds=[.ref l,.str wy])(h1:oU wy=true)(h2:S l=some (.lst<|rs.map ah))(h3:rs.length<64)(h4:Rg cs rs)(h5:S t.aS=some (.tab qK))(h6:∀(dF:At)(p:Addr),dF.Perm rs->(dF.Pairwise λa b=>bJ cs wy [] a b=true)->S p=none->R (.ref p) (S.set p<|.lst<|dF.map ah))
theorem cD{S S2:ao}{p:Addr}{c:Ce}(h:Sub S S2):Sub (S.set p c) (S2.set p c):=λb e hb=>by by_cases q:b=p;subst q;rw[aa]at hb⊢;exact hb;rw[ae q]at hb⊢;exact h b e hb
theorem bX{S S2:ao}{p:Addr}(h:Sub S S2)(e:S2 p=none):S p=none:=by cases q:S p with|none=>rfl|some c=>rw[h p c q]at e;cases e
theorem xH{z:Str}(h:oU z=true):z ="up"\/z ="down":=by unfold oU at h;simpa using h
theorem Rg.unlike(h:Rg cs rs):rs.Pairwise λa b=>a.1≠b.1:=List.pairwise_map.mp h.2
theorem nF(B:Bm mg base):Ok P w base T.fP 4 (Ky t):=by
 refine T.fP.F.okC (k:=3) m9 (by rintro ds S R Z ⟨_,_,_,_,e,_⟩;rw[e];rfl) ?_;rintro gy A outer s H E ds S R Z tZ hr ⟨cs,l,rs,wy,e,LL,hl,hn,jg,ht,q⟩;subst e;have BP:AD ((rs.map ah).map Si):=.inl {rs.map Prod.fst,by rw[zt,zt];rfl};have un:rs.Pairwise λa b=>a.1≠b.1:=jg.unlike;have Oc:(rs.map ah).length<64:=by rw[zb];exact hn
 refine{_,(sc (si (a_ aR hr.u (dv 1) ds) (s1<|sr<|O3 (N:=["row"]) (src:=[none]) (tZ.trans T.gE) ⟨T.dP,B⟩ hr (Vk (ai g_) ["rows","way"] rfl rfl<|by trivial) (dv 0) (λ_ _ _ _=>(ix (hr.in1.in1.deeper _).units (dv 0) di)) T.fQ d_) s0)<|s1<|sr<|Wx (N:=["row"]) (src:=[none]) (tZ.trans T.gE) ⟨T.dP,B⟩ hr (Vk (ai g_) ["rows","way"] rfl rfl<|by trivial) (dv 0) (λ_ _ _ _=>(ix (hr.in1.in1.deeper _).units (dv 0) di)) T.fQ d_),?_};rcases xH LL with rfl|rfl;refine !!⟨cu !{l,rs.map ah,Si,rfl,hl,Oc,ht,BP,λx hx S' hs Qk hQ=>?_,λg S2 p hg hs hp=>?_}⟩;obtain⟨r,hr,rfl⟩:=zh.mp hx;exact !!⟨hQ S'<|.refl _⟩;obtain⟨dF,e,pm,h⟩:=nE hg;rw[e];refine{S.set p<|.lst<|dF.map ah,cD hs,q dF p pm (h _ _ un (λx y hx hy dY=>?_) λx y hx hy e ne=>absurd (D.str.inj e) ne)<|bX hs hp};show(nU x.1 y.1==decide (("up": Str) ="up"))=true;have:nU x.1 y.1=true:=zu dY;rw[this];rfl;refine !!⟨k7 !{l,rs.map ah,Si,rfl,hl,Oc,ht,BP,λx hx S' hs Qk hQ=>?_,λg S2 p hg hs hp=>?_}⟩;obtain⟨r,hr,rfl⟩:=zh.mp hx;exact !!⟨hQ S'<|.refl _⟩;obtain⟨dF,e,pm,h⟩:=nE hg;rw[e];refine{S.set p<|.lst<|dF.map ah,cD hs,q dF p pm (h _ _ un (λx y hx hy dY=>?_) λx y hx hy e ne=>absurd (D.str.inj e) ne)<|bX hs hp};show(nU x.1 y.1==decide (("down": Str) ="up"))=true;have:nU y.1 x.1=true:=zu dY;by_cases e:x.1=y.1;rw[e,Fm]at this;cases this;rw[kE e]at this;have h2:nU x.1 y.1=false:=by simpa using this
 rw[h2,zA<|by trivial];rfl
inductive Kz(t:eZ)(ds:wp)(S:ao)(R:KD)(Z:KX):Prop where
 |mk (cs:wT)(ps:xL)(p:Part)(wy:Str)(l:Addr)(rs:At)(h0:ds=[.tup<|cs.map aB,p3 p,.ref l])(h1:Gd cs)(h2:Pin cs<|p::ps)(h3:oU p.2.1=true)(h4:S l=some (.lst<|rs.map ah))(h5:rs.length<64)(h6:Rg cs rs)(h7:(∀r∈rs,valued cs p r=true))(h8:(rs.Pairwise λa b=>bJ cs wy ps a b=true))(h9:S t.aK=some (.tab qV))(h10:∀(dF:At)(a:Addr),dF.Perm rs->(dF.Pairwise λa b=>bJ cs wy (p::ps) a b=true)->S a=none->R (.ref a) (S.set a<|.lst<|dF.map ah))
theorem DU{α:Type}{f:α->D}{β:Type}{mk:β->D} : ∀{l:List α},(∀x∈l,∃b,f x=mk b)->∃bs:List β,l.map f=bs.map mk|[],_=>{[],rfl}|x::l,h=>by obtain⟨b,e⟩:=h x zj;obtain⟨bs,e2⟩:=DU λy hy=>h y<|zf _ hy;exact{b::bs,by rw[zx,e,e2];rfl}
theorem Hx{cs:wT}{p:Part}{k:Str}{rs:At}(hk:∀r∈rs,Vg k<|ak cs r.2 p.1)(hv:∀r∈rs,valued cs p r=true):AD ((rs.map ah).map<|DR cs p.1):=by
 rw[zt];have nn:∀r∈rs,ak cs r.2 p.1≠.av:=λr hr=>aV (by have:=hv r hr;unfold valued at this;simpa using this);by_cases e:k ="number";refine .inr<|DU λr hr=>?_;have h1:=hk r hr;have h2:=nn r hr;show ∃b,ak cs r.2 p.1=.int b;generalize ak cs r.2 p.1=v at h1 h2;cases v with|av=>exact absurd rfl h2|int i=>exact⟨i,rfl⟩|str z=>(have h1:=h1.1;unfold iT at h1;simp only[ag,Bool.false_or]at h1;rw[if_pos e]at h1;cases h1)|_=>cases h1.2
 refine .inl<|DU λr hr=>?_;have h1:=hk r hr;have h2:=nn r hr;show ∃b,ak cs r.2 p.1=.str b;generalize ak cs r.2 p.1=v at h1 h2;cases v with|av=>exact absurd rfl h2|str i=>exact⟨i,rfl⟩|int z=>(have h1:=h1.1;unfold iT at h1;simp only[ag,Bool.false_or]at h1;rw[if_neg e]at h1;cases h1)|_=>cases h1.2
theorem KA{cs:wT}{wy:Str}{ps:xL}{p:Part}{x y:Row}(nx:valued cs p x=true)(ny:valued cs p y=true)(ne:l_ (ak cs x.2 p.1) (ak cs y.2 p.1)=false)(h:(tI (ak cs x.2 p.1) (ak cs y.2 p.1)==decide (p.2.1 ="up"))=true):bJ cs wy (p::ps) x y=true:=by
 unfold valued at nx ny;have nx:ag (ak cs x.2 p.1)=false:=by simpa using nx
 have ny:ag (ak cs y.2 p.1)=false:=by simpa using ny
 show(if l_ (ak cs x.2 p.1) (ak cs y.2 p.1)=true then bJ cs wy ps x y else cz p (ak cs x.2 p.1) (ak cs y.2 p.1))=true;rw[ne,if_neg zd];unfold cz;rw[nx,ny,if_neg<|by simp];exact h
theorem KC{x y:D}(h:tI x y=true):l_ x y=false:=by rcases Sh h with⟨i,j,rfl,rfl,h1⟩|⟨i,j,rfl,rfl,h1⟩<;>exact zA λe=>by rw[e,NB]at h;cases h
theorem KG(x y:D):l_ x y=l_ y x:=by cases x<;>cases y<;>first|rfl|exact yO.mpr ⟨Eq.symm,Eq.symm⟩
theorem kR(B:Bm mg base):Ok P w base T.ee 6 (Kz t):=by
 refine T.ee.F.okC (k:=5) kO (by rintro ds S R Z ⟨_,_,_,_,_,_,e,_⟩;rw[e];rfl) ?_;rintro gy A outer s H E ds S R Z tZ hr ⟨cs,ps,p,wy,l,rs,e,hg,KH,LL,hl,hn,jg,hv,W4,ht,q⟩;subst e;obtain⟨c,hc,ec⟩:=KH p zj;obtain⟨k,hk⟩:=rn hg KH;have BP:AD ((rs.map ah).map<|DR cs p.1):=Hx (λr hr=>hk _<|jg.1 r hr) hv;have Oc:(rs.map ah).length<64:=by rw[zb];exact hn
 have same:∀x y:Row,x∈rs->y∈rs->DR cs p.1 (ah x)=DR cs p.1 (ah y)->bJ cs wy ps x y=true->bJ cs wy (p::ps) x y=true:=λx y hx hy e h=>by show(if l_ (ak cs x.2 p.1) (ak cs y.2 p.1)=true then bJ cs wy ps x y else _)=true;rw[if_pos<|(aU (hk _<|jg.1 x hx).2 (hk _<|jg.1 y hy).2).mpr e];exact h
 have step:∀x,x∈rs.map ah->∀Qk:KD,∀S':ao,Qk (DR cs p.1 x) S'->∀Zq,mh [D.tup<|cs.map aB,x,.str p.1] S' Qk Zq:=λx hx Qk S' hQ _=>by obtain⟨r,hr,rfl⟩:=zh.mp hx;exact{cs,r,c,by rw[ec],hg,jg.1 r hr,hc,by rw[ec];exact hQ}
 refine{_,(sc (si (a_ aR hr.u (ix hr.u (dv 1) di) ds) (s1<|sr<|O3 (N:=["row","columns","part"]) (src:=[none,some 0,some 1]) (tZ.trans T.fj) ⟨T.c_,B⟩ hr (Vk (ai fM) ["columns","part","rows"] rfl rfl<|by trivial) (dv 2) (λ_ _ _ _=>(cf ((dI T).mono<|by decide) (hr.in1.in1.deeper _) T.cy.m T.cy.k T.cy.b d0<|ap 1<|ap 0<|ac (ix (hr.in1.in1.deeper _).units (dv 2) di) an)) T.fQ d_) s0)<|s1<|sr<|Wx (N:=["row","columns","part"]) (src:=[none,some 0,some 1]) (tZ.trans T.fj) ⟨T.c_,B⟩ hr (Vk (ai fM) ["columns","part","rows"] rfl rfl<|by trivial) (dv 2) (λ_ _ _ _=>(cf ((dI T).mono<|by decide) (hr.in1.in1.deeper _) T.cy.m T.cy.k T.cy.b d0<|ap 1<|ap 0<|ac (ix (hr.in1.in1.deeper _).units (dv 2) di) an)) T.fQ d_),?_};rcases xH LL with e1|e1;refine !!!⟨kQ (by rw[e1];decide +kernel) !{l,rs.map ah,DR cs p.1,rfl,hl,Oc,ht,BP,λx hx S' hs Qk hQ=>!!!!⟨step x hx _ S' (hQ S'<|.refl _) _⟩,λg S2 a hg hs ha=>?_}⟩;obtain⟨dF,e,pm,h⟩:=nE hg;rw[e];refine{S.set a<|.lst<|dF.map ah,cD hs,q dF a pm (h _ _ W4 (λx y hx hy dY=>?_) same)<|bX hs ha};have dY:=Kv (a:=ak cs x.2 p.1) (b:=ak cs y.2 p.1) dY;exact KA (hv x hx) (hv y hy) (KC dY) (by rw[dY,zu e1];rfl);refine !!!⟨Yw (by rw[e1];decide +kernel) !{l,rs.map ah,DR cs p.1,rfl,hl,Oc,ht,BP,λx hx S' hs Qk hQ=>!!!!⟨step x hx _ S' (hQ S'<|.refl _) _⟩,λg S2 a hg' hs ha=>?_}⟩;obtain⟨dF,e,pm,h⟩:=nE hg';rw[e];refine{S.set a<|.lst<|dF.map ah,cD hs,q dF a pm (h _ _ W4 (λx y hx hy dY=>?_) same)<|bX hs ha};have dY:=Kv (a:=ak cs y.2 p.1) (b:=ak cs x.2 p.1) dY;have ne:=KC dY;refine KA (hv x hx) (hv y hy) (by rw[KG];exact ne) ?_;have nn:∀r∈rs,ak cs r.2 p.1≠.av:=λr hr=>aV (by have:=hv r hr;unfold valued at this;simpa using this);have pU:ak cs x.2 p.1≠ak cs y.2 p.1:=λe=>by have:=(aU (hk _<|jg.1 y hy).2 (hk _<|jg.1 x hx).2).mpr e.symm;rw[ne]at this;cases this
 have:=nD (hk _<|jg.1 x hx) (hk _<|jg.1 y hy) (nn x hx) (nn y hy) pU;rw[dY]at this;have h2:tI (ak cs x.2 p.1) (ak cs y.2 p.1)=false:=by simpa using this
 rw[h2,e1,zA<|by trivial];rfl
def Tb(t:eZ)(S:ao):Prop:=S t.aS=some (.tab qK)/\S t.aK=some (.tab qV)
theorem Tb.sub{t:eZ}{S S':ao}(h:Tb t S)(s:Sub S S'):Tb t S':={s _ _ h.1,s _ _ h.2}
noncomputable def Fp(b:Bool)(cs:wT)(p:Part):D->Bool|.tup [_,.tup ws]=>ag (ak cs ws p.1)==b|_=>false
theorem oX{rs:At}{f:D->Bool}{g:Row->Bool}(h:∀r,f (ah r)=g r):((rs.map ah).filter f).map id=(rs.filter g).map ah:=by rw[List.map_id,List.filter_map];exact congrArg (List.map ah)<|List.filter_congr λr _=>h r
inductive KJ(t:eZ)(ds:wp)(S:ao)(R:KD)(Z:KX):Prop where
 |mk (cs:wT)(ps:xL)(p:Part)(wy:Str)(l:Addr)(rs:At)(h0:ds=[.tup<|cs.map aB,p3 p,.ref l])(h1:Gd cs)(h2:Pin cs<|p::ps)(h3:oU p.2.1=true)(h4:S l=some (.lst<|rs.map ah))(h5:rs.length<64)(h6:Rg cs rs)(h7:(rs.Pairwise λa b=>bJ cs wy ps a b=true))(h8:Tb t S)(h9:∀(dF:At)(a:Addr),dF.Perm rs->(dF.Pairwise λa b=>bJ cs wy (p::ps) a b=true)->S a=none->R (.ref a) (S.set a<|.lst<|dF.map ah))
theorem nG(B:Bm mg base):Ok P w base T.fS 7 (KJ t):=by
 obtain⟨cs,ps,p,wy,l,rs,e,hg,KH,LL,hl,hn,jg,W4,ht,q⟩:T.fS.F.bF cC;obtain⟨c,hc,ec⟩:=KH p zj;have hz:(rs.map ah).length<=1000:=by rw[zb];lia
 refine{_,(sc (AI (N:=["row","columns","part"]) (src:=[none,some 0,some 1]) 3 cC.nd (km hG) (il<|dv 2) (if1<|bn fm (aP T.cy (dI T) hr<|ap 1<|ap 0<|ac (bv (dv 2) di) an) dn)<|dv 0)<|sc (AI (N:=["row","columns","part"]) (src:=[none,some 0,some 1]) 4 cC.nd (km hG) (il<|dv 2) (if1<|bn lQ (aP T.cy (dI T) hr<|ap 1<|ap 0<|ac (bv (dv 2) di) an) dn)<|dv 0)<|sc (bP (i:=4) cC.nd<|aP T.ee (kR T B) hr<|ap 0<|ap 1<|ap 4 an)<|s1<|sr<|Q8 (bn aR (bv (dv 1) di) ds) (be bz (dv 3)<|dv 4)<|be bz (dv 4)<|dv 3),?_};refine !{_,hl,?_};refine fF (Fp true cs p) id hl hz (λd hd Q Q' hQ Kf=>?_) λp1 my=>?_;obtain⟨r,hr,rfl⟩:=zh.mp hd;refine !!!!{cs,r,c,(show[D.tup<|cs.map aB,ah r,D.str p.1]=[_,_,D.str c.1] by rw[ec]),hg,jg.1 r hr,hc,?_};rw[ec];refine{_,rfl,bS (λh=>!⟨hQ ?_⟩) λh=>Kf ?_};show(ag (ak cs r.2 p.1)==true)=true;rw[show ag (ak cs r.2 p.1)=true from h];rfl;show(ag (ak cs r.2 p.1)==true)=false;rw[show ag (ak cs r.2 p.1)=false from h];rfl;have e1:((rs.map ah).filter<|Fp true cs p).map id=(rs.filter λr=>!valued cs p r).map ah:=oX λr=>by show(ag (ak cs r.2 p.1)==true)=!valued cs p r;unfold valued;cases ag (ak cs r.2 p.1)<;>rfl
 rw[show({rs.map ah,λS=>rX S (.ref l)<|rs.map ah}:nV).xs=rs.map ah from rfl,e1];have Sj:Sub S (S.set p1<|.lst<|(rs.filter λr=>!valued cs p r).map ah):=.new my;have h1:(S.set p1<|.lst<|(rs.filter λr=>!valued cs p r).map ah) p1=some (.lst<|(rs.filter λr=>!valued cs p r).map ah):=aa;generalize S.set p1 (.lst<|(rs.filter λr=>!valued cs p r).map ah)=S1 at Sj h1⊢;have Ig:=Sj _ _ hl;refine !{_,Ig,?_};refine fF (Fp false cs p) id Ig hz (λd hd Q Q' hQ Kf=>?_) λp2 iu=>?_;obtain⟨r,hr,rfl⟩:=zh.mp hd;refine !!!!{cs,r,c,(show[D.tup<|cs.map aB,ah r,D.str p.1]=[_,_,D.str c.1] by rw[ec]),hg,jg.1 r hr,hc,?_};rw[ec];refine{_,rfl,bS (λh=>!⟨hQ ?_⟩) λh=>Kf ?_};show(ag (ak cs r.2 p.1)==false)=true;rw[show ag (ak cs r.2 p.1)=false from nt h];rfl;show(ag (ak cs r.2 p.1)==false)=false;rw[show ag (ak cs r.2 p.1)=true from nf h];rfl;have e2:((rs.map ah).filter<|Fp false cs p).map id=(rs.filter<|valued cs p).map ah:=oX λr=>by show(ag (ak cs r.2 p.1)==false)=valued cs p r;unfold valued;cases ag (ak cs r.2 p.1)<;>rfl
 rw[show({rs.map ah,λS=>rX S (.ref l)<|rs.map ah}:nV).xs=rs.map ah from rfl,e2];have LD:Sub S (S1.set p2<|.lst<|(rs.filter<|valued cs p).map ah):=Sj.trans<|.new iu;have h21:(S1.set p2<|.lst<|(rs.filter<|valued cs p).map ah) p1=_:=(ae<|gA h1 iu).trans h1;have h22:(S1.set p2<|.lst<|(rs.filter<|valued cs p).map ah) p2=_:=aa;generalize S1.set p2 (.lst<|(rs.filter<|valued cs p).map ah)=S2 at LD h21 h22⊢;have fl:(rs.filter<|valued cs p).length<=rs.length:=List.length_filter_le _ _;have fl2:(rs.filter λr=>!valued cs p r).length<=rs.length:=List.length_filter_le _ _;refine !!!{cs,ps,p,wy,p2,rs.filter<|valued cs p,rfl,hg,KH,LL,h22,by lia,jg.sub yy,λr hr=>(yF.mp hr).2,W4.sublist yy,(ht.sub LD).2,λV p3 hV Yy Pf=>?_};obtain⟨pm,pw⟩:=Hw W4 hV Yy;have h31:(S2.set p3<|.lst<|V.map ah) p1=_:=(ae<|gA h21 Pf).trans h21;have h33:(S2.set p3<|.lst<|V.map ah) p3=some (.lst<|V.map ah):=aa;have W5:Sub S (S2.set p3<|.lst<|V.map ah):=LD.trans<|.new Pf;generalize S2.set p3 (.lst<|V.map ah)=S3 at h31 h33 W5⊢;have hVl:=hV.length_eq;refine !!!⟨bS (λh=>?_) λh=>?_⟩;rw[if_pos<|zG h]at pm pw;refine !!{_,_,h31,h33,sm<|by rw[zb,zb];lia,λp4 hp4=>?_};rw[<-zC];exact{_,cD W5,q _ p4 pm pw<|bX W5 hp4};rw[if_neg<|zV h]at pm pw;refine !!{_,_,h33,h31,sm<|by rw[zb,zb];lia,λp4 hp4=>?_};rw[<-zC];exact{_,cD W5,q _ p4 pm pw<|bX W5 hp4}
structure Og(cs:wT)(ps:xL)(wy:Str):Prop where
 pin:Pin cs ps
 abE:∀p∈ps,oU p.2.1=true
 way:oU wy=true
 ok:DK cs ps wy=true
 tx:∀p∈ps,Pok p
noncomputable def cN(ps:xL)(wy:Str):D:=.tup [.tup<|ps.map p3,.str wy]
inductive Ew(S:ao)(cs:wT)(ps:xL)(wy:Str)(l:Addr)(rs:At)(qs:xL)(aA:SD)(S':ao):Prop where
 |mk (o:wP)(p:Addr)(dF:At)(h0:aA=[some<|.tup<|cs.map aB,some<|cN ps wy,some<|.ref l,some<|.ref p,o])(h1:S p=none)(h2:S' p=some (.lst<|dF.map ah))(h3:Sub S S')(h4:dF.Perm rs)(h5:dF.Pairwise λa b=>bJ cs wy qs a b=true):Ew S cs ps wy l rs qs aA S'
inductive Pn(t:eZ)(ds:wp)(S:ao)(R:KD)(Z:KX):Prop where
 |mk (cs:wT)(ps:xL)(wy:Str)(l:Addr)(rs:At)(h0:ds=[.tup<|cs.map aB,cN ps wy,.ref l])(h1:Gd cs)(h2:Og cs ps wy)(h3:S l=some (.lst<|rs.map ah))(h4:rs.length<64)(h5:Rg cs rs)(h6:Tb t S)(h7:∀(dF:At)(a:Addr),dF.Perm rs->(dF.Pairwise λa b=>bJ cs wy ps a b=true)->S a=none->R (.ref a) (S.set a<|.lst<|dF.map ah))
structure Vw(C:Addr)(S:ao)(a:Addr)(cs:wT)(m:D)(rows:At):Prop where
 sh:∃F dl rs,bZ C S a F cs dl rs/\rs.length<64/\uK dl.length m≠none/\∀i ss,uK dl.length m=some i->ss.Perm (rs.map (·.1))->PyProof.Rows.sortedS ss=true->l9 rs i ss=rows.map ah
 mo:Gt S m
 len:rows.length<64
 rg:Rg cs rows
theorem bZ.sub(b:Sub S S')(h:bZ C S a F cs dl rs):bZ C S' a F cs dl rs:=by obtain⟨ld,lr,ra,h,e⟩:=h;exact{ld,lr,ra,{b _ _ h.ins,b _ _ h.A2,b _ _ h.run,λr hr=>b _ _<|h.cell r hr,h.kn,h.an,h.sz},e}
theorem Bf(B:Bm mg base):Ok P w base T.sO 8 (Pn t):=by
 obtain⟨cs,ps,wy,l,rs,e,hg,ho,hl,hn,jg,ht,q⟩:T.sO.F.bF gG;refine{_,(sc (bP (i:=3) gG.nd<|aP T.fP (nF T B) hr<|ap 2<|ac (bv (dv 1) di) an)<|sc (qX<|GR (irt T.sL<|ac (bv (dv 1) di) an) (gn (i:=4) gG.nd)<|s1<|bP (i:=3) gG.nd<|aP T.fS (nG T B) hr<|ap 0<|ap 4<|ap 3 an)<|s1<|sr<|dv 3),?_};refine !!!{cs,l,rs,wy,rfl,ho.way,hl,hn,jg,ht.1,λrs1 p1 pm1 pw1 my=>?_};have hrl:ps.reverse.length=ps.length:=yp;refine{Ew S cs ps wy l rs ps,?_,?_};refine !!!⟨?_⟩;refine{λi=>Ew S cs ps wy l rs (ps.reverse.take i).reverse,{none,p1,rs1,rfl,my,aa,.new my,pm1,pw1},λ_ _ _ _=>trivial,?_,?_};rintro i d aA S' hd ⟨o,p,dF,rfl,hp,dG,sb,pm,pw⟩;have hd:(ps.map p3).reverse[i]?=some d:=hd;rw[<-List.map_reverse,zi]at hd;cases e5:ps.reverse[i]? with|none=>(rw[e5]at hd;cases hd)|some pt=>rw[e5]at hd;cases hd;have Q0:pt∈ps:=List.mem_reverse.mp<|zy e5;have et:(ps.reverse.take<|i+1).reverse=pt::(ps.reverse.take i).reverse:=(by rw[List.take_add_one,e5,List.reverse_append];rfl);have Tw:Pin cs (pt::(ps.reverse.take i).reverse):=λx hx=>(by rcases zk.mp hx with rfl|hx;exact ho.pin _ Q0;exact ho.pin _<|List.mem_reverse.mp<|List.mem_of_mem_take<|List.mem_reverse.mp hx);refine !!!{cs,(ps.reverse.take i).reverse,pt,wy,p,dF,rfl,hg,Tw,ho.abE pt Q0,dG,by rw[pm.length_eq];exact hn,jg.perm pm,pw,ht.sub sb,λrs2 p2 pm2 pw2 iu=>?_};rw[<-et]at pw2;exact{_,p2,rs2,rfl,bX sb iu,aa,sb.trans<|.new iu,pm2.trans pm,pw2}
 rintro aA S' ⟨o,p,dF,rfl,hp,dG,sb,pm,pw⟩;have pw:dF.Pairwise λa b=>bJ cs wy (ps.reverse.take (ps.map p3).reverse.length).reverse a b=true:=pw;rw[yp,zb,List.take_of_length_le<|Nat.le_of_eq hrl,List.reverse_reverse]at pw;exact fo ⟨o,p,dF,rfl,hp,dG,sb,pm,pw⟩;rintro aA S' ⟨o,p,dF,rfl,hp,dG,sb,pm,pw⟩;refine !{S.set p<|.lst<|dF.map ah,λb c hb=>?_,q dF p pm pw hp};by_cases e:b=p;subst e;rw[aa]at hb;cases hb;exact dG;rw[ae e]at hb;exact sb b c hb
noncomputable def Bh(cs:wT)(d:D):D->Bool|.tup [.str k,.tup ws]=>bh cs (k,ws) 7 d|_=>false
inductive KL(t:eZ)(ds:wp)(S:ao)(R:KD)(Z:KX):Prop where
 |mk (a cs d m rows)(h0:ds=[.ref a,d,m])(h1:Gd cs)(h2:Sq cs d)(h3:Vw t.aq S a cs m rows)(h4:∀p,S p=none->R (.ref p) (S.set p<|.lst<|(rows.filter λr=>bh cs r 7 d).map ah))
theorem qE:Ok P w base T.iM 11 (KL t):=by obtain⟨a,cs,d,m,rows,e,hg,hd,hv,q⟩:T.iM.F.bF jb;obtain⟨F,dl,rs,hS,hn,Yz,YA⟩:=hv.sh;obtain⟨ld,lr,ra,h,_⟩:=id hS;refine{_,(sc (bP (i:=3) jb.nd<|fJ (dv 0) T.aj T.az (aM T) hr)<|s1<|sr<|sA (N:=["row","columns","sieve"]) (src:=[none,some 3,some 1]) (km sC) (il<|ox (dv 0) T.aj T.iI (Ho T) hr<|ap 2 an) (if1<|tv<|aP T.passes (kD T 7) hr<|ap 1<|ap 2<|ap 0 an)<|dv 0),?_};refine !{a,_,rfl,h.ins,rfl,a,F,cs,dl,rs,rfl,hS,?_};refine !{a,_,rfl,h.ins,rfl,_,rfl,a,F,cs,dl,rs,m,rfl,hS,hn,hv.mo,λi ss hi hp hs p lq=>?_,λh=>absurd h Yz};rw[YA i ss hi hp hs];refine{_,aa,?_};refine fF (Bh cs d) id aa (by show(rows.map ah).length<=1000;rw[zb];have:=hv.len;lia) (λx hx Q Q' hQ Kf=>?_) λp2 iu=>?_;obtain⟨r,hr,rfl⟩:=zh.mp hx;refine !!!{cs,d,r,rfl,hg,hd.1,hv.rg.1 r hr,_,rfl,bS (λh=>!⟨hQ h⟩) λh=>Kf h};have e1:((rows.map ah).filter<|Bh cs d).map id=(rows.filter λr=>bh cs r 7 d).map ah:=oX λr=>rfl;rw[show({rows.map ah,λS=>rX S (.ref p)<|rows.map ah}:nV).xs=rows.map ah from rfl,e1];exact{_,cD<|.new lq,q p2<|bX (.new lq) iu}
inductive W6(t:eZ)(ds:wp)(S:ao)(R:KD)(Z:KX):Prop where
 |mk (a cs ps wy d m rows)(h0:ds=[.ref a,cN ps wy,d,m])(h1:Gd cs)(h2:Og cs ps wy)(h3:Sq cs d)(h4:Vw t.aq S a cs m rows)(h5:Tb t S)(h6:∀(dF:At)(p:Addr),dF.Perm (rows.filter λr=>bh cs r 7 d)->(dF.Pairwise λa b=>bJ cs wy ps a b=true)->S p=none->R (.ref p) (S.set p<|.lst<|dF.map ah))
theorem cE(B:Bm mg base):Ok P w base T.bV 12 (W6 t):=by obtain⟨a,cs,ps,wy,d,m,rows,e,hg,ho,hd,hv,ht,q⟩:T.bV.F.bF m8;obtain⟨F,dl,rs,hS,hn,Yz,YA⟩:=hv.sh;obtain⟨ld,lr,ra,h,_⟩:=id hS;refine{_,(s1<|sr<|aP T.sO (Bf T B) hr<|ac (fJ (dv 0) T.aj T.az (aM T) hr)<|ap 1<|ac (aP T.iM (qE T) hr<|ap 0<|ap 2<|ap 3 an) an),?_};refine !{a,_,rfl,h.ins,rfl,a,F,cs,dl,rs,rfl,hS,?_};refine !!!!{a,cs,d,m,rows,rfl,hg,hd,hv,λp hp=>?_};have fl:(rows.filter λr=>bh cs r 7 d).length<=rows.length:=List.length_filter_le _ _;have:=hv.len;refine{cs,ps,wy,p,rows.filter λr=>bh cs r 7 d,rfl,hg,ho,aa,Nat.lt_of_le_of_lt fl this,hv.rg.sub yy,ht.sub<|.new hp,λdF p2 pm pw iu=>?_};exact{_,cD<|.new hp,q dF p2 pm pw<|bX (.new hp) iu}
theorem kd_sub(h:Sub S S')(hk:Q_ S d k):Q_ S' d k:=by cases d with|ref a=>(rcases hk with⟨e,ds,q⟩|⟨e,ds,q⟩;exact .inl {e,ds,h _ _ q};exact .inr {e,ds,h _ _ q})|_=>exact hk
theorem Gt.sub(h:Sub S S')(g:Gt S d):Gt S' d:={by obtain⟨k,hk⟩:=g.1;exact{k,kd_sub h hk},g.2}
theorem Sk:Gt S (.tup ws):={{.tup,rfl},λ_=>nofun}
theorem NF(h:ws.length<=1000)(g:∀v∈ws,Gt S v):T_ S (.tup ws):={Sk,λYx e=>by cases e;exact⟨h,g⟩}
theorem gt_int:Gt S (.int i):={{.int,rfl},λ_=>nofun}
theorem Fq(h:z.cps.size<=1000):Gt S (.str z):={{.str,rfl},λz' e=>by cases e;exact h}
theorem KN(h:bC d=true):Gt S d:=by cases d with|av=>exact xq|int i=>exact gt_int|str z=>have h:(decide (z.cps.size<=40)&&PyData.strOk z)=true:=h;rw[zI]at h;have:=zG h.1;exact Fq (by lia)|_=>cases h
theorem DV(h:Paired rel cs ws):ws.length=cs.length:=by induction h with|nil=>rfl|cons _ _ ih=>rw[zQ,zQ,ih]
theorem Wg.len(h:Wg cs ws):ws.length=cs.length:=DV h
theorem Wg.Sl(h:Wg cs ws):nh cs (.tup ws)=true:=by show(decide (ws.length=cs.length)&&(List.zipWith (λc v=>iT c.2 v) cs ws).all id)=true;rw[zu h.len,yf];unfold Wg at h;induction h with|nil=>rfl|cons r t ih=>rw[List.zipWith_cons_cons,List.all_cons,ih];show(id (iT _ _)&&true)=true;rw[show id (iT _ _)=true from r.1];rfl
theorem Wg.gts(h:Wg cs ws)(hc:cs.length<=8):T_ S (.tup ws):=NF (by rw[h.len];lia) λv hv=>KN<|h.all v hv
theorem NG(hg:Gd cs)(hN:∀c∈cs,c.1∈BU):∀d∈cs.map aB,Ly S 60 d:=λd hd=>by obtain⟨c,hc,rfl⟩:=zh.mp hd;refine(Ly.tup (n:=0) λx hx=>?_).le (by decide);have hx:x∈[D.str c.1,D.str c.2]:=hx;simp only[zk,zO,or_false]at hx;rcases hx with rfl|rfl;exact Ly.str (Kh _<|hN c hc).2;rcases (hg.2.2 c hc).2 with e|e<;>rw[e]<;>exact Ly.str (by trivial)
theorem NH{S:ao}{a b:Addr}{ds:wp}{R:KD}(e1:S a=some (.lst ds))(e2:S b=some (.lst []))(h:∀d∈ds,Ly S 60 d)(q:R (.bl<|!ds.isEmpty) S):GK true (.ref a) (.ref b) S R:=by obtain⟨ps,k1,k2,k3,k4⟩:=Ly.all h;refine{.list ps,.list [],⟨ds,ps,e1,rfl,k1⟩,{[],[],e2,rfl,by simp only[DpAll]},by simp only[PyData.canLay0];exact k2,by simp only[PyData.canLay0,PyData.canLayAll0],.inl<|by simp only[PyData.depth];lia,?_};rw[if_pos rfl,tE,show ps.isEmpty=ds.isEmpty by cases ps<;>cases ds<;>first|rfl|cases k4];exact q
theorem NI{n a b tn:Nat}(ha:a<n)(hb:b<n)(h:(a+tn)%n=(b+tn)%n):a=b:=by rcases Nat.lt_trichotomy a b with l|l|l;have:=Nat.sub_mod_eq_zero_of_mod_eq h.symm;rw[show b+tn-(a+tn)=b-a by lia,Nat.mod_eq_of_lt<|by lia]at this;lia;exact l;have:=Nat.sub_mod_eq_zero_of_mod_eq h;rw[show a+tn-(b+tn)=a-b by lia,Nat.mod_eq_of_lt<|by lia]at this;lia
noncomputable def vL(cs:wT)(tn k:Nat):Str:=(cs.getD ((tn+k)%cs.length) ("","")).1
theorem Bi(h:0<cs.length):∃c∈cs,cs[(tn+k)%cs.length]?=some c/\c.1=vL cs tn k:=by have dY:(tn+k)%cs.length<cs.length:=Nat.mod_lt _ h;refine{cs[(tn+k)%cs.length],List.getElem_mem dY,ze dY,?_};unfold vL;rw[zB,ze dY];rfl
theorem Bj{cs:wT}(hg:(cs.map Prod.fst).Nodup){tn i:Nat}(hi:i<=cs.length):((List.range i).map<|vL cs tn).Nodup:=by
 refine List.pairwise_map.mpr<|List.nodup_range.imp_of_mem λ{a b} ha hb n e=>n ?_;have ha:=zT.mp ha;have hb:=zT.mp hb;have h0:0<cs.length:=by lia
 have la:(tn+a)%cs.length<cs.length:=Nat.mod_lt _ h0;have lb:(tn+b)%cs.length<cs.length:=Nat.mod_lt _ h0;unfold vL at e;rw[zB,ze la,zB,ze lb]at e;have e:(cs[(tn+a)%cs.length]).1=(cs[(tn+b)%cs.length]).1:=e;have e2:(cs.map Prod.fst)[(tn+a)%cs.length]'(by rw[zb];exact la)=(cs.map Prod.fst)[(tn+b)%cs.length]'(by rw[zb];exact lb):=by rw[List.getElem_map,List.getElem_map];exact e
 have e3:=(List.getElem_inj hg).mp e2;rw[Nat.add_comm tn a,Nat.add_comm tn b]at e3;exact NI (n:=cs.length) (by lia) (by lia) e3
inductive Ow(S1:ao)(cs:wT)(c0:Int)(lx lp:Addr)(k tn i:Nat)(aA:SD)(S':ao):Prop where
 |mk (o5 o6:wP)(ps:xL)(h0:aA=[some<|.tup<|cs.map aB,some<|.int c0,some<|.ref lx,some<|.int (k:Nat),some<|.ref lp,o5,o6])(h1:ps.map Prod.fst=(List.range i).map (vL cs tn))(h2:∀p∈ps,oU p.2.1=true/\Ko p.2.2=true)(h3:S'=S1.set lp (.lst<|ps.map p3)):Ow S1 cs c0 lx lp k tn i aA S'
inductive vM(ds:wp)(S:ao)(R:KD)(Z:KX):Prop where
 |mk (cs:wT)(c:Int)(h0:ds=[.tup<|cs.map aB,.int c])(h1:Gd cs)(h2:∀(ps:xL)(wy:Str),Og cs ps wy->R (cN ps wy) S)
theorem KO:Ok P w base T.wW 2 vM:=by
 obtain⟨cs,c0,e,hg,q⟩:T.wW.F.bF eI;have h8:=hg.1;have BO:(cs.map aB).length=cs.length:=zb _;refine{_,(sc (bP (i:=2) eI.nd<|aP T.iQ (j6 T) hr<|ap 1<|ac di an)<|sc (bP (i:=3) eI.nd<|cb OJ T.O9 Jh<|ac (cb aO T.aL aD<|ap 0 an)<|ac (wq<|bv (b_<|ac di<|ac di<|ac di<|ac di<|ac di<|ac di<|ac di<|ac di an)<|be bq (bv (dv 2) di) di) an)<|sc (bP (i:=4) eI.nd<|b_ an)<|sc (qX<|GR (LG T.dN<|ap 3 an) (gn (i:=5) eI.nd)<|sc (bP (i:=6) eI.nd<|bv (bv (dv 0)<|be bq (be bz (bv (dv 2) di)<|dv 5)<|cb aO T.aL aD<|ap 0 an) di)<|s1<|se<|bm zM zW zX cw (dv 4)<|ac (cQ<|ap 6<|ac (wq<|bv (b_<|ac ds<|ac ds an)<|be bq (bv (dv 2)<|be bz di<|dv 5) di)<|ac (wq<|bv (b_<|ac ds<|ac ds an)<|be bq (be cg (bv (dv 2)<|be bz di<|dv 5) di) di) an) an)<|s1<|sr<|cQ<|ac (ct iF T.bB bf<|ap 4 an)<|ac (wq<|bv (b_<|ac ds<|ac ds an)<|be bq (bv (dv 2) di) di) an),?_};refine !{c0,12,rfl,by decide,λxs lx uM hx uk=>?_};have s1:=Sub.new (c:=.lst<|xs.map D.int) uk;have hX:(S.set lx<|.lst<|xs.map D.int) lx=some (.lst<|xs.map D.int):=aa;generalize S.set lx (.lst<|xs.map D.int)=S1 at s1 hX⊢;have at_:∀k:Nat,k<12->∃x:Int,gZ (xs.map D.int) ((k:Nat):Int)=some (.int x)/\0<=x:=λk hk=>A5 (by lia) (by rw[zb];lia) hx;obtain⟨x0,e0,_⟩:=at_ 0 (by decide);obtain⟨x1,e1,x10⟩:=at_ 1 (by decide);obtain⟨x11,e11,_⟩:=at_ 11 (by decide);obtain⟨tn,rfl⟩:=Int.eq_ofNat_of_zero_le x10;refine !!{Hh,λp hp=>!{_,_,(Sub.new hp) _ _ hX,e0,by decide,cq (zN _<|by decide) (zL _<|by decide) hp λd hd=>?_}};obtain⟨m,rfl⟩:∃m:Nat,d=.int m:=by have hd:d∈[D.int 1,.int 2,.int 0,.int 3,.int 1,.int 2,.int 8,.int 3]:=hd;simp only[zk,zO,or_false]at hd;rcases hd with h|h|h|h|h|h|h|h;exact{1,h};exact{2,h};exact{0,h};exact{3,h};exact{1,h};exact{2,h};exact{8,h};exact{3,h}
 obtain⟨k,hk,ek⟩:∃k:Nat,k<=cs.length/\(if decide ((m:Int)<(((cs.map aB).length:Nat):Int))=true then (m:Int) else (((cs.map aB).length:Nat):Int))=(k:Int):=by rw[BO];by_cases h:(m:Int)<((cs.length:Nat):Int);exact{m,by lia,by rw[zu h,if_pos rfl]};exact{cs.length,zq _,by rw[zA h,if_neg zd]}
 refine{_,_,rfl,?_};have ek2:(if (λi j:Int=>decide<|i<j) ((m:Nat):Int) (((cs.map aB).length:Nat):Int)=true then ((m:Nat):Int) else (((cs.map aB).length:Nat):Int))=((k:Nat):Int):=ek;rw[ek2];refine{ng,λlp DX=>?_};have nxp:lx≠lp:=gA hX DX;refine{Ow S1 cs c0 lx lp k tn k,?_,?_};refine !{((k:Nat):Int),rfl,by lia,by lia,?_};refine{Ow S1 cs c0 lx lp k tn,{none,none,[],rfl,rfl,λ_ h=>(nomatch h),rfl},λ_ _ _ _=>trivial,?_,?_};rintro i d aA S' hd ⟨o5,o6,ps,rfl,hn,dH,rfl⟩;have hd:(cR 0 ((k:Nat):Int).toNat)[i]?=some d:=hd;obtain⟨hi,rfl⟩:=bU hd;have hi:i<k:=by lia
 have dG:ps.length=i:=by have:=congrArg List.length hn;simpa using this
 obtain⟨c,hc,ec,sA⟩:=Bi (cs:=cs) (tn:=tn) (k:=i) (by lia);have Fh:(S1.set lp<|.lst<|ps.map p3) lx=some (.lst<|xs.map D.int):=(ae nxp).trans hX;have hP2:(S1.set lp<|.lst<|ps.map p3) lp=some (.lst<|ps.map p3):=aa;have eat:gZ (cs.map aB) ((((tn:Nat):Int)+(0+((i:Nat):Int)))%(((cs.map aB).length:Nat):Int))=some (aB c):=by rw[BO,show(((tn:Nat):Int)+(0+((i:Nat):Int)))%((cs.length:Nat):Int)=(((tn+i)%cs.length:Nat):Int) by rw[Int.zero_add,Int.natCast_emod,Int.natCast_add]];refine bu ?_;rw[zi,ec];rfl
 obtain⟨xi,YB,_⟩:=at_ (2+i) (by lia);have YB:gZ (xs.map D.int) (2+(0+((i:Nat):Int)))=some (.int xi):=by rw[show(2:Int)+(0+((i:Nat):Int))=((2+i:Nat):Int) by lia];exact YB
 refine !!{_,_,Fh,e1,_,rfl,_,rfl,_,rfl,by rw[BO];lia,_,eat,_,rfl,?_};refine{_,rfl,{rfl,_,hP2},_,rfl,cX,λp hp=>!!{_,_,(Sub.new hp) _ _ Fh,YB,by decide,cq (zN _<|by decide) (zL _<|by decide) hp λd hd=>?_}};obtain⟨wy,rfl,LL⟩:∃wy:Str,d=.str wy/\oU wy=true:=by have hd:d∈[D.str "up",.str "down"]:=hd;simp only[zk,zO,or_false]at hd;rcases hd with h|h;exact{_,h,by trivial};exact{_,h,by trivial}
 refine{cX,λp hp=>!!{_,_,(Sub.new hp) _ _ Fh,YB,{by decide,by trivial},by decide,cq (zN _<|by decide) (zL _<|by decide) hp λd hd=>?_}};obtain⟨en,rfl,u9⟩:∃en:Str,d=.str en/\Ko en=true:=by have hd:d∈[D.str "first",.str "last"]:=hd;simp only[zk,zO,or_false]at hd;rcases hd with h|h;exact{_,h,by trivial};exact{_,h,by trivial}
 refine{uH,lp,_,_,rfl,rfl,hP2,bg<|by rw[zb];lia,?_};refine{_,_,ps++[(c.1,wy,en)],rfl,?_,λx hx=>?_,?_};rw[zC,hn,List.range_succ,zC];show _=_++[vL cs tn i];rw[<-sA];rfl;rcases zP.mp hx with h|h;exact dH x h;rw[zK.mp h];exact⟨LL,u9⟩;rw[bp,zC];rfl;rintro aA S' ⟨o5,o6,ps,rfl,hn,dH,rfl⟩;rw[show({cR 0 ((k:Nat):Int).toNat,λ_=>True}:nV).xs.length=((k:Nat):Int).toNat from bE,show((k:Nat):Int).toNat=k by lia]at hn;exact fo ⟨o5,o6,ps,rfl,hn,dH,rfl⟩;rintro aA S' ⟨o5,o6,ps,rfl,hn,dH,rfl⟩;have Fh:(S1.set lp<|.lst<|ps.map p3) lx=some (.lst<|xs.map D.int):=(ae nxp).trans hX;refine !{_,_,rfl,.inl aa,cX,λp hp=>!{_,_,(Sub.new hp) _ _ Fh,e11,by decide,cq (zN _<|by decide) (zL _<|by decide) hp λd hd=>?_}};obtain⟨wy,rfl,LL⟩:∃wy:Str,d=.str wy/\oU wy=true:=by have hd:d∈[D.str "up",.str "down"]:=hd;simp only[zk,zO,or_false]at hd;rcases hd with h|h;exact{_,h,by trivial};exact{_,h,by trivial}
 have dG:ps.length=k:=by have:=congrArg List.length hn;simpa using this
 have pin:Pin cs ps:=λx hx=>by have:x.1∈ps.map Prod.fst:=zh.mpr ⟨x,hx,rfl⟩;rw[hn]at this;obtain⟨k,hk,e⟩:=zh.mp this;have:=zT.mp hk;obtain⟨c,hc,_,ec⟩:=Bi (cs:=cs) (tn:=tn) (k:=k) (by lia);exact{c,hc,ec.trans e}
 refine{cX,S,s1.trans<|.new DX,q ps wy {pin,λx hx=>(dH x hx).1,LL,?_,λx hx=>?_}};unfold DK;rw[zu<|show ps.length<=8 by lia,yf,zI,zI];refine{z0.mpr λx hx=>?_,zu<|by rw[hn];exact Bj hg.2.1 hk,LL};obtain⟨c,hc,ec⟩:=pin x hx;unfold gI;rw[zu<|zh.mpr ⟨c,hc,ec⟩,(dH x hx).1,(dH x hx).2];rfl;obtain⟨c,hc,ec⟩:=pin x hx;obtain⟨h1,h2⟩:=dH x hx;refine{by rw[<-ec];exact oP (hg.2.2 c hc).1,by rcases xH h1 with e|e<;>rw[e]<;>decide +kernel,?_};unfold Ko at h2;simp only[Bool.or_eq_true,zR]at h2;rcases h2 with e|e<;>rw[e]<;>decide +kernel
theorem KP{c1:Bool}{X A B:Prop}(c2:Bool)(hx:(if c2=true then A else B)->X)(h:if (c1||c2)=true then A else B):if c1=true then (if true=true then A else B) else X:=by cases c1 with|true=>exact h|false=>exact hx h
theorem DY{c1:Bool}{X A B:Prop}(c2:Bool)(hx:(if c2=true then A else B)->X)(h:if (c1&&c2)=true then A else B):if c1=true then X else (if false=true then A else B):=by cases c1 with|true=>exact hx h|false=>exact h
theorem keys_str{out:wp} : (∀d∈out,∃z∈KS,d=.str z)->∃ks:lc,out=ks.map D.str/\∀k∈ks,k∈KS:=by induction out with|nil=>exact λ_=>{[],rfl,λ_ h=>(nomatch h)}|cons x l ih=>intro h;obtain⟨z,hz,e⟩:=h x zj;obtain⟨ks,e2,hk⟩:=ih λd hd=>h d<|zf _ hd;exact{z::ks,by rw[e,e2];rfl,λk IV=>(zk.mp IV).elim (λe=>e ▸ hz)<|hk k}
theorem DZ{rel:D->D->Prop}{xs out:wp}(h:Paired rel xs out):∀v∈out,∃x,rel x v:=by induction h with|nil=>exact λ_ h=>(nomatch h)|cons r t ih=>exact List.forall_mem_cons.mpr {{_,r},ih}
theorem Po{cs:wT}{d:D}(h:Lf cs d){n:Nat} : pX (n+1) d=1:=by rcases h with rfl|⟨ks,rfl,_⟩|⟨o,c,v,_,_,_,rfl⟩<;>rfl
theorem Sm(n:Nat)(e:D):pX (n+1) (.tup [.str "not",e])=pX n e+1:=by show((nB _).map<|pX n).sum+1=_;rw[xC];simp
theorem NJ{o:Str}(h:o ="and"\/o ="or")(n:Nat)(ds:wp):pX (n+1) (.tup [.str o,.tup ds])=(ds.map<|pX n).sum+1:=by show((nB _).map<|pX n).sum+1=_;rw[xD h]
theorem Hy{I:nV}{S1:ao}{g:Au}{te:TD}{σ:SD}{src:List<|Option Nat}{R:KD}(P:Nat->List D->ao->Prop)(h0:P 0 [] S1)(aN:∀i out S,P i out S->I.ok S)(step:∀i d out S,I.xs[i]?=some d->P i out S->out.length<sizeLine/\g d (mL σ src) S λgu S3=>te gu S3 (λv S5=>P (i+1) (out++[v]) S5) Zf)(fin:∀out S2,P I.xs.length out S2->∀p,S2 p=none->R (.ref p) (S2.set p<|.lst out)):Av σ src g mM te R I S1:=by
 refine{P,h0,aN,λi d out S hd h=>{(step i d out S hd h).1,?_},fin};have e:(λ(gu:SD)(S3:ao)=>mM gu S3 (λb S4=>if b=true then te gu S4 (λv S5=>P (i+1) (out++[v]) S5) Zf else P (i+1) out S4) Zf)=λgu S3=>te gu S3 (λv S5=>P (i+1) (out++[v]) S5) Zf:=by funext gu S3;simp[mM]
 rw[e];exact(step i d out S hd h).2
theorem KQ{f:D->Nat}{k:Nat} : ∀{l:wp},(∀e∈l,f e<=k)->(l.map f).sum<=k*l.length|[],_=>zU _|e::l,h=>by have h1:=h e zj;have ih:=KQ λx hx=>h x<|zf _ hx;rw[zx,List.sum_cons,zQ,Nat.mul_succ];lia
noncomputable def Sn:Nat->Nat|0=>0|n+1=>1+3*Sn n
theorem So{S S':ao}{p:Addr}{c c':Ce}(h:Sub (S.set p c) S'):Sub (S.set p c') (S'.set p c'):=λb x hb=>by by_cases e:b=p;subst e;rw[aa]at hb⊢;exact hb;rw[ae e]at hb⊢;exact h b x<|(ae e).trans hb
inductive Sr(n:Nat)(ds:wp)(S:ao)(R:KD)(Z:KX):Prop where
 |mk (cs:wT)(lx:Addr)(m:Nat)(xs:ul)(hn:n=m+1)(h0:ds=[.tup<|cs.map aB,.ref lx,.int ((m:Nat):Int)])(h1:Cg cs)(h2:S lx=some (.lst<|xs.map D.int))(h3:xs.length<=20)(h4:∀x∈xs,0<=x)
  (h5:∀(d:D)(ys:ul),Sg cs n d->pX n d<=Sn n->ys.length<=20->(∀y∈ys,0<=y)->R d (S.set lx<|.lst<|ys.map D.int)):Sr n ds S R Z
theorem oY(T:Txt w K mg t):∀n,Ok P w base T.iR (2+n) (Sr n)
 |0=>by refine T.iR.F.bF (k:=1) cI ?_;rintro _ _ _ _ _ _ _ S R Z hr ⟨_,_,_,_,e,_⟩;cases e
 |n+1=>by
  refine T.iR.F.bF (k:=2+n) cI ?_;obtain⟨cs,lx,m,xs,en,e,hc,hX,uM,hx,q⟩;cases en;have hg:=hc.1;have n2:=cX;have n3:=uH;refine{_,(sc (bP (i:=3) cI.nd<|aP T.q9 (A6 T) hr<|ap 1 an)<|sc (bP (i:=4) cI.nd<|bo bq hr.u (dv 3) di)<|sc (si (twd<|twand (a_ qu hr.u (dv 2) di)<|tw1<|a_ aR hr.u (dv 4) di) (s1<|sr<|cQ<|ac ds<|ac (aP T.iR (oY T n) hr<|ap 0<|ap 1<|ac (bo kZ hr.u (dv 2) di) an) an) s0)<|sc (si (twd<|twand (a_ qu hr.u (dv 2) di)<|tw1<|a_ rZ hr.u (dv 4) di) (sc (AI (N:=["_law_k","_law_columns_here","_law_xs","_law_deep"]) (src:=[none,some 0,some 1,some 2]) 5 cI.nd (km vm) (LG T.dN<|ac (wq<|ix hr.u (b_<|ac di<|ac di<|ac di<|ac di an)<|bo bq hr.u (bo cg hr.u (dv 3) di) di) an) nW<|aP T.iR (oY T n) hr<|ap 1<|ap 2<|ac (bo kZ hr.u (dv 3) di) an)<|s1<|sr<|cQ<|ac (wq<|ix hr.u (b_<|ac ds<|ac ds an)<|bo kZ hr.u (dv 4) di)<|ac (ct iF T.bB bf<|ap 5 an) an) s0)<|sc (si (twd<|twor (a_ aR hr.u (dv 4) di)<|tw1<|a_ aR hr.u (dv 0)<|cQ an) (s1<|sr<|wq<|ix hr.u (b_<|ac (cQ<|ac ds an)<|ac (cQ<|ac ds<|ac (ct iF T.bB bf<|ac (sA (N:=["_law_k","_law_x"]) (src:=[none,some 3]) (km vm) (LG T.dN<|ac (bo bq hr.u (bo cg hr.u (dv 3) di) di) an) nW<|aP T.E3 (Ki T) hr<|ac (bo bz hr.u (bo cg hr.u (dv 1) di)<|bo rY hr.u di<|dv 0) an) an) an) an)<|bo bq hr.u (bo cg hr.u (dv 3) di) di) s0)<|sc (sa (ix hr.u (dv 0)<|bo bq hr.u (bo cg hr.u (dv 3) di)<|cb aO T.aL aD<|ap 0 an)<|gt (n:=2)<|gc (gn (i:=6) cI.nd)<|gc (gn (i:=7) cI.nd) g0)<|sc (bP (i:=8) cI.nd<|aP T.q_ (A7 T) hr<|ap 7<|ac (aP T.q9 (A6 T) hr<|ap 1 an) an)<|sc (si (twd<|twor (a_ fm hr.u (dv 8) dn)<|tw1<|a_ rZ hr.u (dv 4) di) (s1<|sr<|cQ<|ac ds<|ap 6<|ap 8 an) s0)<|sc (si (twd<|twand (a_ aR hr.u (dv 4) di)<|tw1<|a_ aR hr.u (dv 7) ds) (s1<|sr<|cQ<|ac ds<|ap 6<|ap 8 an) s0)<|s1<|sr<|cQ<|ac (wq<|ix hr.u (b_<|ac ds<|ac ds an)<|bo bq hr.u (dv 4) di)<|ap 6<|ap 8 an),?_};refine !{lx,xs,rfl,hX,uM,hx,λx ys x0 yl hy=>?_};have hY:(S.set lx<|.lst<|ys.map D.int) lx=some (.lst<|ys.map D.int):=aa;have q1:∀d,Lf cs d->R d (S.set lx<|.lst<|ys.map D.int):=λd hd=>q d ys (.inl hd) (by rw[Po hd];show 1<=1+_;lia) (by lia) hy;refine !{by decide,?_};have w0:0<=x%9:=zN _ (by decide);have w1:x%9<9:=zL _ (by decide);generalize x%9=way at w0 w1⊢;have ed:0<n->((n:Nat):Int)-1=((n-1:Nat):Int):=λh=>by lia
  refine !{decide<|(0:Int)<((n:Nat):Int),rfl,DY (decide<|way=0) (λh=>!!⟨h⟩)<|bS (λh=>?_) λNf=>?_};rw[zI,zR,zR]at h;have hn:0<n:=by lia
  refine !!!{cs,lx,n-1,ys,by lia,by rw[ed hn];rfl,hc,hY,by lia,hy,λd zs hd hz zl x9=>{n2,?_}};rw[bp];exact fo<|q _ zs (.inr<|.inl ⟨d,rfl,hd⟩) (by rw[Sm];show _<=1+3*Sn n;lia) zl x9;refine !{decide<|(0:Int)<((n:Nat):Int),rfl,DY (decide<|way<3) (λh=>!!⟨h⟩)<|bS (λh=>?_) λ_=>?_};rw[zI,zR,zR]at h;have hn:0<n:=by lia
  have hwz:way≠0:=λe=>by rw[Bool.and_eq_false_iff,yq,yq]at Nf;lia
  refine{uI,λp hp=>!⟨{by decide,by trivial},by decide,cq (zN _<|by decide) (zL _<|by decide) hp λd hd=>?_⟩};obtain⟨k,rfl,hk⟩:∃k:Nat,d=.int k/\k<=3:=by have hd:d∈[D.int 2,.int 3,.int 1,.int 0]:=hd;simp only[zk,zO,or_false]at hd;rcases hd with h|h|h|h;exact{2,h,by decide};exact{3,h,by decide};exact{1,h,by decide};exact{0,h,by decide}
  refine{((k:Nat):Int),rfl,by lia,by lia,?_};refine Hy (λi out S'=>∃zs:ul,Sub (S.set lx<|.lst<|zs.map D.int) S'/\zs.length<=20/\(∀z∈zs,0<=z)/\out.length=i/\∀e∈out,Sg cs n e/\pX n e<=Sn n) {ys,.refl _,by lia,hy,rfl,λ_ h=>(nomatch h)} (λ_ _ _ _=>trivial) ?_ ?_;rintro i d out S' hd ⟨zs,sb,zl,hz,Q2,ho⟩;have hi:i<k:=by have hd:(cR 0 ((k:Nat):Int).toNat)[i]?=some d:=hd;have:=(bU hd).1;lia
  refine{bg<|by lia,_,rfl,_,rfl,_,rfl,cs,lx,n-1,zs,by lia,by rw[ed hn];rfl,hc,sb _ _ aa,zl,hz,λd vs hd hsz vl hv=>{vs,So sb,vl,hv,by rw[zE,Q2];rfl,λe he=>?_}};rcases zP.mp he with he|he;exact ho e he;rw[zK.mp he];exact⟨hd,hsz⟩;rintro out S' ⟨zs,sb,zl,hz,Q2,ho⟩ pl dG;rw[show({cR 0 ((k:Nat):Int).toNat,λ_=>True}:nV).xs.length=((k:Nat):Int).toNat from bE]at Q2;refine{n2,λp2 iu=>!⟨cq (by lia) (by show way-1<2;lia) iu λd hd=>?_⟩};obtain⟨o,rfl,hoo⟩:∃o:Str,d=.str o/\(o ="and"\/o ="or"):=by have hd:d∈[D.str "and",.str "or"]:=hd;simp only[zk,zO,or_false]at hd;rcases hd with h|h;exact{_,h,.inl rfl};exact{_,h,.inr rfl}
  refine !{_,_,rfl,.inl aa,n2,_,sb.trans<|.new dG,q _ zs (.inr<|.inr {o,out,hoo,rfl,by lia,λe he=>(ho e he).1}) ?_ zl hz};have hs:=KQ λe he=>(ho e he).2;have:Sn n*out.length<=Sn n*3:=Nat.mul_le_mul_left _ (by lia);rw[NJ hoo];show _<=1+3*Sn n;lia;refine !{decide<|way=8,rfl,KP (cs.map aB).isEmpty (λh=>!{ng,Nx (NG hc.1 hc.2) !⟨h⟩})<|bS (λh=>?_) λh=>?_};have k0:0<=x/9%4:=zN _ (by decide);have k1:x/9%4<4:=zL _ (by decide);refine{uG,_,rfl,{by decide,by trivial},by decide,x/9%4,rfl,by lia,by lia,?_};refine jV (λ_ v=>∃z∈KS,v=.str z) trivial (by show(cR 0 _).length<=_;rw[bE];lia) (λd hd Q hQ=>?_) λout ho p1 my=>?_;obtain⟨j,hj⟩:=yu hd;obtain⟨_,rfl⟩:=bU hj;exact{_,rfl,{by decide,by trivial},_,rfl,.inl {by decide,by decide},_,rfl,λz hz=>hQ _ ⟨z,hz,rfl⟩};obtain⟨ks,rfl,BP⟩:=keys_str λd hd=>(DZ ho d hd).elim λ_ h=>h;have hl:=yS ho;rw[show({cR 0 (x/9%4).toNat,λ_=>True}:nV).xs=cR 0 (x/9%4).toNat from rfl,bE,zb]at hl;refine{_,_,rfl,.inl aa,n2,n2,λp hp=>!⟨{by decide,by trivial},by decide,cq (zN _<|by decide) (zL _<|by decide) hp λd hd=>?_⟩};have hd:d∈[D.tup [.str "every"],.tup [.str "key",.tup<|ks.map D.str]]:=hd;simp only[zk,zO,or_false]at hd;rcases hd with rfl|rfl;exact{_,.new my,q1 _<|.inl rfl};exact{_,.new my,q1 _<|.inr<|.inl {ks,rfl,by lia,BP}};rw[Bool.or_eq_false_iff]at h;have BO:0<cs.length:=by cases cs with|nil=>(cases h.2)|cons c cs=>exact Nat.succ_pos _
  have Uc:(cs.map aB).length=cs.length:=zb _;obtain⟨d,e1,e2⟩:=qQ (l:=cs.map aB) (i:=x/9%(((cs.map aB).length:Nat):Int)) (zN _<|by lia)<|zL _ (by lia);obtain⟨c,Us,rfl⟩:=zh.mp<|zy e2;refine !!⟨{by decide,by trivial},_,rfl,_,rfl,by lia,_,e1,_,rfl,rfl,_,_,rfl,_,_,rfl,rfl,?_⟩;refine !!{lx,ys,rfl,hY,by lia,hy,λx2 zs _ zl hz=>{c.2,x2,rfl,λv hv=>?_}};rw[bp];have qc:∀o,xB o c v->Fo (S.set lx<|.lst<|zs.map D.int) (R<|.tup [.str o,.str c.1,v]):=λo ho=>fo<|q _ zs (.inl<|.inr<|.inr ⟨o,c,v,Us,hv,ho,rfl⟩) (by rw[Po<|.inr<|.inr ⟨o,c,v,Us,hv,ho,rfl⟩];show 1<=1+_;lia) (by lia) hz;refine !{ag v,rfl,KP (decide<|way<4) (λh=>!!⟨h⟩)<|bS (λh4=>?_) λh4=>?_};exact !!{n3,qc _<|.inl rfl};rw[Bool.or_eq_false_iff]at h4;have OX:=aV h4.1;refine !{decide<|way=4,rfl,DY (decide<|c.2 ="word") (λh=>!!⟨h⟩)<|bS (λh5=>?_) λh5=>?_};rw[zI]at h5;exact !!{n3,qc _<|.inr {OX,.inr<|.inr {rfl,zG h5.2}}};refine{n2,λp hp=>!{(by decide:(0:Int)<2),cq (zN _<|by decide) (zL _<|by decide) hp λd hd=>?_}};obtain⟨o,rfl,ho⟩:∃o:Str,d=.str o/\(o ="below"\/o ="above"):=by have hd:d∈[D.str "below",.str "above"]:=hd;simp only[zk,zO,or_false]at hd;rcases hd with rfl|rfl;exact{_,rfl,.inl rfl};exact{_,rfl,.inr rfl}
  exact !!{n3,qc o<|.inr {OX,ho.elim .inl λh=>.inr<|.inl h}}
theorem Ft:∀{l:lc}{p:Str},PyProof.Rows.risingS p l=true->(p::l).Pairwise λa b=>a.cps.toList<=b.cps.toList|[],p,_=>List.pairwise_singleton _ _|x::r,p,h=>by have h:(!PySem.Spec.ltCps x.cps.toList p.cps.toList&&PyProof.Rows.risingS x r)=true:=h;rw[zI,PyProof.Rows.ltCps_eq,Bool.not_eq_true',yq]at h;have ih:=Ft h.2;have hpx:p.cps.toList<=x.cps.toList:=List.not_lt.mp h.1;refine List.pairwise_cons.mpr {λy hy=>?_,ih};rcases zk.mp hy with e|hy;rw[e];exact hpx;exact List.le_trans hpx<|(List.pairwise_cons.mp ih).1 y hy
theorem kF(h:PyProof.Rows.sortedS l=true):l.Pairwise λa b=>a.cps.toList<=b.cps.toList:=by cases l with|nil=>exact List.Pairwise.nil|cons x r=>exact Ft h
theorem NK{a b:Str}(h:a.cps.toList=b.cps.toList):a=b:=by obtain⟨⟨x⟩⟩:=a;obtain⟨⟨y⟩⟩:=b;cases h;rfl
theorem vN{l m:lc}(hl:l.Pairwise λa b=>a.cps.toList<=b.cps.toList)(hm:m.Pairwise λa b=>a.cps.toList<=b.cps.toList)(nl:l.Nodup)(nm:m.Nodup)(h:∀z,z∈l↔z∈m):l=m:=List.Perm.eq_of_pairwise (λa b _ _ h1 h2=>NK<|List.le_antisymm h1 h2) hl hm<|(List.perm_ext_iff_of_nodup nl nm).mpr h
def TI(l:xz)(n:Nat):Prop:=∀s∈l,s.b<=n/\∀m,s.e=some m->m<n
noncomputable def NL(s:Std):D:=match s.e with|none=>.tup s.ws|some _=>.av
noncomputable def cur(l:xz):D:=match l.getLast? with|none=>.av|some s=>NL s
theorem j9(r:xz)(s:Std):cur (r++[s])=NL s:=by unfold cur;rw[List.getLast?_concat]
theorem Ss(h:TI l n):wt l n=cur l:=by by_cases e:l=[];subst e;rfl;obtain⟨r,s,rfl⟩:=kB e;rw[j9];unfold wt;rw[List.reverse_append];obtain⟨h1,h2⟩:=h s<|zH _<|zK.mpr rfl;show J_ (s::r.reverse) (n:Int)=_;unfold J_ NL;rw[if_pos<|show(s.b:Int)<=(n:Int) by lia];cases q:s.e with|none=>rfl|some m=>have:=h2 m q;exact if_neg<|show ¬(n:Int)<=(m:Int) by lia
theorem TI.up(h:TI l n):TI l (n+1):=λs hs=>{Nat.le_succ_of_le (h s hs).1,λm e=>Nat.lt_succ_of_lt<|(h s hs).2 m e}
theorem TI.close(h:TI l n):TI (iV n l) (n+1):=by by_cases e:l=[];subst e;exact λs hs=>(nomatch hs);obtain⟨r,s,rfl⟩:=kB e;rw[eW];intro x hx;rcases zP.mp hx with hx|hx;exact h.up x<|yo _ hx;rw[zK.mp hx];exact{Nat.le_succ_of_le (h s<|zH _<|zK.mpr rfl).1,λm e=>by cases e;exact Nat.lt_succ_self _}
theorem TI.beg(h:TI l<|n+1):TI (l++[Std.mk (n+1) none ws]) (n+1):=λs hs=>by rcases zP.mp hs with hs|hs;exact h s hs;rw[zK.mp hs];exact{zq _,λm e=>(by cases e)}
theorem Hz:cur (iV n l)=.av:=by by_cases e:l=[];subst e;rfl;obtain⟨r,s,rfl⟩:=kB e;rw[eW,j9];rfl
noncomputable def ub(kn:Kn)(z:Str):D:=match iX kn z with|none=>.av|some ws=>.tup ws
structure RI(rs:mx)(n:Nat)(kn:Kn):Prop where
 ti:∀z,TI ((lu rs z).getD []) n
 eq:∀z,cur ((lu rs z).getD [])=ub kn z
 ks:∀r∈rs,r.1∈KS
theorem NM(h:r∈DB rs z s):r.1=z\/∃r'∈rs,r'.1=r.1:=by unfold DB at h;split at h;obtain⟨r0,x_,e⟩:=zh.mp h;refine .inr {r0,x_,?_};subst e;split<;>rfl;rcases zP.mp h with h|h;exact .inr ⟨r,h,rfl⟩;rw[zK.mp h];exact .inl rfl
theorem KR(h:∀r∈rs,r.1∈KS)(hz:z∈KS):∀r∈DB rs z s,r.1∈KS:=λr hr=>by rcases NM hr with e|⟨r',jg,e⟩;rw[e];exact hz;rw[<-e];exact h r' jg
theorem Fu:ub (qC kn z ws) k=if k=z then .tup ws else ub kn k:=by unfold ub;rw[Nu];by_cases h:k=z;rw[if_pos h,if_pos h];rw[if_neg h,if_neg h]
theorem Fv:ub (xx kn z) k=if k=z then .av else ub kn k:=by unfold ub;rw[Nv];by_cases h:k=z;rw[if_pos h,if_pos h];rw[if_neg h,if_neg h]
theorem RI.nil:RI [] 0 []:={λz s hs=>(nomatch hs),λz=>rfl,λr hr=>(nomatch hr)}
theorem RI.put(h:RI rs n kn)(hz:z∈KS):RI (uL rs z (n+1) ws) (n+1) (qC kn z ws):=by refine{λk=>?_,λk=>?_,KR h.ks hz};unfold uL;rw[j0];by_cases e:k=z;rw[if_pos e];exact(h.ti z).up.beg;rw[if_neg e];exact(h.ti k).up;unfold uL;rw[j0,Fu];by_cases e:k=z;rw[if_pos e,if_pos e];exact j9 _ _;rw[if_neg e,if_neg e];exact h.eq k
theorem RI.del(h:RI rs n kn)(hz:z∈KS):RI (oR rs z n) (n+1) (xx kn z):=by refine{λk=>?_,λk=>?_,KR h.ks hz};unfold oR;rw[j0];by_cases e:k=z;rw[if_pos e];exact(h.ti z).close;rw[if_neg e];exact(h.ti k).up;unfold oR;rw[j0,Fv];by_cases e:k=z;rw[if_pos e,if_pos e];exact Hz;rw[if_neg e,if_neg e];exact h.eq k
theorem RI.change(h:RI rs n kn)(hz:z∈KS):RI (uL (oR rs z n) z (n+1) ws) (n+1) (qC kn z ws):=by have h1:=h.del hz;refine{λk=>?_,λk=>?_,KR h1.ks hz};unfold uL;rw[j0];by_cases e:k=z;rw[if_pos e];exact(h1.ti z).beg;rw[if_neg e];exact h1.ti k;unfold uL;rw[j0,Fu];by_cases e:k=z;rw[if_pos e,if_pos e];exact j9 _ _;rw[if_neg e,if_neg e,h1.eq k,Fv,if_neg e]
theorem RI.wt{rs:mx}{n:Nat}{kn:Kn}(h:RI rs n kn)(z:Str):wt ((lu rs z).getD []) n=ub kn z:=by rw[Ss<|h.ti z,h.eq]
theorem RI.BR(h:RI rs n kn)(hz:z∈KS):BR rs (.str z) n=ub kn z:=by rw[xr (fZ z hz).1,h.wt]
theorem vO(kn:Kn)(z:Str):ag (ub kn z)=!(iX kn z).isSome:=by unfold ub;cases iX kn z<;>rfl
theorem Pp(h:bZ C S a F cs dl rs):(rs.map (·.1)).Nodup:=by obtain⟨ld,lr,ra,h,_,rfl⟩:=h;unfold ij;rw[zt];exact h.kn
theorem RI.len(h:RI rs n kn)(hs:bZ C S a F cs dl rs):rs.length<=60:=by
 have:=sub_len (Pp hs) (m:=KS) λx hx=>by obtain⟨r,hr,rfl⟩:=zh.mp hx;exact h.ks r hr
 rw[zb]at this;exact zJ this<|by trivial
noncomputable def Su(kn:Kn)(ss:lc):wp:=ss.map λz=>.tup [.str z,ub kn z]
theorem W7(h:lu rs k=some s):k∈rs.map (·.1):=by induction rs with|nil=>(cases h)|cons r rs ih=>rw[fw]at h;rw[zx];by_cases e:r.1=k;exact zk.mpr<|.inl e.symm;rw[if_neg e]at h;exact zf _<|ih h
noncomputable def oZ(k:Nat)(l:xz):xz:=match l.getLast? with|none=>l|some s=>match s.e with|none=>iV k l|some _=>l
theorem p5(h:s.e=none):oZ k (r++[s])=r++[Std.mk s.b (some k) s.ws]:=by unfold oZ;rw[List.getLast?_concat];dsimp only;rw[h];exact eW _ _ _
theorem Bk(h:s.e=some n):oZ k (r++[s])=r++[s]:=by unfold oZ;rw[List.getLast?_concat];dsimp only;rw[h]
theorem NN{s:Std}{r:xz}{m:Nat}(h:m<s.b):J_ (s::r) m=J_ r m:=by show(if (s.b:Int)<=(m:Int) then _ else J_ r m)=_;rw[if_neg<|by lia]
theorem HA(hm:m<=n):wt (oZ n l) m=wt l m:=by by_cases e:l=[];subst e;rfl;obtain⟨r,s,rfl⟩:=kB e;cases q:s.e with|some k=>rw[Bk q]|none=>rw[p5 q];unfold wt;rw[List.reverse_append,List.reverse_append];show(if (s.b:Int)<=(m:Int) then (if (m:Int)<=(n:Int) then D.tup s.ws else .av) else J_ r.reverse m)=(if (s.b:Int)<=(m:Int) then (match s.e with|none=>.tup s.ws|some n=>if (m:Int)<=(n:Int) then .tup s.ws else .av) else J_ r.reverse m);rw[q,if_pos<|show(m:Int)<=(n:Int) by lia]
theorem D1(h:cur l≠.av):oZ n l=iV n l:=by by_cases e:l=[];subst e;rfl;obtain⟨r,s,rfl⟩:=kB e;rw[j9]at h;cases q:s.e with|none=>rw[p5 q,eW]|some m=>unfold NL at h;rw[q]at h;exact absurd rfl h
noncomputable def ir(kn:Kn)(ss:lc):At:=ss.map λz=>(z,(iX kn z).getD [])
structure Snap(rs:mx)(cs:wT)(m:Nat)(rows:At):Prop where
 ex:∃kn ss,rows=ir kn ss/\KI cs kn/\ss.Perm (kn.map (·.1))/\PyProof.Rows.sortedS ss=true/\∀z,wt ((lu rs z).getD []) m=ub kn z
theorem vP(p:ss.Perm (kn.map (·.1))):(ir kn ss).map ah=Su kn ss:=by unfold ir Su;rw[zt];refine zY λz hz=>?_;obtain⟨ws,HB⟩:=oS<|p.mem_iff.mp hz;show D.tup [.str z,.tup<|(iX kn z).getD []]=.tup [.str z,ub kn z];unfold ub;rw[HB];rfl
theorem KY(hI:KI cs kn)(p:ss.Perm (kn.map (·.1))):Rg cs (ir kn ss):=by refine{λr hr=>?_,?_};obtain⟨z,hz,rfl⟩:=zh.mp hr;obtain⟨ws,HB⟩:=oS<|p.mem_iff.mp hz;show Wg cs ((iX kn z).getD []);rw[HB];exact(hI.ok _<|xw HB).2;unfold ir;rw[zt];show(ss.map id).Nodup;rw[List.map_id];exact p.nodup_iff.mpr hI.nd
theorem HC(hI:KI cs kn)(p:ss.Perm (kn.map (·.1))):(ir kn ss).length<=60:=by unfold ir;rw[zb,p.length_eq,zb];exact hI.len
theorem Snap.rg(h:Snap rs cs m rows):Rg cs rows/\rows.length<=60:=by obtain⟨kn,ss,rfl,hI,p,_⟩:=h.ex;exact{KY hI p,HC hI p}
theorem Snap.key(h:Snap rs cs m rows):∀r∈rows,r.1∈KS:=by obtain⟨kn,ss,rfl,hI,p,_⟩:=h.ex;intro r hr;obtain⟨z,hz,rfl⟩:=zh.mp hr;obtain⟨ws,HB⟩:=oS<|p.mem_iff.mp hz;exact(hI.ok _<|xw HB).1
theorem HD{C a:Addr}{S:ao}{F:io}{cs:wT}{dl:wp}{rs:mx}{m:Nat}{rows:At}(h:Snap rs cs m rows)(hs:bZ C S a F cs dl rs){ss:lc}(p1:ss.Perm (rs.map (·.1)))(o1:PyProof.Rows.sortedS ss=true):l9 rs m ss=rows.map ah:=by
 obtain⟨kn,s2,rfl,hI,p2,o2,hw⟩:=h.ex;rw[vP p2];have e:ss.filter (λz=>!ag (wt ((lu rs z).getD []) m))=s2:=by refine vN ((kF o1).filter _) (kF o2) ?_ (p2.nodup_iff.mpr hI.nd) λz=>?_;exact yy.nodup<|p1.nodup_iff.mpr<|Pp hs;rw[yF,hw,vO,Bool.not_not,p1.mem_iff,p2.mem_iff];constructor;rintro⟨_,hz⟩;obtain⟨ws,HB⟩:=Option.isSome_iff_exists.mp hz;exact zh.mpr {_,xw HB,rfl};intro hz;obtain⟨ws,HB⟩:=oS hz;refine{?_,by rw[HB];rfl};have e:=hw z;unfold ub at e;rw[HB]at e;cases q:lu rs z with|none=>(rw[q]at e;cases e)|some s=>exact W7 q
 unfold l9 Su;rw[e];refine zY λz _=>?_;unfold xt;rw[hw]
def HI(rs:mx)(cs:wT)(n:Nat)(hs:List<|List Row):Prop:=hs.length=n+1/\∀m rows,hs[m]?=some rows->Snap rs cs m rows
theorem HI.step{rs dF:mx}{cs:wT}{n:Nat}{hs:List<|List Row}(h:HI rs cs n hs)(old:∀z m,m<=n->wt ((lu dF z).getD []) m=wt ((lu rs z).getD []) m){kn:Kn}(hI:KI cs kn)(hR:RI dF (n+1) kn){ss:lc}(p:ss.Perm (kn.map (·.1)))(o:PyProof.Rows.sortedS ss=true):HI dF cs (n+1) (hs++[ir kn ss]):=by
 refine{by rw[zE,h.1];rfl,λm rows e=>?_};by_cases hm:m<hs.length;rw[List.getElem?_append_left hm]at e;obtain⟨kn0,s0,e0,h1,h2,h3,h4⟩:=(h.2 m rows e).ex;have:=h.1;exact{kn0,s0,e0,h1,h2,h3,λz=>(old z m<|by lia).trans<|h4 z};rw[List.getElem?_append_right<|by lia]at e;have OU:m-hs.length=0:=by cases q:m-hs.length with|zero=>rfl|succ k=>rw[q]at e;simp at e
 rw[OU]at e;cases e;have:=h.1;have hmn:m=n+1:=by lia
 subst hmn;exact{kn,ss,rfl,hI,p,o,λz=>hR.wt z}
theorem Sv{l:xz}{n m:Nat}{ws:wp}(hm:m<=n):wt (l++[Std.mk (n+1) none ws]) m=wt l m:=by unfold wt;rw[List.reverse_append];exact NN<|show m<n+1 by lia
theorem Fw(k:Str)(m:Nat)(hm:m<=n):wt ((lu (uL rs z (n+1) ws) k).getD []) m=wt ((lu rs k).getD []) m:=by unfold uL;rw[j0];by_cases e:k=z;rw[if_pos e,e];exact Sv hm;rw[if_neg e]
theorem Fx(h:RI rs n kn)(hz:(iX kn z).isSome=true)(k:Str)(m:Nat)(hm:m<=n):wt ((lu (oR rs z n) k).getD []) m=wt ((lu rs k).getD []) m:=by
 unfold oR;rw[j0];by_cases e:k=z;rw[if_pos e,e];have hc:cur ((lu rs z).getD [])≠.av:=by rw[h.eq];unfold ub;cases q:iX kn z with|none=>(rw[q]at hz;cases hz)|some ws=>exact λe=>by cases e
 show wt (iV n<|(lu rs z).getD []) m=_;rw[<-D1 hc,HA hm];rw[if_neg e]
theorem Fy(hz:z∈KS):Gt S (.str z):=Fq<|by have:=(fZ z hz).2.1;lia
section
variable{t:eZ}{S:ao}{a:Addr}{F:io}{cs:wT}{dl:wp}{rs:mx}{kn:Kn}{d:D}{R:KD}{Z:KX}
theorem KZ(hz:z∈KS)(h:Wg cs ws):oO cs (.str z) (.tup ws)=true:=by unfold oO;rw[h.Sl,show ofStr kP (.str z)=true from(fZ z hz).1];rfl
theorem D2(hR:RI rs dl.length kn)(hz:z∈KS):ag (BR rs (.str z) dl.length)=!(iX kn z).isSome:=by rw[hR.BR hz,vO]
theorem W8(h:iX kn z=none):(!(iX kn z).isSome)=true:=by rw[h];rfl
theorem K0(h:(iX kn z).isSome=true):(!(iX kn z).isSome)=false:=by rw[h];rfl
theorem tf{b:Bool}(h1:b=true)(h2:b=false){p:Prop} : p:=by rw[h1]at h2;cases h2
theorem bZ.out(hS:bZ C S a F cs dl rs)(hb:S b=none):b∉F:=λm=>by obtain⟨ld,lr,ra,h,rfl,_⟩:=hS;unfold fp at m;simp only[zk,zh]at m;rcases m with e|e|e|⟨r,hr,e⟩;have:=h.ins;rw[<-e,hb]at this;cases this;have:=h.A2;rw[<-e,hb]at this;cases this;have:=h.run;rw[<-e,hb]at this;cases this;have:=h.cell r hr;rw[e,hb]at this;cases this
theorem bZ.off(hS:bZ C S a F cs dl rs)(hp:p∉F):bZ C (S.set p c) a F cs dl rs:=by obtain⟨ld,lr,ra,hh,rfl,e2⟩:=hS;unfold fp at hp;simp only[zk,not_or]at hp;obtain⟨n1,n2,n3,n4⟩:=hp;exact{ld,lr,ra,{(ae<|Ne.symm n1).trans hh.ins,(ae<|Ne.symm n2).trans hh.A2,(ae<|Ne.symm n3).trans hh.run,λr hr=>(ae λe=>n4<|by rw[<-e];exact zh.mpr ⟨r,hr,rfl⟩).trans<|hh.cell r hr,hh.kn,hh.an,hh.sz},rfl,e2}
structure Dos(t:eZ)(ds:wp)(S:ao)(R:KD)(Z:KX):Prop where
 of:DJ t ds S R Z
theorem HE(hS:bZ t.aq S a F cs dl rs)(hg:Gd cs)(hI:KI cs kn)(hR:RI rs dl.length kn)(hl:dl.length<=100)(hd:GD KS cs kn d){rj:Kn}(hkn:KnD kn d rj)(q:∀S' F' dF,bZ t.aq S' a F' cs (dl++[d]) dF->DD F F' S S'->RI dF (dl.length+1) rj->(∀z m,m<=dl.length->wt ((lu dF z).getD []) m=wt ((lu rs z).getD []) m)->R .av S'):Dos t [.ref a,d] S R Z:=by
 have hrl:=hR.len hS;have W9:=hg.1;obtain⟨ld,lr,ra,h,_,_⟩:=id hS;refine{a,_,h.ins,rfl,?_};rcases hd with⟨z,ws,hz,hw,hn,rfl⟩|⟨z,ws,hz,hw,hn,rfl⟩|⟨z,hz,hn,rfl⟩;have ro:=KZ hz hw;have st:=(D2 hR hz).trans<|W8 hn;refine .inl {_,_,rfl,a,F,cs,_,rs,_,_,rfl,hS,W9,Fy hz,hw.gts W9,by lia,by lia,λe=>tf ro e,λ_ e=>tf st e,λz' Yx e1 e2 _ _ S' F' qW hK=>?_};cases e1;cases e2;have W_:rj=qC kn z ws:=by rcases hkn with⟨n,y,vs,_,e1,e2⟩|⟨y,_,e1,_⟩<;>cases e1;exact e2
 subst W_;exact q S' F' _ qW hK (hR.put hz) Fw;have ro:=KZ hz hw;have st:=(D2 hR hz).trans<|K0 hn;refine .inr<|.inl {_,_,rfl,a,F,cs,_,rs,_,_,rfl,hS,W9,Fy hz,hw.gts W9,by lia,by lia,λe=>tf ro e,λ_ e=>tf e st,λz' Yx e1 e2 _ _ S' F' qW hK=>?_};cases e1;cases e2;have W_:rj=qC kn z ws:=by rcases hkn with⟨n,y,vs,_,e1,e2⟩|⟨y,_,e1,_⟩<;>cases e1;exact e2
 subst W_;exact q S' F' _ qW hK (hR.change hz) λk m hm=>(Fw k m hm).trans<|Fx hR hn k m hm;have st:=(D2 hR hz).trans<|K0 hn;refine .inr<|.inr !{a,F,cs,_,rs,_,rfl,hS,Fy hz,by lia,λe=>tf (fZ z hz).1 e,λ_ e=>tf e st,λz' e1 _ _ S' qW hK=>?_};cases e1;have W_:rj=xx kn z:=by rcases hkn with⟨n,y,vs,_,e1,e2⟩|⟨y,_,e1,e2⟩<;>cases e1;exact e2
 subst W_;exact q S' F _ qW hK (hR.del hz)<|Fx hR hn
theorem Snap.vw(h:Snap rs cs m rows)(hS:bZ t.aq S a F cs dl rs)(hR:RI rs dl.length kn)(hm:uK dl.length md=some (m:Int))(Yg:Gt S md):Vw t.aq S a cs md rows:=by have:=h.rg;refine{{F,dl,rs,hS,by have:=hR.len hS;lia,(λe=>by rw[hm]at e;cases e),λi ss hi hp hs=>?_},Yg,by lia,this.1};rw[hm]at hi;cases hi;exact HD h hS hp hs
end
def YC(S:ao)(F:io)(S':ao):Prop:=∀b c,S b=some c->b∉F/\S' b=some c
theorem YC.sub(h:YC S F S'):Sub S S':=λb c e=>(h b c e).2
theorem KI.nil(cs:wT):KI cs []:={List.nodup_nil,λ_ h=>(nomatch h)}
theorem tK(ns:ul)(lo hi:rp):dh (ns.map D.int) lo hi=(dh ns lo hi).map D.int:=by unfold dh;rw[zb,List.map_take,List.map_drop]
structure St(t:eZ)(S0:ao)(a:Addr)(fs:List (Addr×Ce))(F:io)(cs:wT)(dl:wp)(rs:mx)(S:ao):Prop where
 sh:bZ t.aq S a F cs dl rs
 fa:∀x∈fs,S x.1=some x.2/\x.1∉F/\S0 x.1=none
 nd:(fs.map Prod.fst).Nodup
 Ih:YC S0 F S
section
variable{t:eZ}{S0:ao}{a:Addr}{fs:List (Addr×Ce)}{F:io}{cs:wT}{dl:wp}{rs:mx}{S:ao}
theorem St.at(h:St t S0 a fs F cs dl rs S)(i:Nat)(e:fs[i]?=some (b,c)):S b=some c:=(h.fa _<|zy e).1
theorem St.sub(h:St t S0 a fs F cs dl rs S)(b:Sub S S'):St t S0 a fs F cs dl rs S':={h.sh.sub b,λx hx=>{b _ _ (h.fa x hx).1,(h.fa x hx).2},h.nd,λx c hx=>{(h.Ih x c hx).1,b _ _ (h.Ih x c hx).2}}
theorem St.zero(h:St t S0 a fs F cs dl rs S)(hb:S b=none):S0 b=none:=by cases e:S0 b with|none=>rfl|some c=>have:=h.Ih.sub _ _ e;rw[hb]at this;cases this
theorem St.new(h:St t S0 a fs F cs dl rs S)(hp:S p=none)(c:Ce):St t S0 a (fs++[(p,c)]) F cs dl rs (S.set p c):=by
 have h1:=h.sub<|.new (c:=c) hp;refine{h1.sh,λx hx=>?_,?_,h1.Ih};rcases zP.mp hx with hx|hx;exact h1.fa x hx;rw[zK.mp hx];exact{aa,h.sh.out hp,h.zero hp};rw[zC,List.nodup_append];refine{h.nd,by simp,λx hx y hy e=>?_};obtain⟨z,hz,rfl⟩:=zh.mp hx;have hy:y=p:=by simpa using hy
 have:=(h.fa z hz).1;rw[e,hy,hp]at this;cases this
theorem St.put(h:St t S0 a fs F cs dl rs S)(i:Nat)(e:fs[i]?=some (b,c))(c':Ce):St t S0 a (fs.set i (b,c')) F cs dl rs (S.set b c'):=by
 have hb:=h.fa _<|zy e;have hi:=(zg.mp e).1;have em:(fs.set i (b,c')).map Prod.fst=fs.map Prod.fst:=by refine List.ext_getElem? λj=>?_;rw[zi,zi];by_cases q:j=i;subst q;rw[List.getElem?_set_self hi,e];rfl;rw[List.getElem?_set_ne<|Ne.symm q]
 refine{h.sh.off hb.2.1,λx hx=>?_,by rw[em];exact h.nd,λx c hx=>{(h.Ih x c hx).1,(ae<|gA hx hb.2.2).trans (h.Ih x c hx).2}};obtain⟨j,hj⟩:=yu hx;by_cases q:j=i;subst q;rw[List.getElem?_set_self hi]at hj;cases hj;exact⟨aa,hb.2⟩;rw[List.getElem?_set_ne<|Ne.symm q]at hj;have MR:=h.fa x<|zy hj;refine{(ae λe2=>q ?_).trans MR.1,MR.2};have a1:(fs.map Prod.fst)[j]?=some x.1:=by rw[zi,hj];rfl
 have a2:(fs.map Prod.fst)[i]?=some b:=by rw[zi,e];rfl
 obtain⟨b1,c1⟩:=zg.mp a1;obtain⟨b2,c2⟩:=zg.mp a2;exact(List.getElem_inj h.nd (h₀:=b1) (h₁:=b2)).mp<|by rw[c1,c2];exact e2
theorem St.perm(h:St t S0 a fs F cs dl rs S)(p:Td.Perm fs):St t S0 a Td F cs dl rs S:={h.sh,λx hx=>h.fa x<|p.mem_iff.mp hx,(p.map _).nodup_iff.mpr h.nd,h.Ih}
theorem St.less(h:St t S0 a fs F cs dl rs S)(n:(Td.map Prod.fst).Nodup)(p:∀x∈Td,x∈fs):St t S0 a Td F cs dl rs S:={h.sh,λx hx=>h.fa x<|p x hx,n,h.Ih}
theorem St.abG(h:St t S0 a fs F cs dl rs S)(hS:bZ t.aq S' a F' cs dl' dF)(hK:DD F F' S S'):St t S0 a fs F' cs dl' dF S':={hS,λx hx=>by obtain⟨h1,h2,h3⟩:=h.fa x hx;exact by obtain⟨k1,k2⟩:=hK _ _ h2 h1;exact⟨k2,k1,h3⟩,h.nd,λx c hx=>by obtain⟨h1,h2⟩:=h.Ih x c hx;exact hK _ _ h1 h2}
end
abbrev Xa:=List<|Addr×List Row
noncomputable def Xb(x:Addr×List Row):Addr×Ce:=(x.1,.lst<|x.2.map ah)
theorem Sw(hk:r.1∈KS)(hw:Wg cs r.2):Ly S 60 (ah r):=by refine(Ly.tup (n:=1) λx hx=>?_).le (by decide);simp only[zk,zO,or_false]at hx;rcases hx with rfl|rfl;exact(Ly.str (fZ _ hk).2.2).le (by decide);exact hw.ly
theorem Vw.sub(h:Vw C S a cs m rows)(b:Sub S S'):Vw C S' a cs m rows:=by obtain⟨F,dl,rs,h1,h2⟩:=h.sh;exact{{F,dl,rs,h1.sub b,h2},h.mo.sub b,h.len,h.rg}
theorem p6(q:R (.bl<|if neg then !(x==y) else (x==y)) S):GK neg (.bl x) (.bl y) S R:=⟨.bool x,.bool y,by simp only[Dl,Dp],by simp only[Dl,Dp],by simp only[PyData.canLay0],by simp only[PyData.canLay0],.inl<|by simp only[PyData.depth];lia,by
 have e:PyData.eqv (.bool x) (.bool y)=(x==y):=by cases x<;>cases y<;>rfl
 rw[e];exact q⟩
theorem Pq(q:R (.bl<|if neg then !decide (i=j) else decide (i=j)) S):GK neg (.str i) (.str j) S R:=q
noncomputable def cV(w e:Str)(x y:D):Int:=if l_ x y=true then 0 else if cz ("",w,e) x y=true then -1 else 1
def Cm(x y:D):Prop:=∃k,Vg k x/\Vg k y
theorem ji{w e:Str}(h:Cm x y):cV w e x y=0↔x=y:=by obtain⟨k,hx,hy⟩:=h;unfold cV;by_cases q:l_ x y=true;rw[if_pos q];simpa using (aU hx.2 hy.2).mp q;rw[if_neg q];have q':¬x=y:=λz=>q<|(aU hx.2 hy.2).mpr z;constructor;intro z;split at z<;>cases z;exact λz=>absurd z q'
theorem p7{w e:Str}(h:Cm x y):cV w e x y<0↔x≠y/\cz ("",w,e) x y=true:=by obtain⟨k,hx,hy⟩:=h;unfold cV;by_cases q:l_ x y=true;rw[if_pos q];have:=(aU hx.2 hy.2).mp q;simp[this];rw[if_neg q];have q':¬x=y:=λz=>q<|(aU hx.2 hy.2).mpr z;by_cases l:cz ("",w,e) x y=true;rw[if_pos l];simp[q',l];rw[if_neg l];simp[l]
theorem NO{w e:Str}(h:Cm x y):cV w e y x<0↔0<cV w e x y:=by
 have h':Cm y x:=by obtain⟨k,a,b⟩:=h;exact⟨k,b,a⟩
 rw[p7 h'];obtain⟨k,hx,hy⟩:=h;unfold cV;by_cases q:l_ x y=true;rw[if_pos q];have:=(aU hx.2 hy.2).mp q;simp[this];rw[if_neg q];have q':¬x=y:=λz=>q<|(aU hx.2 hy.2).mpr z;have:=oW (p:=("",w,e)) hx hy q';rw[this];cases cz ("",w,e) x y<;>simp[Ne.symm q']
inductive cO(ds:wp)(S:ao)(R:KD)(Z:KX):Prop where
 |mk (x y wy e)(h0:ds=[x,y,.str e])(h1:Cm x y)(h2:(x=.av\/y=.av))(h3:R (.int<|cV wy e x y) S)
theorem jo:Ok P w base T.dD 1 cO:=by
 refine T.dD.F.bF dW ?_;rintro _ _ _ _ _ _ _ S R Z hr ⟨x,y,wy,e,e0,⟨k,hx,hy⟩,hn,q⟩;subst e0;refine{_,(sc (si (twd<|twand (a_ fm hr.u (dv 0) dn)<|tw1<|a_ fm hr.u (dv 1) dn) (s1<|sr di) s0)<|sc (bP (i:=3) dW.nd<|cm aR hr.u (dv 2) ds)<|s1<|sr<|Q8 (a_ aR hr.u (dv 3)<|cm fm hr.u (dv 0) dn) (GL di) di),?_};unfold cV at q;refine !!⟨bS (λh=>!!⟨bS (λh2=>?_) λh2=>?_⟩) λh=>?_⟩;rw[df h,df h2]at q;exact fo q;have e1:ag x≠ag y:=by rw[show ag x=true from h,show ag y=false from h2];decide
 rw[xG e1,if_neg zd]at q;unfold cz at q;rw[show ag x=true from h,show ag y=false from h2]at q;refine !!!⟨?_⟩;dsimp only[dC,isD];refine p6 !⟨?_⟩;have q:R (.int<|if (ag x==decide (e ="first"))=true then -1 else 1) S:=by rw[show ag x=true from h];exact q
 rw[Bool.beq_comm]at q;refine bS (λz=>?_) λz=>?_;rw[if_pos<|show(decide (e ="first")==ag x)=true from z]at q;exact{_,rfl,fo q};rw[if_neg λz2=>tf z2<|show(decide (e ="first")==ag x)=false from z]at q;exact fo q;have hy1:ag y=true:=by rcases hn with rfl|rfl;cases h;rfl
 have e1:ag x≠ag y:=by rw[show ag x=false from h,hy1];decide
 rw[xG e1,if_neg zd]at q;unfold cz at q;rw[show ag x=false from h,hy1]at q;refine !!!⟨?_⟩;dsimp only[dC,isD];refine p6 !⟨?_⟩;have q:R (.int<|if (ag x==decide (e ="first"))=true then -1 else 1) S:=by rw[show ag x=false from h];exact q
 rw[Bool.beq_comm]at q;refine bS (λz=>?_) λz=>?_;rw[if_pos<|show(decide (e ="first")==ag x)=true from z]at q;exact{_,rfl,fo q};rw[if_neg λz2=>tf z2<|show(decide (e ="first")==ag x)=false from z]at q;exact fo q
inductive tL(ds:wp)(S:ao)(R:KD)(Z:KX):Prop where
 |mk (x y wy e)(h0:ds=[x,y,.str wy,.str e])(h1:Cm x y)(h2:R (.int<|cV wy e x y) S)
theorem p8:Ok P w base T.compared 2 tL:=by refine T.compared.F.bF pM ?_;rintro _ _ _ _ _ _ _ S R Z hr ⟨x,y,wy,e,e0,hc,q⟩;subst e0;obtain⟨k,hx,hy⟩:=id hc;refine{_,(sc (si (twd<|twor (a_ fm hr.u (dv 0) dn)<|tw1<|a_ fm hr.u (dv 1) dn) (s1<|sr<|aP T.dD (jo T) hr<|ap 0<|ap 1<|ap 3 an) s0)<|sc (si (a_ aR hr.u (dv 0)<|dv 1) (s1<|sr di) s0)<|sc (bP (i:=4) pM.nd<|cm rZ hr.u (dv 0)<|dv 1)<|s1<|sr<|Q8 (a_ aR hr.u (dv 4)<|cm aR hr.u (dv 2) ds) (GL di) di),?_};have none:∀Zq:KX,x=.av\/y=.av->cO [x,y,.str e] S (λd S'=>Fo S'<|R d) Zq:=λ_ hn=>{x,y,wy,e,rfl,hc,hn,fo q};refine !!⟨bS (λh=>?_) λh=>!!⟨bS (λh2=>?_) λh2=>?_⟩⟩;exact !!!⟨none _<|.inl<|df h⟩;exact !!!⟨none _<|.inr<|df h2⟩;clear none;have nx:ag x=false:=h;have ny:ag y=false:=h2;unfold cV at q;refine !!⟨nC hx.2 hy.2 !⟨bS (λh3=>?_) λh3=>?_⟩⟩;have h3:l_ x y=true:=h3;rw[if_pos h3]at q;exact fo q;have h3:l_ x y=false:=h3;rw[h3,if_neg zd]at q;unfold cz at q;rw[nx,ny]at q;have q:R (.int<|if (tI x y==decide (wy ="up"))=true then -1 else 1) S:=q;rcases mf hx hy (aV nx) (aV ny) with⟨i,j,rfl,rfl⟩|⟨i,j,rfl,rfl⟩;refine !!!!⟨?_⟩;dsimp only[dC];refine Pq ?_;refine p6 ?_;refine{_,rfl,?_};refine bS (λz=>?_) λz=>?_;rw[if_pos<|show(tI (.int i) (.int j)==decide (wy ="up"))=true from z]at q;exact{_,rfl,fo q};rw[if_neg λz2=>tf z2<|show(tI (.int i) (.int j)==decide (wy ="up"))=false from z]at q;exact fo q;refine !!!!⟨?_⟩;dsimp only[dC];refine Pq ?_;refine p6 ?_;refine{_,rfl,?_};refine bS (λz=>?_) λz=>?_;rw[if_pos<|show(tI (.str i) (.str j)==decide (wy ="up"))=true from z]at q;exact{_,rfl,fo q};rw[if_neg λz2=>tf z2<|show(tI (.str i) (.str j)==decide (wy ="up"))=false from z]at q;exact fo q
noncomputable def nH(ps:xL)(wy:Str):wT:=ps.map Prod.snd++[(wy,("last": Str))]
noncomputable def bM:List (Str×Str)->List D->List D->Int|w::ws,x::xs,y::ys=>(if cV w.1 w.2 x y=0 then bM ws xs ys else cV w.1 w.2 x y)|_,_,_=>0
def PV(ks:lc)(xs:wp):Prop:=Paired (λk x=>Vg k x) ks xs
theorem tM:∀{ws:wT}{ks:lc}{xs ys:wp},ws.length=ks.length->PV ks xs->PV ks ys->(bM ws xs ys=0↔xs=ys)|[],_,_,_,h,.nil,.nil=>by simp[bM]|w::ws,_,_,_,h,.cons (b:=x) a1 a2,.cons (b:=y) b1 b2=>by unfold bM;have c:=ji (w:=w.1) (e:=w.2) {_,a1,b1};by_cases q:cV w.1 w.2 x y=0;rw[if_pos q,tM (Nat.succ.inj h) a2 b2,c.mp q];simp;rw[if_neg q];exact{λz=>absurd z q,λz=>absurd (c.mpr (List.cons.inj z).1) q}
theorem Bl:∀{ws:wT}{ks:lc}{xs ys:wp},PV ks xs->PV ks ys->(bM ws ys xs<0↔0<bM ws xs ys)|[],_,_,_,_,_=>by simp[bM]|w::ws,_,_,_,.nil,.nil=>by simp[bM]|w::ws,_,_,_,.cons (b:=x) a1 a2,.cons (b:=y) b1 b2=>by unfold bM;have c:=ji (w:=w.1) (e:=w.2) {_,a1,b1};have c':=ji (w:=w.1) (e:=w.2) {_,b1,a1};by_cases q:x=y;rw[if_pos<|c.mpr q,if_pos<|c'.mpr q.symm];exact Bl a2 b2;rw[if_neg λz=>q<|c.mp z,if_neg λz=>q (c'.mp z).symm];exact NO {_,a1,b1}
theorem K1:∀{ws:wT}{ks:lc}{xs ys zs:wp},PV ks xs->PV ks ys->PV ks zs->bM ws xs ys<0->bM ws ys zs<0->bM ws xs zs<0|[],_,_,_,_,_,_,_,h,_=>by simp[bM]at h|w::ws,_,_,_,_,.nil,.nil,.nil,h,_=>by simp[bM]at h|w::ws,_,_,_,_,.cons (b:=x) a1 a2,.cons (b:=y) b1 b2,.cons (b:=z) c1 c2,h1,h2=>by unfold bM at h1 h2⊢;have e1:=ji (w:=w.1) (e:=w.2) {_,a1,b1};have e2:=ji (w:=w.1) (e:=w.2) {_,b1,c1};have e3:=ji (w:=w.1) (e:=w.2) {_,a1,c1};by_cases q1:x=y;subst q1;rw[if_pos<|e1.mpr rfl]at h1;by_cases q2:x=z;subst q2;rw[if_pos<|e2.mpr rfl]at h2⊢;exact K1 a2 b2 c2 h1 h2;rw[if_neg λz=>q2<|e2.mp z]at h2⊢;exact h2;rw[if_neg λz=>q1<|e1.mp z]at h1;by_cases q2:y=z;subst q2;rw[if_neg λz=>q1<|e3.mp z];exact h1;rw[if_neg λz=>q2<|e2.mp z]at h2;obtain⟨q3,l3⟩:=Fn (p:=("",w.1,w.2)) a1 b1 c1 q1 q2 ((p7 {_,a1,b1}).mp h1).2 ((p7 {_,b1,c1}).mp h2).2;rw[if_neg λz=>q3<|e3.mp z];exact(p7 {_,a1,c1}).mpr ⟨q3,l3⟩
noncomputable def NP(cs:wT)(z:Str):Str:=((cs[Kt cs z]?).map Prod.snd).getD "word"
noncomputable def YD(cs:wT)(ps:xL):lc:=ps.map (λp=>NP cs p.1)++[("word": Str)]
noncomputable def p9(cs:wT)(ps:xL)(r:Row):wp:=ps.map (λp=>ak cs r.2 p.1)++[.str r.1]
theorem lC:∀z∈KS,Vg "word" (.str z):=by
 have h:∀z∈KS,(pP z&&bC (.str z))=true:=by trivial
 exact λz hz=>let q:=Bool.and_eq_true_iff.mp<|h z hz;⟨q.1,q.2⟩
theorem mi:∀{l:List α}{m:List β}{l':List α}{m':List β},Paired r l m->Paired r l' m'->Paired r (l++l') (m++m')|_,_,_,_,.nil,h=>h|_,_,_,_,.cons a t,h=>.cons a<|mi t h
theorem tN(hg:Gd cs)(hp:Pin cs ps)(hw:Wg cs ws):Paired (λk x=>Vg k x) (ps.map λp=>NP cs p.1) (ps.map λp=>ak cs ws p.1):=by induction ps with|nil=>exact .nil|cons p ps ih=>refine .cons ?_<|ih hp.tail;obtain⟨c,hc,e⟩:=hp p zj;show Vg (NP cs p.1) (ak cs ws p.1);unfold NP;rw[<-e,(tH hg hc).1];exact(kC hg hw hc).2
theorem o_(hg:Gd cs)(hp:Pin cs ps)(hw:Wg cs r.2)(hk:r.1∈KS):PV (YD cs ps) (p9 cs ps r):=mi (tN hg hp hw)<|.cons (lC _ hk) .nil
theorem Fz(hg:Gd cs){wy:Str}(ha:Wg cs a.2)(hb:Wg cs b.2)(ka:a.1∈KS)(kb:b.1∈KS)(n:a.1≠b.1):∀{ps:xL},Pin cs ps->(bJ cs wy ps a b=true↔bM (nH ps wy) (p9 cs ps a) (p9 cs ps b)<0)|[],_=>(by show(nU a.1 b.1==decide (wy ="up"))=true↔(if cV wy "last" (.str a.1) (.str b.1)=0 then 0 else cV wy "last" (.str a.1) (.str b.1))<0;have n':(.str a.1:D)≠.str b.1:=λe=>n<|D.str.inj e;rw[if_neg λz=>n'<|(ji {_,lC _ ka,lC _ kb}).mp z,p7 {_,lC _ ka,lC _ kb}];exact{λh=>⟨n',h⟩,λh=>h.2})|p::ps,hp=>by obtain⟨k,hk⟩:=rn hg hp;have va:=hk _ ha;have vb:=hk _ hb;show(if l_ (ak cs a.2 p.1) (ak cs b.2 p.1)=true then bJ cs wy ps a b else cz p (ak cs a.2 p.1) (ak cs b.2 p.1))=true↔(if cV p.2.1 p.2.2 (ak cs a.2 p.1) (ak cs b.2 p.1)=0 then bM (nH ps wy) (p9 cs ps a) (p9 cs ps b) else cV p.2.1 p.2.2 (ak cs a.2 p.1) (ak cs b.2 p.1))<0;by_cases q:ak cs a.2 p.1=ak cs b.2 p.1;rw[if_pos<|(aU va.2 vb.2).mpr q,if_pos<|(ji {_,va,vb}).mpr q];exact Fz hg ha hb ka kb n hp.tail;rw[if_neg λz=>q<|(aU va.2 vb.2).mp z,if_neg λz=>q<|(ji {_,va,vb}).mp z,p7 {_,va,vb}];exact{λh=>⟨q,h⟩,λh=>h.2}
noncomputable def Xc(ws:wT)(g:wp)(sd:Str)(x:wp):Bool:=decide (bM ws x g<0)||(decide (bM ws x g=0)&&decide (sd ="behind"))
theorem Xd{ws:wT}{ks:lc}{g x y:wp}{sd:Str}(hl:ws.length=ks.length)(hx:PV ks x)(hy:PV ks y)(hg:PV ks g)(h:bM ws x y<0)(q:Xc ws g sd y=true):Xc ws g sd x=true:=by unfold Xc at q⊢;simp only[Bool.or_eq_true,zI,zR]at q⊢;rcases q with q|⟨q,_⟩;exact .inl<|K1 hx hy hg h q;rw[<-(tM hl hy hg).mp q];exact .inl h
theorem D3:∀{l:List α},(l.Pairwise λa b=>g b=true->g a=true)->∀{i:Nat}{a:α},l[i]?=some a->(g a=true↔i<l.countP g)
 |[],_,i,a,h=>by simp at h
 |x::l,hp,i,a,h=>by
  obtain⟨h1,h2⟩:=List.pairwise_cons.mp hp;rw[List.countP_cons];by_cases q:g x=true;rw[if_pos q];cases i with|zero=>(cases h;simp[q])|succ i=>rw[D3 h2<|show l[i]?=some a from h];lia
  have z:l.countP g=0:=List.countP_eq_zero.mpr λb hb e=>q<|h1 b hb e;rw[if_neg q,z];have:g a≠true:=by cases i with|zero=>(cases h;exact q)|succ i=>exact λe=>q<|h1 a (zy h) e
  simp[this]
theorem D4{α:Type}{g:α->Bool}{l:List α}(hp:l.Pairwise λa b=>g b=true->g a=true){n:Nat}(hn:n<=l.length)(h1:∀i a,i<n->l[i]?=some a->g a=true)(h2:∀i a,n<=i->l[i]?=some a->g a=false):n=l.countP g:=by
 have hc:l.countP g<=l.length:=List.countP_le_length;rcases Nat.lt_trichotomy n (l.countP g) with h|h|h;have hi:n<l.length:=by lia
 have e:=ze hi;have:=(D3 hp e).mpr h;rw[h2 n _ (zq _) e]at this;cases this;exact h;have hi:l.countP g<l.length:=by lia
 have e:=ze hi;have:=(D3 hp e).mp<|h1 _ _ h e;lia
noncomputable def D5(xs:wp)(k:Str):D:=.tup [.tup xs,.str k]
abbrev uc:=List D×Str×Str
abbrev AC:=Option uc
noncomputable def uN(g:uc):D:=.tup [D5 g.1 g.2.1,.str g.2.2]
noncomputable def NQ:Option uc->D|none=>.av|some g=>uN g
noncomputable def FA(z:Str):Bool:=decide (z ="ahead")||decide (z ="behind")
structure Gp(cs:wT)(ps:xL)(g:uc):Prop where
 pv:Paired (λk x=>Vg k x) (ps.map λp=>NP cs p.1) g.1
 key:g.2.1∈KS
 side:FA g.2.2=true
def Bg(cs:wT)(ps:xL)(b:AC):Prop:=∀g,b=some g->Gp cs ps g
noncomputable def Xe(g:uc):wp:=g.1++[.str g.2.1]
theorem Gp.vs(h:Gp cs ps g):PV (YD cs ps) (Xe g):=mi h.pv<|.cons (lC _ h.key) .nil
theorem Gp.len(h:Gp cs ps g):g.1.length=ps.length:=by have:=yS h.pv;rw[zb]at this;exact this.symm
theorem Og.len(h:Og cs ps wy):ps.length<=8:=by have:=h.ok;unfold DK at this;simp only[zI,zR]at this;exact this.1
theorem D8(hg:Gd cs)(hc:c∈cs):c.1.cps.size<=1000:=by have h:=(hg.2.2 c hc).1;unfold lg at h;simp only[zI,zR]at h;lia
inductive vQ(ds:wp)(S:ao)(R:KD)(Z:KX):Prop where
 |mk (z)(h0:ds=[.str z])(h1:R (.bl<|FA z) S)
theorem D9:Ok P w base T.wU 1 vQ:=by obtain⟨z,e,q⟩:T.wU.F.bF Dj;refine{_,(s1<|sr<|qt (cb cY T.ay au<|ap 0<|ac (t6 T.pK jy) an)<|HW<|cmk T.wM (dv 0)<|dg (v:=.ref t.iH) T.uz rfl λ_=>iC _),?_};refine !{_,_,_,_,rfl,cP,rfl,_,rfl,dJ !{z,rfl,rfl,?_}};rw[Kq];exact fo q
inductive gm(ds:wp)(S:ao)(R:KD)(Z:KX):Prop where
 |mk (cs ps xs)(h0:ds=[.tup<|cs.map aB,.tup<|ps.map p3,.tup xs])(h1:Gd cs)(h2:Pin cs ps)(h3:ps.length<=8)(h4:Paired (λk x=>Vg k x) (ps.map λp=>NP cs p.1) xs)(h5:R (.bl true) S)
theorem kT:Ok P w base T.eE 4 gm:=by
 obtain⟨cs,ps,xs,e,hg,hp,h8,hv,q⟩:T.eE.F.bF kN;have hl:xs.length=ps.length:=by have:=yS hv;rw[zb]at this;exact this.symm
 have Uc:(ps.map p3).length=ps.length:=zb _;refine{_,(sc (si (twd<|twor (cF<|tv<|cb cY T.ay au<|ap 2<|ac (t6 T.bB bf) an)<|tw1<|bn g8 (cb aO T.aL aD<|ap 2 an)<|cb aO T.aL aD<|ap 1 an) (s1<|sr db) s0)<|s1<|sr<|cb i9 T.ja e_<|ac (TN (N:=["part","value","columns"]) (src:=[none,none,some 0]) (km lT) (izn T.J1<|ap 1<|ap 2 an) (Wh<|show(["part","value","columns"]:lc).Nodup by trivial) (mH rfl rfl) mP (λ_ _ _ _ _=>nW) λ_ _ _ _ _=>(aP T.jL (jX T) hr<|ac (aP T.eC (gW T) hr<|ap 2<|ac (bv (dv 0) di) an)<|ap 1 an)) an),?_};refine !{_,_,_,_,rfl,aY,rfl,_,rfl,aX !!!!!⟨kQ (by rw[hl,Uc];simp) ?_⟩};refine !!{_,_,rfl,by rw[hl,Uc],?_};refine comp_map (λ_=>.bl true) trivial (by show(cA _ _).length<=_;unfold cA;rw[List.length_zipWith];lia) (λd hd Q hQ=>?_) λp lq=>?_;have hd:d∈cA (ps.map p3) xs:=hd;unfold cA at hd;obtain⟨i,ei⟩:=yu hd;obtain⟨x,y,e2,e3,e4⟩:=List.getElem?_zipWith_eq_some.mp ei;subst e4;rw[zi]at e2;cases e5:ps[i]? with|none=>(rw[e5]at e2;cases e2)|some pt=>rw[e5]at e2;cases e2;obtain⟨c,hc,ec⟩:=hp pt<|zy e5;obtain⟨k,ek,hk⟩:=cM hv e3;rw[zi,e5]at ek;cases ek;have hk:Vg (NP cs pt.1) y:=hk;unfold NP at hk;rw[<-ec,(tH hg hc).1]at hk;have hk:Vg c.2 y:=hk;refine !{rfl,_,_,rfl,_,_,rfl,rfl,_,rfl,_,rfl,_,rfl,cs,pt.1,rfl,hg,by rw[<-ec];exact D8 hg hc,λk' IV=>?_,λhn=>absurd (zh.mpr ⟨c,hc,ec⟩) hn};have e6:k'=c.2:=(by have:=gH (f:=Prod.fst) hg.2.1 IV hc ec.symm;rw[<-this]);rw[e6];refine !{c.2,y,rfl,Fi hk,?_};rw[hk.1];exact hQ
 have e2:(cA (ps.map p3) xs).map (λ_=>D.bl true)=((cA (ps.map p3) xs).map λ_=>true).map D.bl:=by rw[zt];rfl
 have e3:((cA (ps.map p3) xs).map λ_=>true).all id=true:=by rw[all_map];exact z0.mpr λ_ _=>rfl
 refine{.ref p,(cA (ps.map p3) xs).map λ_=>true,rfl,?_,?_};show(S.set p<|.lst<|(cA (ps.map p3) xs).map _) p=_;rw[aa,e2];rw[e3];exact{S,.new lq,q}
inductive lE(ds:wp)(S:ao)(R:KD)(Z:KX):Prop where
 |mk (cs ps wy xs k)(h0:ds=[.tup<|cs.map aB,cN ps wy,D5 xs k])(h1:Gd cs)(h2:Pin cs ps)(h3:ps.length<=8)(h4:Paired (λk x=>Vg k x) (ps.map λp=>NP cs p.1) xs)(h5:k∈KS)(h6:R .av S)
theorem tO:Ok P w base T.jM 5 lE:=by obtain⟨cs,ps,wy,xs,k,e,hg,hp,h8,hv,hk,q⟩:T.jM.F.bF sR;refine{_,(sc (si (twd<|twor (cF<|tv<|cb cY T.ay au<|ap 2<|ac (t6 T.bB bf) an)<|tw1<|bn g8 (cb aO T.aL aD<|ap 2 an) di) (s1<|sj ⟨T.dA⟩ T.eP<|ac ds an) s0)<|sc (si (cF<|tv<|aP T.eE (kT T) hr<|ap 0<|ac (bv (dv 1) di)<|ac (bv (dv 2) di) an) (s1<|sj ⟨T.dA⟩ T.eP<|ac ds an) s0)<|s1<|si (cF<|tv<|aP T.l4 (ig T) hr<|ac (bv (dv 2) di) an) (s1<|sj ⟨T.dA⟩ T.eP<|ac ds an) s0),?_};refine !{_,_,_,_,rfl,aY,rfl,_,rfl,aX !!!⟨aX ?_⟩};refine !!!!!{cs,ps,xs,rfl,hg,hp,h8,hv,_,rfl,aX ?_};refine !!{.str k,rfl,Fy hk,_,rfl,?_};rw[show ofStr kP (.str k)=true from(fZ k hk).1];exact aX<|fo q
inductive p_(ds:wp)(S:ao)(R:KD)(Z:KX):Prop where
 |mk (cs ps wy g)(h0:ds=[.tup<|cs.map aB,cN ps wy,uN g])(h1:Gd cs)(h2:Pin cs ps)(h3:ps.length<=8)(h4:Gp cs ps g)(h5:R .av S)
theorem xI:Ok P w base T.oG 6 p_:=by obtain⟨cs,ps,wy,g,e,hg,hp,h8,hv,q⟩:T.oG.F.bF xa;refine{_,(sc (si (twd<|twor (cF<|tv<|cb cY T.ay au<|ap 2<|ac (t6 T.bB bf) an)<|tw1<|bn g8 (cb aO T.aL aD<|ap 2 an) di) (s1<|sj ⟨T.dA⟩ T.eP<|ac ds an) s0)<|sc (se<|aP T.jM (tO T) hr<|ap 0<|ap 1<|ac (bv (dv 2) di) an)<|s1<|si (cF<|tv<|aP T.wU (D9 T) hr<|ac (bv (dv 2) di) an) (s1<|sj ⟨T.dA⟩ T.eP<|ac ds an) s0),?_};refine !{_,_,_,_,rfl,aY,rfl,_,rfl,aX !!!⟨aX ?_⟩};refine !!!!{cs,ps,wy,g.1,g.2.1,rfl,hg,hp,h8,hv.pv,hv.key,?_};refine !!{g.2.2,rfl,_,rfl,?_};rw[hv.side];exact aX<|fo q
inductive lF(ds:wp)(S:ao)(R:KD)(Z:KX):Prop where
 |mk (cs ps wy b)(h0:ds=[.tup<|cs.map aB,cN ps wy,NQ b])(h1:Gd cs)(h2:Pin cs ps)(h3:ps.length<=8)(h4:Bg cs ps b)(h5:R .av S)
theorem tP:Ok P w base T.jP 7 lF:=by obtain⟨cs,ps,wy,b,e,hg,hp,h8,hv,q⟩:T.jP.F.bF sT;refine{_,(s1<|si (bn lQ (dv 2) dn) (s1<|se<|aP T.oG (xI T) hr<|ap 0<|ap 1<|ap 2 an) s0),?_};cases b with|none=>exact (!!⟨aX<|fo q⟩)|some g=>exact !!⟨dJ !!!{cs,ps,wy,g,rfl,hg,hp,h8,hv g rfl,fo q}⟩
inductive nI(ds:wp)(S:ao)(R:KD)(Z:KX):Prop where
 |mk (n:Int)(h0:ds=[.int n])(h1:1<=n)(h2:n<=1000)(h3:R .av S)
theorem gY:Ok P w base T.fT 2 nI:=by obtain⟨n,e,h1,h2,q⟩:T.fT.F.bF uE;refine{_,(s1<|si (twd<|twor (cF<|tv<|aP T.jK (jW T) hr<|ap 0 an)<|tw1<|cF<|X6 jA jA hr.u di (dv 0)<|dg (v:=.int 1000) T.wJ {_,rfl} λ_=>aT _) (s1<|sj ⟨T.oB⟩ T.C9<|ac ds an) s0),?_};refine !{.int n,rfl,gt_int,_,rfl,aX !!⟨Yw (zu h1) !⟨?_⟩⟩};exact kQ (by show(!decide (n<=1000))=false;rw[zu h2];rfl)<|fo q
inductive nJ(ds:wp)(S:ao)(R:KD)(Z:KX):Prop where
 |mk (cs ps wy d n b)(h0:ds=[.tup<|cs.map aB,cN ps wy,d,.int n,NQ b])(h1:Gd cs)(h2:Og cs ps wy)(h3:Sq cs d)(h4:1<=n)(h5:n<=1000)(h6:Bg cs ps b)(h7:R .av S)
theorem lG:Ok P w base T.iP 8 nJ:=by obtain⟨cs,ps,wy,d,n,b,e,hg,ho,hd,h1,h2,hv,q⟩:T.iP.F.bF uD;refine{_,(sc (se<|aP T.eQ (gb T) hr<|ap 0<|ap 1 an)<|sc (se<|aP T.eR (gf T) hr<|ap 0<|ap 2 an)<|sc (se<|aP T.fT (gY T) hr<|ap 3 an)<|s1<|se<|aP T.jP (tP T) hr<|ap 0<|ap 1<|ap 4 an),?_};refine !!{cs,ps,wy,rfl,hg,ho.tx,λ_=>?_,λz=>tf ho.ok z};refine !!{cs,d,rfl,hg,hd,_,rfl,n,rfl,h1,h2,?_};exact !!!{cs,ps,wy,b,rfl,hg,ho.pin,ho.len,hv,fo q}
structure An(cs:wT)(ps:xL)(wy:Str)(A:At):Prop where
 rg:Rg cs A
 ky:∀r∈A,r.1∈KS
 pw:A.Pairwise λa b=>bJ cs wy ps a b=true
noncomputable def gP(cs:wT)(ps:xL)(wy:Str)(g:uc)(r:Row):Bool:=Xc (nH ps wy) (Xe g) g.2.2<|p9 cs ps r
theorem FC:(nH ps wy).length=(YD cs ps).length:=by unfold nH YD;simp
theorem An.lex(hg:Gd cs)(hp:Pin cs ps)(h:An cs ps wy A):A.Pairwise λa b=>bM (nH ps wy) (p9 cs ps a) (p9 cs ps b)<0:=by have nd:A.Pairwise λa b=>a.1≠b.1:=List.pairwise_map.mp h.rg.2;refine(h.pw.and nd).imp_of_mem λ{a b} ha hb q=>?_;exact(Fz hg (h.rg.1 a ha) (h.rg.1 b hb) (h.ky a ha) (h.ky b hb) q.2 hp).mp q.1
theorem An.mono(hg:Gd cs)(hp:Pin cs ps)(h:An cs ps wy A)(hv:Gp cs ps g):A.Pairwise λa b=>gP cs ps wy g b=true->gP cs ps wy g a=true:=by refine(h.lex hg hp).imp_of_mem λ{a b} ha hb q=>?_;exact Xd FC (o_ hg hp (h.rg.1 a ha)<|h.ky a ha) (o_ hg hp (h.rg.1 b hb)<|h.ky b hb) hv.vs q
inductive tQ(ds:wp)(S:ao)(R:KD)(Z:KX):Prop where
 |mk (cs ps wy r)(h0:ds=[.tup<|cs.map aB,cN ps wy,ah r])(h1:Gd cs)(h2:Pin cs ps)(h3:ps.length<=8)(h4:Wg cs r.2)(h5:R (D5 (ps.map λp=>ak cs r.2 p.1) r.1) S)
theorem j_:Ok P w base T.jN 3 tQ:=by
 obtain⟨cs,ps,wy,r,e,hg,hp,h8,hw,q⟩:T.jN.F.bF pN;refine{_,(sc (AI (N:=["part","columns","row"]) (src:=[none,some 0,some 2]) 3 pN.nd (km C5) (HZ<|bv (dv 1) di) nW<|aP T.cy (dI T) hr<|ap 1<|ap 2<|ac (bv (dv 0) di) an)<|s1<|sr<|cQ<|ac (ct iF T.bB bf<|ap 3 an)<|ac (bv (dv 2) di) an),?_};refine !!{_,.inl rfl,?_};refine comp_map (λd=>match d with|.tup (.str z::_)=>ak cs r.2 z|_=>.av) trivial (by show(ps.map p3).length<=_;rw[zb];lia) (λd hd Q hQ=>?_) λp lq=>?_;obtain⟨pt,Xf,rfl⟩:=zh.mp hd;obtain⟨c,hc,ec⟩:=hp pt Xf;refine !!!!{cs,r,c,(by rw[ec];rfl),hg,hw,hc,?_};rw[ec];exact hQ;have e3:(ps.map p3).map (λd=>match d with|.tup (.str z::_)=>ak cs r.2 z|_=>.av)=ps.map λp=>ak cs r.2 p.1:=by rw[zt];rfl
 rw[show({ps.map p3,λ_=>True}:nV).xs=ps.map p3 from rfl,e3];exact !{_,_,rfl,.inl aa,_,rfl,_,rfl,cX,S,.new lq,q}
inductive Pcw(S:ao)(ps:xL)(wy:Str)(xs ys:wp)(k l:Str)(j:Int)(aA:SD)(S':ao):Prop where
 |mk (o3 o4 o5 o6:wP)(h0:aA=[some<|cN ps wy,some<|D5 xs k,some<|D5 ys l,o3,o4,o5,o6])(h1:S'=S)(h2:bM (nH ps wy) (xs++[.str k]) (ys++[.str l])=j):Pcw S ps wy xs ys k l j aA S'
inductive gJ(ds:wp)(S:ao)(R:KD)(Z:KX):Prop where
 |mk (ps:xL)(wy:Str)(xs:wp)(k:Str)(ys:wp)(l:Str)(ks:lc)(h0:ds=[cN ps wy,D5 xs k,D5 ys l])(h1:ps.length=xs.length)(h2:ps.length=ys.length)(h3:Paired (λk x=>Vg k x) ks xs)(h4:Paired (λk x=>Vg k x) ks ys)(h5:k∈KS)(h6:l∈KS)(h7:R (.int<|bM (nH ps wy) (xs++[.str k])<|ys++[.str l]) S)
theorem mj:Ok P w base T.fc 3 gJ:=by obtain⟨ps,wy,xs,k,ys,l,ks,e,h1,h2,vx,vy,hk,hl,q⟩:T.fc.F.bF bG;refine{_,(sc (qX<|GR (aba T.J1<|ac (bv (dv 0) di)<|ac (bv (dv 1) di)<|ac (bv (dv 2) di) an) (gt (n:=3)<|gc (gn (i:=3) bG.nd)<|gc (gn (i:=4) bG.nd)<|gc (gn (i:=5) bG.nd) g0)<|sc (bP (i:=6) bG.nd<|aP T.compared (p8 T) hr<|ap 4<|ap 5<|ac (bv (dv 3) di)<|ac (bv (dv 3) di) an)<|s1<|si (bn g8 (dv 6) di) (s1<|sr<|dv 6) s0)<|s1<|sr<|aP T.compared (p8 T) hr<|ac (bv (dv 1) di)<|ac (bv (dv 2) di)<|ac (bv (dv 0) di)<|ac ds an),?_};refine{Pcw S ps wy xs ys k l<|cV wy "last" (.str k)<|.str l,?_,?_};{refine !!!!!!{_,_,_,rfl,by rw[zb];exact h1,by rw[zb];exact h2,?_};refine{λi=>Pcw S ps wy xs ys k l<|bM (nH (ps.drop i) wy) (xs.drop i++[.str k])<|ys.drop i++[.str l],{_,_,_,_,rfl,rfl,rfl},λ_ _ _ _=>trivial,?_,?_};rintro i d aA S' hd ⟨o3,o4,o5,o6,rfl,rfl,he⟩;obtain⟨x,y,z,e1,e2,e3,rfl⟩:=ow hd;rw[zi]at e1;(cases e5:ps[i]? with|none=>(rw[e5]at e1;cases e1)|some p=>rw[e5]at e1;cases e1;obtain⟨i1,g1⟩:=zg.mp e5;obtain⟨i2,g2⟩:=zg.mp e2;obtain⟨i3,g3⟩:=zg.mp e3;rw[ye i1,ye i2,ye i3,g1,g2,g3]at he;have he:_=if cV p.2.1 p.2.2 y z=0 then bM (nH (ps.drop<|i+1) wy) (xs.drop (i+1)++[.str k]) (ys.drop (i+1)++[.str l]) else cV p.2.1 p.2.2 y z:=he;obtain⟨k1,q1,v1⟩:=cM vx e2;obtain⟨k2,q2,v2⟩:=cM vy e3;cases q1.symm.trans q2;refine !{rfl,_,_,rfl,_,_,rfl,_,_,rfl,rfl,?_};refine !!!!!!{y,z,p.2.1,p.2.2,rfl,⟨k1,v1,v2⟩,_,rfl,_,rfl,bS (λh=>?_) λh=>?_};have h:(!decide (cV p.2.1 p.2.2 y z=0))=true:=h;rw[if_neg<|zV<|nt h]at he;rw[he]at q;exact{_,rfl,fo q};have h:(!decide (cV p.2.1 p.2.2 y z=0))=false:=h;rw[if_pos<|zG<|nf h]at he;exact{_,_,_,_,rfl,rfl,he});{rintro aA S' ⟨o3,o4,o5,o6,rfl,rfl,he⟩;have he:_=bM (nH (ps.drop (jD (ps.map p3) xs ys).length) wy) (xs.drop (jD (ps.map p3) xs ys).length++[.str k]) (ys.drop (jD (ps.map p3) xs ys).length++[.str l]):=he;rw[ou (by rw[zb];exact h1)<|by rw[zb];exact h2,zb,List.drop_length,h1,List.drop_length,<-h1,h2,List.drop_length]at he;refine fo {o3,o4,o5,o6,rfl,rfl,he.trans ?_};show(if cV wy "last" (.str k) (.str l)=0 then 0 else cV wy "last" (.str k) (.str l))=_;split;{next h=>exact h.symm};rfl}};rintro aA S' ⟨o3,o4,o5,o6,rfl,rfl,he⟩;rw[he]at q;exact !!!!!!{_,_,_,_,rfl,{_,lC k hk,lC l hl},fo q}
inductive tR(ds:wp)(S:ao)(R:KD)(Z:KX):Prop where
 |mk (cs ps wy r g)(h0:ds=[cN ps wy,D5 (ps.map λp=>ak cs r.2 p.1) r.1,uN g])(h1:Gd cs)(h2:Pin cs ps)(h3:Wg cs r.2)(h4:r.1∈KS)(h5:Gp cs ps g)(h6:R (.bl<|gP cs ps wy g r) S)
theorem Bn:Ok P w base T.sN 4 tR:=by obtain⟨cs,ps,wy,r,g,e,hg,hp,hw,hk,hv,q⟩:T.sN.F.bF pO;refine{_,(sc (bP (i:=3) pO.nd<|aP T.fc (mj T) hr<|ap 0<|ap 1<|ac (bv (dv 2) di) an)<|sc (si (bn aR (dv 3) di) (s1<|sr<|bi aR (bv (dv 2) di) ds) s0)<|s1<|sr<|bi rZ (dv 3) di),?_};refine !!!!{ps,wy,_,r.1,g.1,g.2.1,_,rfl,by rw[zb],hv.len.symm,tN hg hp hw,hv.pv,hk,hv.key,_,rfl,_,rfl,?_};unfold gP Xc at q;change R (.bl<|decide (bM (nH ps wy) ((ps.map λp=>ak cs r.2 p.1)++[.str r.1]) (g.1++[.str g.2.1])<0)||decide (bM (nH ps wy) ((ps.map λp=>ak cs r.2 p.1)++[.str r.1]) (g.1++[.str g.2.1])=0)&&decide (g.2.2 ="behind")) S at q;generalize bM (nH ps wy) _ _=n at q⊢;refine bS (λh=>?_) λh=>?_;have h:n=0:=zG h;subst h;exact !!⟨fo q⟩;have h:¬n=0:=zV h;rw[zA h,zZ,Bool.or_false]at q;exact{_,rfl,fo q}
inductive Cw(S:ao)(cs:wT)(ps:xL)(wy:Str)(l:Addr)(g:uc)(A:At)(m:Nat)(aA:SD)(S':ao):Prop where
 |mk (lo hi:Nat)(o6:wP)(h0:aA=[some<|.tup<|cs.map aB,some<|cN ps wy,some<|.ref l,some<|uN g,some<|.int (lo:Nat),some<|.int (hi:Nat),o6])(h1:S'=S)(h2:m=hi-lo)(h3:lo<=hi)(h4:hi<=A.length)(h5:(∀i a,i<lo->A[i]?=some a->gP cs ps wy g a=true))(h6:(∀i a,hi<=i->A[i]?=some a->gP cs ps wy g a=false)):Cw S cs ps wy l g A m aA S'
inductive lH(ds:wp)(S:ao)(R:KD)(Z:KX):Prop where
 |mk (cs ps wy A l g)(h0:ds=[.tup<|cs.map aB,cN ps wy,.ref l,uN g])(h1:Gd cs)(h2:Pin cs ps)(h3:ps.length<=8)(h4:S l=some (.lst<|A.map ah))(h5:An cs ps wy A)(h6:Gp cs ps g)(h7:R (.int ((A.countP (gP cs ps wy g):Nat):Int)) S)
theorem gp:Ok P w base T.eS 5 lH:=by
 obtain⟨cs,ps,wy,A,l,g,e,hg,hp,h8,hl,hA,hv,q⟩:T.eS.F.bF bW;refine{_,(sc (bP (i:=4) bW.nd di)<|sc (bP (i:=5) bW.nd<|cb aO T.aL aD<|ap 2 an)<|sc (qX<|swh (bn rZ (dv 4)<|dv 5)<|sc (bP (i:=6) bW.nd<|be cg (be bz (dv 4)<|dv 5) di)<|s1<|si (tv<|aP T.sN (Bn T) hr<|ap 1<|ac (aP T.jN (j_ T) hr<|ap 0<|ap 1<|ac (bv (dv 2)<|dv 6) an)<|ap 3 an) (s1<|bP (i:=4) bW.nd<|be bz (dv 6) di)<|s1<|bP (i:=5) bW.nd<|dv 6)<|s1<|sr<|dv 4),?_};refine !!⟨.inl {_,hl,?_}⟩;rw[zb];refine{λaA S'=>∃(o6:wP),aA=[some<|.tup<|cs.map aB,some<|cN ps wy,some<|.ref l,some<|uN g,some<|.int ((A.countP (gP cs ps wy g):Nat):Int),some<|.int ((A.countP (gP cs ps wy g):Nat):Int),o6]/\S'=S,?_,?_};refine{Cw S cs ps wy l g A,{_,0,A.length,none,rfl,rfl,rfl,zU _,zq _,λi a h=>absurd h<|Nat.not_lt_zero _,λi a h e=>?_},?_};rw[List.getElem?_eq_none h]at e;cases e;rintro m aA S' ⟨lo,hi,o6,rfl,rfl,rfl,h1,h2,b1,b2⟩;refine !!!⟨bS (λh=>?_) λh=>?_⟩;have h:lo<hi:=by have:=zG h;lia
 have hm:(lo+hi)/2<A.length:=by lia
 have em:=ze hm;generalize A[(lo+hi)/2]=r at em;have Hm:=zy em;have ed:(((lo:Nat):Int)+((hi:Nat):Int))/2=(((lo+hi)/2:Nat):Int):=by lia
 have mono:=hA.mono hg hp hv;refine !!⟨{by decide,by decide},?_⟩;rw[ed];refine !!!!!{_,ah r,hl,bu<|by rw[zi,em];rfl,cs,ps,wy,r,rfl,hg,hp,h8,hA.rg.1 r Hm,_,rfl,cs,ps,wy,r,g,rfl,hg,hp,hA.rg.1 r Hm,hA.ky r Hm,hv,_,rfl,bS (λz=>?_) λz=>?_};refine !{hi-((lo+hi)/2+1),by lia,(lo+hi)/2+1,hi,_,rfl,rfl,rfl,by lia,h2,λi a Wa ei=>?_,b2};rcases Nat.lt_or_ge i ((lo+hi)/2) with dY|Ru;exact List.pairwise_iff_getElem.mp mono i _ (zg.mp ei).1 hm dY |> λk=>by rw[(zg.mp ei).2,(zg.mp em).2]at k;exact k z
 have:i=(lo+hi)/2:=by lia
 subst this;rw[em]at ei;cases ei;exact z;refine !{(lo+hi)/2-lo,by lia,lo,(lo+hi)/2,_,rfl,rfl,rfl,by lia,by lia,b1,λi a Wa ei=>?_};rcases Nat.lt_or_ge ((lo+hi)/2) i with dY|Ru;cases qa:gP cs ps wy g a with|false=>rfl|true=>have k:=List.pairwise_iff_getElem.mp mono _ i hm (zg.mp ei).1 dY;rw[(zg.mp ei).2,(zg.mp em).2]at k;exact tf (k qa) z
 have:i=(lo+hi)/2:=by lia
 subst this;rw[em]at ei;cases ei;exact z;have h:lo=hi:=by have:=zV h;lia
 subst h;have:=D4 (hA.mono hg hp hv) h2 b1 b2;subst this;exact fo !⟨rfl⟩;rintro aA S' ⟨o6,rfl,rfl⟩;exact{_,rfl,fo q}
noncomputable def seg{α:Type}(A:List α)(b e:Nat):List α:=(A.drop b).take<|e-b
theorem xJ(h:b<=e)(h2:e<=A.length):(seg A b e).length=e-b:=by unfold seg;rw[yi,List.length_drop];omega
theorem rq(h:i<e-b):(seg A b e)[i]?=A[b+i]?:=by unfold seg;rw[List.getElem?_take,if_pos h,List.getElem?_drop]
theorem NR(h:b<=e)(h2:e<=A.length):dh (A.map ah) (some ((b:Nat):Int)) (some ((e:Nat):Int))=(seg A b e).map ah:=by unfold dh seg;rw[HT.sIx_nat,HT.sIx_nat,zb,Nat.min_eq_left h2,Nat.min_eq_left<|zJ h h2,List.map_take,List.map_drop]
noncomputable def xK(p:Addr)(b c:Nat):D:=.tup [.ref p,.int (b:Nat),.int (c:Nat)]
noncomputable def LM(cs:wT)(ps:xL)(wy:Str)(A:At)(n:Nat):Option uc->Nat|none=>n|some g=>A.countP<|gP cs ps wy g
structure FD(cs:wT)(ps:xL)(wy:Str)(n:Nat)(d:D)(rows A:At):Prop where
 an:An cs ps wy A
 pm:A.Perm (rows.filter λr=>bh cs r n d)
theorem FD.one(hg:Gd cs)(hp:Pin cs ps)(h:FD cs ps wy n d rows A)(h':FD cs ps wy n d rows A'):A=A':=NC hg hp h'.an.rg h.an.pw h'.an.pw<|h.pm.trans h'.pm.symm
def FE(rows:At):Prop:=∀r∈rows,r.1∈KS
theorem tT{cs:wT}{ps:xL}{wy:Str}{n:Nat}{d:D}{rows A:At}(hr:Rg cs rows)(hk:FE rows)(pm:A.Perm<|rows.filter λr=>bh cs r n d)(pw:A.Pairwise λa b=>bJ cs wy ps a b=true):FD cs ps wy n d rows A:={{(hr.sub yy).perm pm,λr h=>hk r (yF.mp<|pm.mem_iff.mp h).1,pw},pm}
noncomputable def Bo(A:At)(b n:Nat):Nat:=min (b+n) A.length
inductive NS(t:eZ)(f:List (Str×Str)->List Part->Str->List Row->Option uc->Nat->Nat×Nat)(ds:wp)(S:ao)(R:KD)(Z:KX):Prop where
 |mk (a:Addr)(cs:wT)(ps:xL)(wy:Str)(d m:D)(n:Nat)(b:AC)(rows:At)(h0:ds=[.ref a,cN ps wy,d,.int (n:Nat),NQ b,m])(h1:Gd cs)(h2:Og cs ps wy)(h3:Sq cs d)(h4:1<=n)(h5:n<=1000)(h6:Bg cs ps b)(h7:Vw t.aq S a cs m rows)(h8:FE rows)(h9:Tb t S)(ha:∀(A:At)(p:Addr),FD cs ps wy 7 d rows A->S p=none->R (xK p (f cs ps wy A b n).1<|A.length-(f cs ps wy A b n).2) (S.set p<|.lst<|(seg A (f cs ps wy A b n).1 (f cs ps wy A b n).2).map ah))
noncomputable def Xg(cs:wT)(ps:xL)(wy:Str)(A:At)(b:AC)(n:Nat):Nat×Nat:=(LM cs ps wy A 0 b,Bo A (LM cs ps wy A 0 b) n)
noncomputable def Xh(cs:wT)(ps:xL)(wy:Str)(A:At)(b:AC)(n:Nat):Nat×Nat:=(LM cs ps wy A A.length b-n,LM cs ps wy A A.length b)
theorem FF{S:ao}{p q:Addr}{c e:Ce}(h:S q=none)(hp:S p=none)(hn:q≠p):Sub (S.set q e) ((S.set p c).set q e):=λb x hb=>by by_cases z:b=q;subst z;rw[aa]at hb⊢;exact hb;rw[ae z]at hb⊢;rw[ae<|gA hb hp];exact hb
inductive Xi(t:eZ)(ds:wp)(S:ao)(R:KD)(Z:KX):Prop where
 |mk (a:Addr)(cs:wT)(ps:xL)(wy:Str)(d m:D)(f g:AC)(rows:At)(h0:ds=[.ref a,cN ps wy,d,NQ f,NQ g,m])(h1:Gd cs)(h2:Og cs ps wy)(h3:Sq cs d)(h4:Bg cs ps f)(h5:Bg cs ps g)(h6:Vw t.aq S a cs m rows)(h7:FE rows)(h8:Tb t S)(h9:∀(A:At)(p:Addr),FD cs ps wy 7 d rows A->S p=none->R (.ref p) (S.set p<|.lst<|dh (A.map ah) (some ((LM cs ps wy A 0 f:Nat):Int))<|some ((LM cs ps wy A A.length g:Nat):Int)))
inductive ke(ds:wp)(S:ao)(R:KD)(Z:KX):Prop where
 |mk (l:Addr)(A:At)(b e:Nat)(h0:ds=[.ref l,.int (b:Nat),.int (e:Nat)])(h1:S l=some (.lst<|A.map ah))(h2:b<=e)(h3:e<=A.length)(h4:∀p,S p=none->R (xK p b<|A.length-e) (S.set p<|.lst<|(seg A b e).map ah))
theorem jj:Ok P w base T.ft 1 ke:=by refine T.ft.F.bF qz ?_;rintro _ _ _ _ _ _ _ S R Z hr ⟨l,A,b,e,e0,hl,h1,h2,q⟩;subst e0;refine{_,(s1<|sr<|cQ<|ac (WL (dv 0) (o1<|dv 1)<|o1<|dv 2)<|ap 1<|ac (bo kZ hr.u (cb aO T.aL aD<|ap 0 an)<|dv 2) an),?_};refine !!!!!{_,hl,λp hp=>?_};rw[NR h1 h2];refine !!!⟨.inl {_,(Sub.new hp) _ _ hl,_,rfl,uH,?_}⟩;rw[zb,show((A.length:Nat):Int)-((e:Nat):Int)=((A.length-e:Nat):Int) by omega];exact fo<|q p hp
inductive qd(ds:wp)(S:ao)(R:KD)(Z:KX):Prop where
 |mk (l:Addr)(A:At)(b n:Nat)(h0:ds=[.ref l,.int (b:Nat),.int (n:Nat)])(h1:S l=some (.lst<|A.map ah))(h2:b<=A.length)(h3:∀p,S p=none->R (xK p b<|A.length-Bo A b n) (S.set p<|.lst<|(seg A b<|Bo A b n).map ah))
theorem nK:Ok P w base T.kx 2 qd:=by
 refine T.kx.F.bF xf ?_;rintro _ _ _ _ _ _ _ S R Z hr ⟨l,A,b,n,e0,hl,h1,q⟩;subst e0;refine{_,(s1<|sr<|aP T.ft (jj T) hr<|ap 0<|ap 1<|ac (cb OJ T.O9 Jh<|ac (bo bz hr.u (dv 1)<|dv 2)<|ac (cb aO T.aL aD<|ap 0 an) an) an),?_};refine !!!!!!⟨.inl {_,hl,_,_,rfl,?_}⟩;rw[zb];have e1:(if decide (((A.length:Nat):Int)<((b:Nat):Int)+((n:Nat):Int))=true then ((A.length:Nat):Int) else ((b:Nat):Int)+((n:Nat):Int))=((Bo A b n:Nat):Int):=by unfold Bo;by_cases h:((A.length:Nat):Int)<((b:Nat):Int)+((n:Nat):Int);rw[if_pos<|zu h];omega;rw[if_neg<|by rw[zA h];exact zd];omega
 rw[e1];exact{l,A,b,Bo A b n,rfl,hl,by unfold Bo;omega,by unfold Bo;omega,λp hp=>fo<|q p hp}
inductive nL(ds:wp)(S:ao)(R:KD)(Z:KX):Prop where
 |mk (l:Addr)(A:At)(e n:Nat)(h0:ds=[.ref l,.int (e:Nat),.int (n:Nat)])(h1:S l=some (.lst<|A.map ah))(h2:e<=A.length)(h3:∀p,S p=none->R (xK p (e-n)<|A.length-e) (S.set p<|.lst<|(seg A (e-n) e).map ah))
theorem lI:Ok P w base T.iO 2 nL:=by
 refine T.iO.F.bF uC ?_;rintro _ _ _ _ _ _ _ S R Z hr ⟨l,A,e,n,e0,hl,h1,q⟩;subst e0;refine{_,(s1<|sr<|aP T.ft (jj T) hr<|ap 0<|ac (cb VX T.WS RJ<|ac (bo kZ hr.u (dv 1)<|dv 2)<|ac di an)<|ap 1 an),?_};refine !!!{_,_,rfl,?_};have e1:(if decide (((e:Nat):Int)-((n:Nat):Int)<0)=true then (0:Int) else ((e:Nat):Int)-((n:Nat):Int))=((e-n:Nat):Int):=by by_cases h:((e:Nat):Int)-((n:Nat):Int)<0;rw[if_pos<|zu h];omega;rw[if_neg<|by rw[zA h];exact zd];omega
 rw[e1];exact !{l,A,e-n,e,rfl,hl,Nat.sub_le _ _,h1,λp hp=>fo<|q p hp}
inductive K2(f:List (Str×Str)->List Part->Str->List Row->Option uc->Nat->Nat×Nat)(ds:wp)(S:ao)(R:KD)(Z:KX):Prop where
 |mk (cs:wT)(ps:xL)(wy:Str)(l:Addr)(A:At)(n:Nat)(b:AC)(h0:ds=[.tup<|cs.map aB,cN ps wy,.ref l,.int (n:Nat),NQ b])(h1:Gd cs)(h2:Pin cs ps)(h3:ps.length<=8)(h4:S l=some (.lst<|A.map ah))(h5:An cs ps wy A)(h6:Bg cs ps b)(h7:∀p,S p=none->R (xK p (f cs ps wy A b n).1<|A.length-(f cs ps wy A b n).2) (S.set p<|.lst<|(seg A (f cs ps wy A b n).1 (f cs ps wy A b n).2).map ah))
theorem uO:Ok P w base T.l6 6 (K2 Xg):=by refine T.l6.F.bF k_ ?_;rintro _ _ _ _ _ _ _ S R Z hr ⟨cs,ps,wy,l,A,n,b,e0,hg,hp,h8,hl,hA,hb,q⟩;subst e0;refine{_,(sc (bP (i:=5) k_.nd<|Q8 (a_ fm hr.u (dv 4) dn) di<|aP T.eS (gp T) hr<|ap 0<|ap 1<|ap 2<|ap 4 an)<|s1<|sr<|aP T.kx (nK T) hr<|ap 2<|ap 5<|ap 3 an),?_};cases b with|none=>exact (!!⟨dJ !!!{l,A,0,n,rfl,hl,zU _,λp hp=>fo<|q p hp}⟩)|some g=>exact !!⟨aX !!!!{cs,ps,wy,A,l,g,rfl,hg,hp,h8,hl,hA,hb g rfl,_,rfl,_,rfl,_,rfl,l,A,_,n,rfl,hl,List.countP_le_length,λp hp=>fo<|q p hp}⟩
theorem qF:Ok P w base T.iN 6 (K2 Xh):=by refine T.iN.F.bF jc ?_;rintro _ _ _ _ _ _ _ S R Z hr ⟨cs,ps,wy,l,A,n,b,e0,hg,hp,h8,hl,hA,hb,q⟩;subst e0;refine{_,(sc (bP (i:=5) jc.nd<|Q8 (a_ fm hr.u (dv 4) dn) (cb aO T.aL aD<|ap 2 an)<|aP T.eS (gp T) hr<|ap 0<|ap 1<|ap 2<|ap 4 an)<|s1<|sr<|aP T.iO (lI T) hr<|ap 2<|ap 5<|ap 3 an),?_};cases b with|none=>refine !!⟨dJ !!⟨.inl {_,hl,?_}⟩⟩;rw[zb];exact (!!!{l,A,A.length,n,rfl,hl,zq _,λp hp=>fo<|q p hp})|some g=>exact !!⟨aX !!!!{cs,ps,wy,A,l,g,rfl,hg,hp,h8,hl,hA,hb g rfl,_,rfl,_,rfl,_,rfl,l,A,_,n,rfl,hl,List.countP_le_length,λp hp=>fo<|q p hp}⟩
theorem D_(B:Bm mg base):Ok P w base T.wH 13 (NS t Xg):=by
 refine T.wH.F.bF Dm ?_;rintro _ _ _ _ _ _ _ S R Z hr ⟨a,cs,ps,wy,d,m,n,b,rows,e0,hg,ho,hd,h1,h2,hb,hv,hk,ht,q⟩;subst e0;obtain⟨F,dl,rs,hS,hn,Yz,YA⟩:=hv.sh;obtain⟨ld,lr,ra,h,_⟩:=id hS;refine{_,(sc (se<|aP T.iP (lG T) hr<|ac (fJ (dv 0) T.aj T.az (aM T) hr)<|ap 1<|ap 2<|ap 3<|ap 4 an)<|s1<|sr<|aP T.l6 (uO T) hr<|ac (fJ (dv 0) T.aj T.az (aM T) hr)<|ap 1<|ac (aP T.bV (cE T B) hr<|ap 0<|ap 1<|ap 2<|ap 5 an)<|ap 3<|ap 4 an),?_};refine !{a,_,rfl,h.ins,rfl,a,F,cs,dl,rs,rfl,hS,_,rfl,_,rfl,_,rfl,_,rfl,cs,ps,wy,d,n,b,rfl,hg,ho,hd,by omega,by omega,hb,?_};refine !{a,_,rfl,h.ins,rfl,a,F,cs,dl,rs,rfl,hS,_,rfl,_,rfl,_,rfl,_,rfl,_,rfl,a,cs,ps,wy,d,m,rows,rfl,hg,ho,hd,hv,ht,λA l pm pw hl=>?_};have an:=tT hv.rg hk pm pw;refine !!{cs,ps,wy,l,A,n,b,rfl,hg,ho.pin,ho.len,aa,an.an,hb,λp hp=>?_};have dG:p≠l:=λe=>by rw[e,aa]at hp;cases hp
 have BS:S p=none:=by rw[ae dG]at hp;exact hp
 exact{_,FF BS hl dG,q A p an BS}
theorem xM(B:Bm mg base):Ok P w base T.oA 13 (NS t Xh):=by
 refine T.oA.F.bF xc ?_;rintro _ _ _ _ _ _ _ S R Z hr ⟨a,cs,ps,wy,d,m,n,b,rows,e0,hg,ho,hd,h1,h2,hb,hv,hk,ht,q⟩;subst e0;obtain⟨F,dl,rs,hS,hn,Yz,YA⟩:=hv.sh;obtain⟨ld,lr,ra,h,_⟩:=id hS;refine{_,(sc (se<|aP T.iP (lG T) hr<|ac (fJ (dv 0) T.aj T.az (aM T) hr)<|ap 1<|ap 2<|ap 3<|ap 4 an)<|s1<|sr<|aP T.iN (qF T) hr<|ac (fJ (dv 0) T.aj T.az (aM T) hr)<|ap 1<|ac (aP T.bV (cE T B) hr<|ap 0<|ap 1<|ap 2<|ap 5 an)<|ap 3<|ap 4 an),?_};refine !{a,_,rfl,h.ins,rfl,a,F,cs,dl,rs,rfl,hS,_,rfl,_,rfl,_,rfl,_,rfl,cs,ps,wy,d,n,b,rfl,hg,ho,hd,by omega,by omega,hb,?_};refine !{a,_,rfl,h.ins,rfl,a,F,cs,dl,rs,rfl,hS,_,rfl,_,rfl,_,rfl,_,rfl,_,rfl,a,cs,ps,wy,d,m,rows,rfl,hg,ho,hd,hv,ht,λA l pm pw hl=>?_};have an:=tT hv.rg hk pm pw;refine !!{cs,ps,wy,l,A,n,b,rfl,hg,ho.pin,ho.len,aa,an.an,hb,λp hp=>?_};have dG:p≠l:=λe=>by rw[e,aa]at hp;cases hp
 have BS:S p=none:=by rw[ae dG]at hp;exact hp
 exact{_,FF BS hl dG,q A p an BS}
structure Qs(t:eZ)(S:ao)(a:Addr)(cs:wT)(ps:xL)(wy:Str)(d m:D)(rows:At):Prop where
 g:Gd cs
 o:Og cs ps wy
 s:Sq cs d
 v:Vw t.aq S a cs m rows
 k:FE rows
 t:Tb t S
theorem Qs.sub{t:eZ}{S S':ao}{a:Addr}{cs:wT}{ps:xL}{wy:Str}{d m:D}{rows:At}(h:Qs t S a cs ps wy d m rows)(b:Sub S S'):Qs t S' a cs ps wy d m rows:={h.g,h.o,h.s,h.v.sub b,h.k,h.t.sub b}
section
variable{t:eZ}{S:ao}{a:Addr}{cs:wT}{ps:xL}{wy:Str}{d m:D}{rows:At}{R:KD}{Z:KX}(hq:Qs t S a cs ps wy d m rows)
include hq
theorem Qs.pg(b:AC)(h1:1<=n)(h2:n<=1000)(hb:Bg cs ps b)(k:∀(A:At)(p:Addr),FD cs ps wy 7 d rows A->S p=none->R (xK p (f cs ps wy A b n).1<|A.length-(f cs ps wy A b n).2) (S.set p<|.lst<|(seg A (f cs ps wy A b n).1 (f cs ps wy A b n).2).map ah)):W (NS t f) [.ref a,cN ps wy,d,.int (n:Nat),NQ b,m] S R Z:=⟨a,cs,ps,wy,d,m,n,b,rows,rfl,hq.g,hq.o,hq.s,h1,h2,hb,hq.v,hq.k,hq.t,k⟩
end
theorem nM(hr:Rg cs rows)(hk:FE rows):∀d∈rows.map ah,Ly S 60 d:=λd hd=>by obtain⟨r,h,rfl⟩:=zh.mp hd;exact Sw (hk r h)<|hr.1 r h
noncomputable def HF(cs:wT)(ps:xL)(sd:Str)(r:Row):uc:=(ps.map λp=>ak cs r.2 p.1,r.1,sd)
theorem pd{cs:wT}(hg:Gd cs){ps:xL}(hp:Pin cs ps){r:Row}(hw:Wg cs r.2)(hk:r.1∈KS){sd:Str}(hs:FA sd=true):Gp cs ps (HF cs ps sd r):={tN hg hp hw,hk,hs}
inductive vR(ds:wp)(S:ao)(R:KD)(Z:KX):Prop where
 |mk (cs:wT)(ps:xL)(wy:Str)(p:Addr)(rows:At)(b c:Nat)(h0:ds=[.tup<|cs.map aB,cN ps wy,xK p b c])(h1:Gd cs)(h2:Pin cs ps)(h3:ps.length<=8)(h4:S p=some (.lst<|rows.map ah))(h5:(∀r∈rows,Wg cs r.2))(h6:(rows=[]->R .av S))(h7:∀r0 r1,rows[0]?=some r0->rows[rows.length-1]?=some r1->R (.tup [uN<|HF cs ps "ahead" r0,uN<|HF cs ps "behind" r1]) S)
theorem tU:Ok P w base T.q8 4 vR:=by
 refine T.q8.F.bF sU ?_;rintro _ _ _ _ _ _ _ S R Z hr ⟨cs,ps,wy,p,rows,b,c,e0,hg,hp,h8,hS,hw,q1,q2⟩;subst e0;refine{_,(sc (bP (i:=3) sU.nd<|ix hr.u (dv 2) di)<|sc (si (a_ aR hr.u (cb aO T.aL aD<|ap 3 an) di) (s1<|sr dn) s0)<|s1<|sr<|cQ<|ac (cQ<|ac (aP T.jN (j_ T) hr<|ap 0<|ap 1<|ac (ix hr.u (dv 3) di) an)<|ac ds an)<|ac (cQ<|ac (aP T.jN (j_ T) hr<|ap 0<|ap 1<|ac (ix hr.u (dv 3)<|GL di) an)<|ac ds an) an),?_};refine !!!!⟨.inl {_,hS,_,rfl,?_}⟩;rw[zb];refine bS (λh=>?_) λh=>?_;have h:((rows.length:Nat):Int)=0:=zG h;exact fo<|q1<|List.length_eq_zero_iff.mp (by lia);have h:¬((rows.length:Nat):Int)=0:=zV h;have h0:0<rows.length:=by lia
 have hl:rows.length-1<rows.length:=by lia
 have e0:=ze h0;have e1:=ze hl;generalize rows[0]=r0 at e0;generalize rows[rows.length-1]=r1 at e1;have w0:=hw r0<|zy e0;have w1:=hw r1<|zy e1;have ea:gZ (rows.map ah) (-1)=some (ah r1):=by unfold gZ IC;rw[zb,if_neg<|by decide,if_pos<|by lia,show((-1:Int)+((rows.length:Nat):Int)).toNat=rows.length-1 by lia];show(rows.map ah)[rows.length-1]?=_;rw[zi,e1];rfl
 refine !!!{_,ah r0,hS,bu (j:=0)<|by rw[zi,e0];rfl,cs,ps,wy,r0,rfl,hg,hp,h8,w0,cX,?_};refine !!!!{_,ah r1,hS,ea,cs,ps,wy,r1,rfl,hg,hp,h8,w1,cX,cX,?_};exact fo<|q2 r0 r1 e0 e1
theorem Ea(x:Str)(n:Nat):(PySem.Txt.slice x none<|some (n:Int)).cps.toList=x.cps.toList.take n:=by
 have e1:PySem.Builtin.Str.strSliceIndices none (some (n:Int)) 1 x.length=PySem.Builtin.Str.strSliceIndices (some ((0:Nat):Int)) (some ((min n x.length:Nat):Int)) 1 x.length:=by unfold PySem.Builtin.Str.strSliceIndices;have h1:((1:Int)>0)=True:=(by simp);simp only[h1,if_true];have a1:¬((n:Int)<0):=(by lia);have a2:¬(((min n x.length:Nat):Int)<0):=(by lia);have a3:¬(((0:Nat):Int)<0):=(by lia);simp only[a1,a2,a3,if_false];have b1:max 0 (min ((0:Nat):Int) (x.length:Int))=0:=(by lia);have b2:max 0 (min (n:Int) (x.length:Int))=max 0 (min ((min n x.length:Nat):Int) (x.length:Int)):=(by lia);rw[b1,b2]
 have e2:(PySem.Builtin.Str.strSliceIndices none (some (n:Int)) 1 x.length).filterMap (x.cps[·]?)=x.cps.toList.take n:=by rw[e1,StrLaws.sliced_plain x (zU _)<|Nat.min_le_right _ _,List.drop_zero,Nat.sub_zero];by_cases h:n<=x.length;rw[Nat.min_eq_left h];have hl:x.cps.toList.length=x.length:=ya;rw[Nat.min_eq_right<|by lia,List.take_of_length_le<|by lia,List.take_of_length_le<|by lia]
 unfold PySem.Txt.slice;split;{next h=>simp only[zI,beq_iff_eq]at h;rw[e1,StrLaws.strSliceIndices_plain (zU _)<|Nat.min_le_right _ _,zb,List.length_range]at h;have hl:x.cps.toList.length=x.length:=ya;rw[List.take_of_length_le<|by lia]};rw[e2]
theorem xN(x y:Str):decide (PySem.Txt.slice x none (some ((y.length:Nat):Int))=y)=PySem.Txt.startswith x y:=by unfold PySem.Txt.startswith;rw[StrLaws.subAt_eq,List.drop_zero,Nat.zero_add,yk];simp only[decide_eq_true_iff,zI,beq_iff_eq];have hs:=Ea x y.length;constructor;intro h;rw[h]at hs;have hl:x.cps.toList.length=x.length:=ya;have II:y.cps.toList.length=y.length:=ya;refine{?_,hs.symm};have:=congrArg List.length hs;rw[yi]at this;lia;rintro⟨_,h⟩;rw[h]at hs;obtain⟨a⟩:=y;generalize hz:PySem.Txt.slice x none _=z at hs⊢;obtain⟨b⟩:=z;exact congrArg Str.mk<|Array.ext' hs
theorem K3(hg:Gd cs)(hc:c∈cs):((cs.map Prod.fst).map D.str).all jB=true/\(∃z,((cs.map Prod.fst).map D.str)[Kt cs c.1]?=some z/\eqV (kJ z) (kJ<|.str c.1)=true)/\∀m u,m<Kt cs c.1->((cs.map Prod.fst).map D.str)[m]?=some u->eqV (kJ u) (kJ<|.str c.1)=false:=by obtain⟨n1,n2⟩:=tH hg hc;refine{?_,{.str c.1,by rw[zi,n2];rfl,by show(c.1==c.1)=true;simp},?_};rw[List.all_map];exact z0.mpr λ_ _=>rfl;intro m u hm hu;rw[zi]at hu;cases e:(cs.map Prod.fst)[m]? with|none=>(rw[e]at hu;cases hu)|some z'=>rw[e]at hu;cases hu;show(z'==c.1)=false;have:z'≠c.1:=λq=>(by subst q;obtain⟨b1,c1⟩:=zg.mp e;obtain⟨b2,c2⟩:=zg.mp n2;have:=(List.getElem_inj hg.2.1 (h₀:=b1) (h₁:=b2)).mp<|c1.trans c2.symm;lia);simpa using this
noncomputable def HG:D->D|.tup (x::_)=>x|_=>.av
theorem Bp(cs:wT):(cs.map aB).map HG=(cs.map Prod.fst).map D.str:=by rw[zt,zt];rfl
theorem mm(T:Txt w K mg t):∀n,Ok P w base T.ib (3+n) (DN n)
 |0=>by refine T.ib.F.ok (k:=2) eT (by rintro ds S R Z ⟨_,_,_,e,_⟩;rw[e];rfl) (by rintro gy A outer s H E ds S R Z hr ⟨cs,d,r,e,hg,hs,_⟩;exact hs.elim)
 |n+1=>by
  refine T.ib.F.ok (k:=3+n) eT (by rintro ds S R Z ⟨_,_,_,e,_⟩;rw[e];rfl) ?_;rintro gy A outer s H E ds S R Z hr ⟨cs,d,r,e,hg,hs,hw,q⟩;subst e;have n2:=cX;refine{_,(sc (bP (i:=3) eT.nd<|ix hr.u (dv 1) di)<|sc (si (a_ aR hr.u (dv 3) ds) (s1<|sr db) s0)<|sc (si (a_ aR hr.u (dv 3) ds) (s1<|sr<|cm wg hr.u (ix hr.u (dv 2) di)<|ix hr.u (dv 1) di) s0)<|sc (si (a_ aR hr.u (dv 3) ds) (s1<|sr<|Q7<|aP T.ib (mm T n) hr<|ap 0<|ac (ix hr.u (dv 1) di)<|ap 2 an) s0)<|sc (si (a_ wg hr.u (dv 3)<|cQ<|ac ds<|ac ds an) (sc (AI (N:=["_law_one","_law_columns_here","_law_row"]) (src:=[none,some 0,some 2]) 4 eT.nd (km sD) (HZ<|ix hr.u (dv 1) di) nW<|aP T.ib (mm T n) hr<|ap 1<|ap 0<|ap 2 an)<|s1<|sr<|wq<|ix hr.u (b_<|ac (cb OI T.O7 IZ<|ap 4 an)<|ac (cb i9 T.ja e_<|ap 4 an) an)<|ct EK T.AS rO<|ac (cm aR hr.u (dv 3) ds) an) s0)<|sc (bP (i:=5) eT.nd<|ix hr.u (ix hr.u (dv 2) di)<|bm zM PySem.F.slot_list_index PySem.F.type_list_index r_ (TN (N:=["_law_name","_law_kind"]) (src:=[none,none]) (km sD) (HZ<|dv 0) (Wh<|show(["_law_name","_law_kind"]:lc).Nodup by trivial) (mH rfl rfl) mP (λ_ _ _ _ _=>nW) λ_ _ _ _ _=>(dv 0))<|ac (ix hr.u (dv 1) di) an)<|sc (si (twd<|twor (a_ aR hr.u (dv 3) ds)<|tw1<|a_ fm hr.u (dv 5) dn) (s1<|sr<|qt (cm aR hr.u (dv 3) ds)<|HW<|cm aR hr.u (dv 5)<|ix hr.u (dv 1) di) s0)<|sc (si (a_ aR hr.u (dv 3) ds) (s1<|sr<|cm aR hr.u (sl (dv 5) o0<|o1<|cb aO T.aL aD<|ac (ix hr.u (dv 1) di) an)<|ix hr.u (dv 1) di) s0)<|s1<|sr<|wq<|ix hr.u (b_<|ac (cm qu hr.u (dv 5)<|ix hr.u (dv 1) di)<|ac (cm rZ hr.u (dv 5)<|ix hr.u (dv 1) di) an)<|ct EK T.AS rO<|ac (cm aR hr.u (dv 3) ds) an),?_};rcases hs with (rfl|⟨ks,rfl,hk8,BP⟩|⟨o,c,v,hc,hv,ho,rfl⟩)|⟨e,rfl,he⟩|⟨o,es,ho,rfl,LK,Vu⟩;exact !!!!⟨k7<|fo q⟩;refine !!!!⟨cu ?_⟩;refine !!⟨k7 !!!!{rfl,?_,?_}⟩;rw[List.all_map];exact z0.mpr λ_ _=>rfl;rw[Bb]at q;exact fo q;rw[Pl]at q;obtain⟨Ue,Ug⟩:=kC hg hw hc;unfold Ba at q;have four:o ="is"\/(o ="below"\/o ="above"\/o ="begins"):=by rcases ho with h|⟨_,h|h|⟨h,_⟩⟩;exact .inl h;exact .inr<|.inl h;exact .inr<|.inr<|.inl h;exact .inr<|.inr<|.inr h
  have pU:decide (o ="every")=false/\decide (o ="key")=false/\decide (o ="not")=false/\Ci (.str o) [.str "and",.str "or"]=false:=by rcases four with rfl|rfl|rfl|rfl<;>decide +kernel
  refine !!!!⟨kQ pU.1 !!⟨kQ pU.2.1 !!⟨kQ pU.2.2.1 !{n2,rfl,rfl,_,rfl,kQ pU.2.2.2 !!!{_,.inl rfl,?_}}⟩⟩⟩;refine comp_map HG trivial (by show(cs.map aB).length<=1000;rw[zb];have:=hg.1;lia) (λd hd Q hQ=>?_) λp hp=>?_;obtain⟨c,_,rfl⟩:=zh.mp hd;exact !{rfl,_,_,rfl,_,_,rfl,rfl,_,rfl,hQ};rw[show({cs.map aB,λ_=>True}:nV).xs=cs.map aB from rfl,Bp];have sb:=Sub.new (c:=.lst<|(cs.map Prod.fst).map D.str) hp;have my:(S.set p<|.lst<|(cs.map Prod.fst).map D.str) p=some (.lst<|(cs.map Prod.fst).map D.str):=aa;generalize S.set p (.lst<|(cs.map Prod.fst).map D.str)=S1 at sb my⊢;have lx:=K3 hg hc;refine{{rfl,_,my},_,rfl,_,rfl,_,.str c.1,Kt cs c.1,rfl,my,rfl,lx.1,lx.2.1,lx.2.2,_,bu Ue,?_};have fin:∀{b:Bool},R (.bl b) S->Fo S1 (R<|.bl b):=λh=>⟨S,sb,h⟩;rcases ho with rfl|⟨nb,ho⟩;rw[if_pos rfl]at q;exact !!⟨k7 !!⟨k7 !!!⟨nC Ug.2 hv.2<|fin q⟩⟩⟩;have Ma:decide (o ="is")=false:=by rcases ho with rfl|rfl|⟨rfl,_⟩<;>decide +kernel
  rw[if_neg<|zV Ma]at q;refine !!⟨kQ Ma !!⟨bS (λh=>?_) λh=>?_⟩⟩;rw[if_pos h]at q;exact !!⟨kQ Ma<|fin q⟩;rw[if_neg<|by rw[show ag (ak cs r.2 c.1)=false from h];exact zd]at q;rcases ho with rfl|rfl|⟨rfl,hk⟩;rw[if_pos rfl]at q;refine !!⟨cu ?_⟩;rcases mf Ug hv (aV h) nb with⟨i,j,e6,rfl⟩|⟨i,j,e6,rfl⟩<;>rw[e6]at q⊢<;>exact !!!!!!{n2,λp hp=>!⟨.inr !{_,_,aa,(show gZ _ 1=some _ from rfl),_,.new hp,fin q}⟩};rw[if_neg<|by trivial,if_pos rfl]at q;refine !!⟨cu ?_⟩;rcases mf Ug hv (aV h) nb with⟨i,j,e6,rfl⟩|⟨i,j,e6,rfl⟩<;>rw[e6]at q⊢<;>exact !!!!!!{n2,λp hp=>!⟨.inr !{_,_,aa,(show gZ _ 0=some _ from rfl),_,.new hp,fin q}⟩};rw[if_neg<|by trivial,if_neg<|by trivial]at q;have hz:∀z,ak cs r.2 c.1=.str z->z.length<=sizeLine:=λz e=>sm<|(Fi Ug (S:=S)).2 z e;have JG:∀z,v=.str z->z.length<=sizeLine:=λz e=>sm<|(Fi hv (S:=S)).2 z e;rw[hk]at Ug hv;obtain⟨i,e6⟩:=rm Ug<|aV h;obtain⟨j,rfl⟩:=rm hv nb;have hz:=hz i e6;have JG:=JG j rfl;rw[e6]at q⊢;refine !!⟨k7 !!!!{JG,_,rfl,hz,_,rfl,_,rfl,?_}⟩;show Fo S1 (R<|.bl<|decide<|PySem.Txt.slice i none (some ((j.length:Nat):Int))=j);rw[xN];exact fin q;rw[Bc]at q;exact !!!!⟨cu !!⟨cu !!⟨k7 !!!!{cs,e,r,rfl,hg,he,hw,_,rfl,fo q}⟩⟩⟩;have hz:es.length<=1000:=by lia
  have pU:decide (o ="every")=false/\decide (o ="key")=false/\decide (o ="not")=false/\Ci (.str o) [.str "and",.str "or"]=true:=by rcases ho with rfl|rfl<;>decide +kernel
  refine !!!!⟨kQ pU.1 !!⟨kQ pU.2.1 !!⟨kQ pU.2.2.1 !{n2,rfl,rfl,_,rfl,Yw pU.2.2.2 !!{_,.inl rfl,?_}}⟩⟩⟩;refine comp_map (λd=>.bl<|bh cs r n d) trivial hz (λd hd Q hQ=>!!!{cs,d,r,rfl,hg,Vu d hd,hw,hQ}) λp hp=>?_;have em:es.map (λd=>D.bl<|bh cs r n d)=(es.map<|bh cs r n).map D.bl:=by rw[zt];rfl
  rw[show({es,λ_=>True}:nV).xs=es from rfl,em];have Hi:(S.set p<|.lst<|(es.map<|bh cs r n).map D.bl) p=_:=aa;refine !{.ref p,es.map<|bh cs r n,rfl,Hi,_,rfl,.ref p,es.map<|bh cs r n,rfl,Hi,n2,λp2 iu=>?_};rcases ho with rfl|rfl;rw[Bd]at q;refine{_,rfl,.inr !{_,_,aa,(show gZ _ 1=some _ from rfl),S,(Sub.new hp).trans<|.new iu,fo ?_}};show R (.bl<|(es.map<|bh cs r n).all id) S;rw[all_map];exact q;rw[Fl]at q;refine{_,rfl,.inr !{_,_,aa,(show gZ _ 0=some _ from rfl),S,(Sub.new hp).trans<|.new iu,fo ?_}};show R (.bl<|(es.map<|bh cs r n).any id) S;rw[List.any_map];exact q
noncomputable def uP:D->PyData|.int i=>.int i|.str z=>.str z|_=>.none
theorem Sy(hx:bC x=true):Dp S x (uP x)/\(uP x).canLay0=true/\(uP x).depth<=0:=by cases x with|av=>exact{by simp only[Dp,uP],by simp only[uP,PyData.canLay0],by simp only[uP,PyData.depth];lia}|int i=>exact{by simp only[Dp,uP],by simp only[uP,PyData.canLay0],by simp only[uP,PyData.depth];lia}|str z=>refine{by simp only[Dp,uP],?_,by simp only[uP,PyData.depth];lia};unfold bC at hx;simp only[zI]at hx;simp only[uP,PyData.canLay0];exact hx.2|_=>cases hx
theorem xO:∀{xs:wp},(∀x∈xs,bC x=true)->DpAll S xs (xs.map uP)/\PyData.canLayAll0 (xs.map uP)=true/\PyData.depthAll (xs.map uP)<=0|[],_=>{by simp only[yV,DpAll],rfl,zU _}|x::xs,h=>by obtain⟨a,b,c⟩:=Sy (S:=S)<|h x zj;obtain⟨a',b',c'⟩:=xO (S:=S) λy hy=>h y<|zf _ hy;exact{by simp only[zx,DpAll];exact{_,_,rfl,a,a'},by simp only[zx,PyData.canLayAll0,b,b',Bool.and_self],by simp only[zx,PyData.depthAll];lia}
noncomputable def Eb(r:Row):PyData:=.tuple [.str r.1,.tuple<|r.2.map uP]
theorem Sz(hw:Wg cs r.2):Dr S (ah r) (Eb r):=by refine .tup<|.cons (.str _)<|.cons (.tup ?_) .nil;have h:=Wg.all hw;generalize r.2=ws at h;induction ws with|nil=>exact .nil|cons v ws ih=>refine .cons ?_<|ih λd hd=>h d<|zf _ hd;have hv:=h v zj;cases v<;>first|exact .av|exact .int _|exact .str _|cases hv
theorem FG:∀{rows:At},(∀r∈rows,Wg cs r.2)->Ie S (rows.map ah) (rows.map Eb)|[],_=>.nil|r::rows,h=>.cons (Sz<|h r zj)<|FG λx hx=>h x<|zf _ hx
theorem xP(hw:Wg cs r.2)(hk:r.1∈KS):(Eb r).canLay0=true/\(Eb r).depth<=2:=by obtain⟨_,b,c⟩:=xO (S:=λ_=>none)<|Wg.all hw;have z:=(fZ _ hk).2.2;unfold Eb;refine{by simp only[PyData.canLay0,PyData.canLayAll0,z,b,Bool.and_self],?_};simp only[PyData.depth,PyData.depthAll];lia
theorem Bq:∀{rows:At},(∀r∈rows,Wg cs r.2)->FE rows->PyData.canLayAll0 (rows.map Eb)=true/\PyData.depthAll (rows.map Eb)<=2|[],_,_=>{rfl,zU _}|r::rows,h,k=>by obtain⟨a,b⟩:=xP (h r zj)<|k r zj;obtain⟨a',b'⟩:=Bq (λx hx=>h x<|zf _ hx) λx hx=>k x<|zf _ hx;exact{by simp only[zx,PyData.canLayAll0,a,a',Bool.and_self],by simp only[zx,PyData.depthAll];lia}
theorem iZ(h:r∈seg A b e):r∈A:=List.mem_of_mem_drop<|List.mem_of_mem_take h
noncomputable def Xj(A:At)(b e:Nat):PyData:=.tuple [.list<|(seg A b e).map Eb,.int (b:Nat),.int<|(A.length-e:Nat)]
theorem K4(hw:∀r∈A,Wg cs r.2)(h:S p=some (.lst<|(seg A b e).map ah)):Dr S (xK p b<|A.length-e) (Xj A b e):=.tup<|.cons (.ref h<|FG λr hr=>hw r<|iZ hr)<|.cons (.int _)<|.cons (.int _) .nil
theorem Ec(hw:∀r∈A,Wg cs r.2)(hk:FE A):(Xj A b e).canLay0=true/\(Xj A b e).depth<=4:=by obtain⟨a,c⟩:=Bq (rows:=seg A b e) (λr hr=>hw r<|iZ hr) λr hr=>hk r<|iZ hr;unfold Xj;refine{by simp only[PyData.canLay0,PyData.canLayAll0,a,Bool.and_self],?_};simp only[PyData.depth,PyData.depthAll];lia
noncomputable def Ed:List D->List D->Bool|[],[]=>true|x::xs,y::ys=>l_ x y&&Ed xs ys|_,_=>false
theorem xQ:∀{xs ys:wp},(∀x∈xs,bC x=true)->(∀x∈ys,bC x=true)->(Ed xs ys=true↔xs=ys)|[],[],_,_=>by simp[Ed]|[],_::_,_,_=>by simp[Ed]|_::_,[],_,_=>by simp[Ed]|x::xs,y::ys,h,k=>by unfold Ed;rw[zI,aU (h x zj)<|k y zj,xQ (λz hz=>h z<|zf _ hz) λz hz=>k z<|zf _ hz,List.cons.injEq]
theorem SE(hx:bC x=true)(hy:bC y=true):PyData.eqv (uP x) (uP y)=l_ x y:=by rcases fz hx with rfl|⟨i,rfl⟩|⟨i,rfl⟩<;>rcases fz hy with rfl|⟨j,rfl⟩|⟨j,rfl⟩<;>simp only[uP,PyData.eqv,l_]<;>first|rfl|exact beq_eq_decide _ _
theorem FH:∀{xs ys:wp},(∀x∈xs,bC x=true)->(∀x∈ys,bC x=true)->PyData.eqvAll (xs.map uP) (ys.map uP)=Ed xs ys|[],[],_,_=>by simp only[yV,PyData.eqvAll,Ed]|[],y::ys,_,_=>by simp only[yV,zx,PyData.eqvAll,Ed]|x::xs,[],_,_=>by simp only[yV,zx,PyData.eqvAll,Ed]|x::xs,y::ys,h,k=>by have a:=SE (h x zj)<|k y zj;have b:=FH (λz hz=>h z<|zf _ hz) λz hz=>k z<|zf _ hz;simp only[zx,PyData.eqvAll,a,b,Ed]
def Ld(S:ao)(n:Nat)(d:D):Prop:=∃p,Dr S d p/\p.canLay0=true/\p.depth<=n
theorem Ld.all:∀{ds:wp},(∀d∈ds,Ld S n d)->∃ps,Ie S ds ps/\PyData.canLayAll0 ps=true/\PyData.depthAll ps<=n/\ps.length=ds.length|[],_=>{[],.nil,rfl,zU _,rfl}|d::ds,h=>by obtain⟨p,a,b,c⟩:=h d zj;obtain⟨ps,a',b',c',e⟩:=Ld.all λx hx=>h x<|zf _ hx;exact{p::ps,.cons a a',by simp only[PyData.canLayAll0,b,b',Bool.and_self],by simp only[PyData.depthAll];lia,by rw[zQ,zQ,e]}
theorem NT{S:ao}{a b:Addr}{ds:wp}{R:KD}{n:Nat}(e1:S a=some (.lst ds))(e2:S b=some (.lst []))(h:∀d∈ds,Ld S n d){neg:Bool}(q:R (.bl<|if neg then !ds.isEmpty else ds.isEmpty) S):Ys neg (.ref a) (.ref b) S R:=by obtain⟨ps,k1,k2,k3,k4⟩:=Ld.all h;refine{.list ps,.list [],.ref e1 k1,.ref e2 .nil,by simp only[PyData.canLay0];exact k2,by simp only[PyData.canLay0,PyData.canLayAll0],.inr<|by simp only[PyData.depth,PyData.depthAll];lia,?_};rw[tE,show ps.isEmpty=ds.isEmpty by cases ps<;>cases ds<;>first|rfl|cases k4];exact q
inductive Br(ds:wp)(S:ao)(R:KD)(Z:KX):Prop where
 |mk (ps:xL)(wy:Str)(xs:wp)(k:Str)(ys:wp)(l:Str)(ks:lc)(h0:ds=[cN ps wy,D5 xs k,D5 ys l])(h1:ps.length=xs.length)(h2:ps.length=ys.length)(h3:ps.length<=8)(h4:Paired (λk x=>Vg k x) ks xs)(h5:Paired (λk x=>Vg k x) ks ys)(h6:k∈KS)(h7:l∈KS)
  (h8:R (.bl<|decide<|bM (nH ps wy) (xs++[.str k]) (ys++[.str l])<0) S):Br ds S R Z
inductive Plw(S:ao)(ps:xL)(wy:Str)(xs ys:wp)(k l:Str)(j:Int)(aA:SD)(S':ao):Prop where
 |mk (o3 o4 o5 o6 o7 o8:wP)(h0:aA=[some<|cN ps wy,some<|D5 xs k,some<|D5 ys l,o3,o4,o5,o6,o7,o8])(h1:S'=S)(h2:bM (nH ps wy) (xs++[.str k]) (ys++[.str l])=j):Plw S ps wy xs ys k l j aA S'
theorem NU:Ok P w base T.Dc 1 Br:=by
 obtain⟨ps,wy,xs,k,ys,l,ks,e,h1,h2,h8,vx,vy,hk,hl,q⟩:T.Dc.F.bF fC;have dG:(ps.map p3).length=ps.length:=zb _;refine{_,(sc (qX<|GR (LG T.dN<|ac (cb aO T.aL aD<|ac (bv (dv 0) di) an) an) (gn (i:=3) fC.nd)<|sc (sa (bv (bv (dv 0) di)<|dv 3)<|gt (n:=3)<|gc (gn (i:=4) fC.nd)<|gc (gn (i:=5) fC.nd)<|gc (gn (i:=6) fC.nd) g0)<|sc (aa8 (i:=7) (j:=8) fC.nd<|ac (bv (bv (dv 1) di)<|dv 3)<|ac (bv (bv (dv 2) di)<|dv 3) an)<|s1<|si (bn g8 (dv 7)<|dv 8) (sc (si (twd<|twor (bn fm (dv 7) dn)<|tw1<|bn fm (dv 8) dn) (s1<|sr<|bi aR (bi fm (dv 7) dn)<|bi aR (dv 6) ds) s0)<|s1<|sr<|bi aR (bi rZ (dv 7)<|dv 8)<|bi aR (dv 5) ds) s0)<|sc (si (bn aR (bv (dv 1) di)<|bv (dv 2) di) (s1<|sr db) s0)<|s1<|sr<|bi aR (bi rZ (bv (dv 1) di)<|bv (dv 2) di)<|bi aR (bv (dv 0) di) ds),?_};refine{Plw S ps wy xs ys k l<|cV wy "last" (.str k)<|.str l,?_,?_};{refine !!!!{by rw[dG];lia,by rw[dG];lia,?_};refine{λi=>Plw S ps wy xs ys k l<|bM (nH (ps.drop i) wy) (xs.drop i++[.str k])<|ys.drop i++[.str l],{_,_,_,_,_,_,rfl,rfl,rfl},λ_ _ _ _=>trivial,?_,?_};rintro i d aA S' hd ⟨o3,o4,o5,o6,o7,o8,rfl,rfl,he⟩;obtain⟨hi,rfl⟩:=bU hd;have i1:i<ps.length:=(by rw[dG]at hi;lia);have i2:i<xs.length:=(by lia);have i3:i<ys.length:=(by lia);have e1:=ze i1;have e2:=ze i2;have e3:=ze i3;rw[ye i1,ye i2,ye i3]at he;generalize ps[i]=p at e1 he;generalize xs[i]=y at e2 he;generalize ys[i]=z at e3 he;have he:_=if cV p.2.1 p.2.2 y z=0 then bM (nH (ps.drop<|i+1) wy) (xs.drop (i+1)++[.str k]) (ys.drop (i+1)++[.str l]) else cV p.2.1 p.2.2 y z:=he;obtain⟨k1,q1,v1⟩:=cM vx e2;obtain⟨k2,q2,v2⟩:=cM vy e3;cases q1.symm.trans q2;have ez:(0:Int)+((i:Nat):Int)=((i:Nat):Int):=Int.zero_add _;have a1:gZ (ps.map p3) (0+((i:Nat):Int))=some (p3 p):=(by rw[ez];exact bu<|by rw[zi,e1];rfl);have a2:gZ xs (0+((i:Nat):Int))=some y:=(by rw[ez];exact bu e2);have a3:gZ ys (0+((i:Nat):Int))=some z:=(by rw[ez];exact bu e3);refine !!!{_,a1,_,rfl,rfl,_,_,rfl,_,_,rfl,_,_,rfl,rfl,?_};refine !!!{_,a2,_,rfl,_,rfl,_,rfl,_,a3,_,_,rfl,?_};refine !!⟨nC v1.2 v2.2 !⟨bS (λh=>?_) λh=>?_⟩⟩;have h:l_ y z=false:=nt h;have pU:y≠z:=λe=>(by rw[(aU v1.2 v2.2).mpr e]at h;cases h);have hc:cV p.2.1 p.2.2 y z≠0:=λe=>pU<|(ji ⟨k1,v1,v2⟩).mp e;rw[if_neg hc]at he;have hq:R (.bl<|cz ("",p.2.1,p.2.2) y z) S':=(by have:decide (cV p.2.1 p.2.2 y z<0)=cz ("",p.2.1,p.2.2) y z:=(by rw[yk,zR,p7 ⟨k1,v1,v2⟩];exact{λh=>h.2,λh=>⟨pU,h⟩});rw[he,this]at q;exact q);unfold cz at hq;have two:(ag y||ag z)=(ag y != ag z):=(by cases e4:ag y<;>cases e5:ag z<;>first|rfl|(exfalso;exact pU<|(df e4).trans (df e5).symm));refine !{ag y,rfl,KP (ag z) (λh=>!!⟨h⟩) ?_};rw[two];refine bS (λh5=>?_) λh5=>?_;rw[if_pos h5]at hq;exact !!⟨p6<|fo hq⟩;rw[if_neg<|by rw[h5];exact zd]at hq;rw[<-two,Bool.or_eq_false_iff]at h5;rcases mf v1 v2 (aV h5.1) (aV h5.2) with⟨a,b,rfl,rfl⟩|⟨a,b,rfl,rfl⟩;exact !!!⟨p6<|fo hq⟩;exact !!!⟨p6<|fo hq⟩;have h:l_ y z=true:=nf h;rw[if_pos<|(ji ⟨k1,v1,v2⟩).mpr<|(aU v1.2 v2.2).mp h]at he;exact{_,_,_,_,_,_,rfl,rfl,he};{rintro aA S' ⟨o3,o4,o5,o6,o7,o8,rfl,rfl,he⟩;have he:_=bM (nH (ps.drop (cR 0 (((ps.map p3).length:Nat):Int).toNat).length) wy) (xs.drop (cR 0 (((ps.map p3).length:Nat):Int).toNat).length++[.str k]) (ys.drop (cR 0 (((ps.map p3).length:Nat):Int).toNat).length++[.str l]):=he;rw[bE,dG,show((ps.length:Nat):Int).toNat=ps.length by lia,List.drop_length,h1,List.drop_length,<-h1,h2,List.drop_length]at he;refine fo {_,_,_,_,_,_,rfl,rfl,he.trans ?_};show(if cV wy "last" (.str k) (.str l)=0 then 0 else cV wy "last" (.str k) (.str l))=_;split;{next h=>exact h.symm};rfl}};rintro aA S' ⟨o3,o4,o5,o6,o7,o8,rfl,rfl,he⟩;rw[he]at q;have cm:Cm (.str k) (.str l):={_,lC k hk,lC l hl};refine !!!!!⟨bS (λh=>?_) λh=>?_⟩;have h:k=l:=zG h;rw[(ji cm).mpr<|by rw[h]]at q;exact fo q;have h:¬k=l:=zV h;have pU:D.str k≠.str l:=λe=>h<|D.str.inj e;have e9:decide (cV wy "last" (.str k) (.str l)<0)=(nU k l==decide (wy ="up")):=by rw[yk,zR,p7 cm];exact{λh=>h.2,λh=>⟨pU,h⟩}
 rw[e9]at q;exact !!!!!!⟨p6<|fo q⟩
inductive vS(ds:wp)(S:ao)(R:KD)(Z:KX):Prop where
 |mk (cs ps wy r)(h0:ds=[.tup<|cs.map aB,cN ps wy,ah r])(h1:Gd cs)(h2:Pin cs ps)(h3:ps.length<=8)(h4:Wg cs r.2)(h5:R (D5 (ps.map λp=>ak cs r.2 p.1) r.1) S)
theorem K5:Ok P w base T.wX 1 vS:=by
 obtain⟨cs,ps,wy,r,e,hg,hp,h8,hw,q⟩:T.wX.F.bF sW;refine{_,(sc (bP (i:=3) sW.nd<|TN (N:=["_law_name","_law_kind"]) (src:=[none,none]) (km vo) (HZ<|dv 0) (Wh<|show(["_law_name","_law_kind"]:lc).Nodup by trivial) (mH rfl rfl) mP (λ_ _ _ _ _=>nW) λ_ _ _ _ _=>(dv 0))<|s1<|sr<|cQ<|ac (ct iF T.bB bf<|ac (sA (N:=["_law_part","_law_row","_law_names"]) (src:=[none,some 2,some 3]) (km vo) (HZ<|bv (dv 1) di) nW<|bv (bv (dv 1) di)<|bm zM PySem.F.slot_list_index PySem.F.type_list_index r_ (dv 2)<|ac (bv (dv 0) di) an) an)<|ac (bv (dv 2) di) an),?_};refine !{_,.inl rfl,?_};refine comp_map HG trivial (by show(cs.map aB).length<=1000;rw[zb];have:=hg.1;lia) (λd hd Q hQ=>?_) λpn lq=>?_;obtain⟨c,_,rfl⟩:=zh.mp hd;exact !{rfl,_,_,rfl,_,_,rfl,rfl,_,rfl,hQ};rw[show({cs.map aB,λ_=>True}:nV).xs=cs.map aB from rfl,Bp];have sb:=Sub.new (c:=.lst<|(cs.map Prod.fst).map D.str) lq;have my:(S.set pn<|.lst<|(cs.map Prod.fst).map D.str) pn=some (.lst<|(cs.map Prod.fst).map D.str):=aa;generalize S.set pn (.lst<|(cs.map Prod.fst).map D.str)=S1 at sb my⊢;refine !!{_,.inl rfl,?_};refine comp_map (λd=>match d with|.tup (.str z::_)=>ak cs r.2 z|_=>.av) trivial (by show(ps.map p3).length<=_;rw[zb];lia) (λd hd Q hQ=>?_) λp2 iu=>?_;obtain⟨pt,Xf,rfl⟩:=zh.mp hd;obtain⟨c,hc,ec⟩:=hp pt Xf;have lx:=K3 hg hc;have Ue:=(kC hg hw hc).1;rw[ec]at lx Ue;exact !!!⟨{rfl,_,my},_,rfl,_,rfl,_,.str pt.1,Kt cs pt.1,rfl,my,rfl,lx.1,lx.2.1,lx.2.2,_,bu Ue,hQ⟩;have e3:(ps.map p3).map (λd=>match d with|.tup (.str z::_)=>ak cs r.2 z|_=>.av)=ps.map λp=>ak cs r.2 p.1:=by rw[zt];rfl
 rw[show({ps.map p3,λ_=>True}:nV).xs=ps.map p3 from rfl,e3];exact{_,_,rfl,.inl aa,_,rfl,_,rfl,cX,S,sb.trans<|.new iu,q}
noncomputable def SF(x:Int):ul:=[1,2,3,1+x/6%9,1000,13+x/6%30]
noncomputable def NV(x:Int):Nat:=((SF x).getD (x%6).toNat 1).toNat
theorem K6(h:y∈SF x):1<=y/\y<=1000:=by have a0:0<=x/6%9:=zN _ (by decide);have a1:x/6%9<9:=zL _ (by decide);have b0:0<=x/6%30:=zN _ (by decide);have b1:x/6%30<30:=zL _ (by decide);unfold SF at h;simp only[zk,zO,or_false]at h;rcases h with h|h|h|h|h|h<;>lia
theorem SH(x:Int):1<=NV x/\NV x<=1000:=by
 have h:(x%6).toNat<(SF x).length:=by have:=zN x (show(6:Int)≠0 by decide);have:=zL x (show(0:Int)<6 by decide);show _<6;lia
 have:=K6<|List.getElem_mem h;unfold NV;rw[zB,ze h];show 1<=((SF x)[(x%6).toNat]).toNat/\((SF x)[(x%6).toNat]).toNat<=1000;lia
inductive Bu(ds:wp)(S:ao)(R:KD)(Z:KX):Prop where
 |mk (x:Int)(h0:ds=[.int x])(h1:R (.int (NV x:Nat)) S)
theorem xR:Ok P w base T.sQ 1 Bu:=by
 obtain⟨x,e,q⟩:T.sQ.F.bF Hg;refine{_,(s1<|sr<|wq<|bv (b_<|ac di<|ac di<|ac di<|ac (be bz di<|be bq (be cg (dv 0) di) di)<|ac di<|ac (be bz di<|be bq (be cg (dv 0) di) di) an)<|be bq (dv 0) di),?_};refine{_,rfl,{by decide,by trivial},by decide,_,rfl,{by decide,by trivial},by decide,abc,λp hp=>!{by decide,?_}};obtain⟨v,e1,e2⟩:=qQ (l:=(SF x).map D.int) (i:=x%6) (zN _<|by decide)<|zL _ (by decide);refine{_,v,aa,e1,S,.new hp,?_};rw[zi]at e2;obtain⟨y,ey,rfl⟩:=Option.map_eq_some_iff.mp e2;have hy:=K6<|zy ey;have e3:((NV x:Nat):Int)=y:=by unfold NV;rw[zB,ey];show((y.toNat:Nat):Int)=y;lia
 rw[e3]at q;exact fo q
theorem FI(hg:Gd cs)(hp:Pin cs ps):∀{B:At},Rg cs B->∃A:At,A.Perm B/\A.Pairwise λa b=>bJ cs wy ps a b=true|[],_=>{[],.refl _,.nil}|x::B,hr=>by obtain⟨A,pm,pw⟩:=FI hg hp<|hr.sub<|List.sublist_cons_self x B;have jg:Rg cs (x::A):=hr.perm<|pm.cons x;exact{_,(Kx x A _).trans<|List.perm_append_comm.trans<|pm.cons x,Be hg hp jg pw}
theorem NW(hg:Gd cs)(hp:Pin cs ps)(hr:Rg cs rows)(hk:FE rows):∃A,FD cs ps wy 7 d rows A:=by obtain⟨A,pm,pw⟩:=FI hg hp<|hr.sub yy;exact{A,tT hr hk pm pw}
theorem K7(h:xs.length=10):(dh xs (some 2) none).length=8:=by unfold dh;rw[yi,List.length_drop,show HT.sIx xs.length 0 (some 2)=min 2 xs.length from HT.sIx_nat ..,show HT.sIx xs.length xs.length none=xs.length from rfl,h];rfl
inductive Bx(ds:wp)(S:ao)(R:KD)(Z:KX):Prop where
 |mk (cs:wT)(lk:Addr)(kn:Kn)(c:Int)(h0:ds=[.tup<|cs.map aB,.ref lk,.int c])(h1:Gd cs)(h2:S lk=some (.dM<|j7 kn))(h3:KI cs kn)(h4:∀d rj,GD KS cs kn d->KnD kn d rj->KI cs rj->R d (S.set lk<|.dM<|j7 rj))
theorem K8:Ok P w base T.Dd 3 Bx:=by
 obtain⟨cs,lk,kn,c0,e,hg,hk,hI,q⟩:T.Dd.F.bF ic;have W9:=hg.1;have hkl:=hI.len;refine{_,(sc (bP (i:=3) ic.nd<|aP T.iQ (j6 T) hr<|ap 2<|ac di an)<|sc (bP (i:=4) ic.nd<|aP T.E3 (Ki T) hr<|ac (bv (dv 3) di) an)<|sc (bP (i:=5) ic.nd<|aP T.sP (Hr T) hr<|ap 0<|ac (WL (dv 3) (o1 di) o0) an)<|sc (si (twd<|twand (bn wg (dv 4)<|dv 1)<|tw1<|bn aR (be bq (bv (dv 3) di) di) di) (sc (se<|mp1 (dv 1)<|dv 4)<|s1<|sr<|cQ<|ac ds<|ap 4 an) s0)<|sc (bP (i:=6) ic.nd<|wq<|bv (b_<|ac ds<|ac ds an)<|ct EK T.AS rO<|ac (bi wg (dv 4)<|dv 1) an)<|sc (sd hr.u (dv 1) (dv 4)<|dv 5)<|s1<|sr<|cQ<|ap 6<|ap 4<|ap 5 an),?_};refine !{c0,10,rfl,by decide,λxs lx uM hx uk=>?_};have s1:=Sub.new (c:=.lst<|xs.map D.int) uk;have hX:(S.set lx<|.lst<|xs.map D.int) lx=some (.lst<|xs.map D.int):=aa;generalize S.set lx (.lst<|xs.map D.int)=S1 at s1 hX⊢;have at_:∀k:Nat,k<10->∃x:Int,gZ (xs.map D.int) ((k:Nat):Int)=some (.int x)/\0<=x:=λk hk=>A5 (by lia) (by rw[zb];lia) hx;obtain⟨x0,e0,_⟩:=at_ 0 (by decide);obtain⟨x1,e1,_⟩:=at_ 1 (by decide);refine !{_,_,hX,e0,x0,rfl,λz hz=>?_};refine !!!{_,hX,λp2 iu=>{cs,p2,dh xs (some 2) none,rfl,hg,by rw[tK];exact aa,by rw[K7 uM];lia,λws hw=>?_}};have s2:=s1.trans<|Sub.new (c:=.lst<|dh (xs.map D.int) (some 2) none) iu;have Fh:=(Sub.new (c:=.lst<|dh (xs.map D.int) (some 2) none) iu) _ _ hX;generalize S1.set p2 (.lst<|dh (xs.map D.int) (some 2) none)=S2 at s2 Fh⊢;have dH:=s2 _ _ hk;have isS:(bY (j7 kn)<|.inr z).isSome=(iX kn z).isSome:=by rw[tw];cases iX kn z<;>rfl
 have hl:(j7 kn).length<sizeLine:=bg (by unfold j7;rw[zb];lia);have n2:=cX;have n3:=uH;have fin:∀{d:D}{rj:Kn},GD KS cs kn d->KnD kn d rj->KI cs rj->Fo (S2.set lk<|.dM<|j7 rj) (R d):=λh1 h2 h3=>{_,cD s2,q _ _ h1 h2 h3};refine !!⟨.inr {j7 kn,.inr z,dH,rfl,_,rfl,bS (λh=>?_) λh=>?_}⟩;have h:(bY (j7 kn)<|.inr z).isSome=true:=h;have Uh:(iX kn z).isSome=true:=isS ▸ h;obtain⟨vs,hvs⟩:=Option.isSome_iff_exists.mp Uh;refine !{_,_,Fh,e1,by decide,_,rfl,bS (λ_=>?_) λ_=>?_};refine !{lk,j7 kn,rfl,dH,_,rfl,j7 kn,.inr z,.tup vs,dH,rfl,by rw[tw,hvs];rfl,?_};rw[R_];exact !{n2,fin (.inr<|.inr ⟨z,hz,Uh,rfl⟩) (.inr ⟨z,Uh,rfl,rfl⟩)<|hI.del z};refine{n2,λp hp=>!!⟨.inr {j7 kn,.inr z,(Sub.new hp) _ _ dH,rfl,?_}⟩};rw[h];refine .inr !{_,_,aa,(show gZ _ 1=some _ from rfl),S2,.new hp,?_};refine !!!{lk,j7 kn,.inr z,rfl,dH,rfl,hl,?_};rw[Kk];exact !!!{n3,fin (.inr<|.inl ⟨z,ws,hz,hw,Uh,rfl⟩) (.inl {_,z,ws,.inr rfl,rfl,rfl})<|hI.put hz hw};have h:(bY (j7 kn)<|.inr z).isSome=false:=h;have Ma:iX kn z=none:=by cases e:iX kn z with|none=>rfl|some _=>rw[isS,e]at h;cases h
 refine aX {n2,λp hp=>!!⟨.inr {j7 kn,.inr z,(Sub.new hp) _ _ dH,rfl,?_}⟩};rw[h];refine .inr !{_,_,aa,(show gZ _ 0=some _ from rfl),S2,.new hp,?_};refine !!!{lk,j7 kn,.inr z,rfl,dH,rfl,hl,?_};rw[Kk];exact !!!{n3,fin (.inl ⟨z,ws,hz,hw,Ma,rfl⟩) (.inl {_,z,ws,.inl rfl,rfl,rfl})<|hI.put hz hw}
inductive By(ds:wp)(S:ao)(R:KD)(Z:KX):Prop where
 |mk (cs:wT)(lk:Addr)(kn:Kn)(h0:ds=[.ref lk])(h1:S lk=some (.dM<|j7 kn))(h2:KI cs kn)(h3:∀ss p,ss.Perm (kn.map (·.1))->PyProof.Rows.sortedS ss=true->S p=none->R (.ref p) (S.set p<|.lst<|(ir kn ss).map ah))
theorem K9:Ok P w base T.Df 1 By:=by
 obtain⟨cs,lk,kn,e,hk,hI,q⟩:T.Df.F.bF Hf;have hkl:=hI.len;refine{_,(s1<|sr<|sA (N:=["_law_key_here","_law_standing"]) (src:=[none,some 0]) (km JU) (il<|cb Ax T.fQ d_<|ap 0 an) nW<|cQ<|ap 0<|ac (bv (dv 1)<|dv 0) an),?_};refine !{lk,j7 kn,kn.map (·.1),rfl,hk,by unfold j7;rw[zt,zt];rfl,by unfold j7;rw[zb];lia,λss hp hs p lq=>?_};have hlen:ss.length<=60:=by rw[hp.length_eq,zb];exact hkl
 refine{_,aa,?_};refine comp_map (λd=>match d with|.str z=>.tup [.str z,ub kn z]|_=>.av) aa (by show(ss.map D.str).length<=1000;rw[zb];lia) (λd hd Q hQ=>?_) λp2 iu=>?_;obtain⟨z,hz,rfl⟩:=zh.mp hd;obtain⟨ws,HB⟩:=oS<|hp.mem_iff.mp hz;have hQ:Q (.tup [.str z,ub kn z]) (S.set p<|.lst<|ss.map D.str):=hQ;have e1:bY (j7 kn) (.inr z)=some (ub kn z):=by rw[tw];unfold ub;rw[HB];rfl
 exact !!!{j7 kn,_,(Sub.new lq) _ _ hk,e1,cX,hQ};have em:(ss.map D.str).map (λd=>match d with|.str z=>D.tup [.str z,ub kn z]|_=>.av)=(ir kn ss).map ah:=by rw[vP hp,zt];rfl
 rw[show({ss.map D.str,λS=>rX S (.ref p)<|ss.map D.str}:nV).xs=ss.map D.str from rfl,em];exact{_,cD<|.new lq,q ss p2 hp hs<|bX (.new lq) iu}
structure abJ(t:eZ)(ds:wp)(S:ao)(R:KD)(Z:KX):Prop where
 of:Ph t ds S R Z
noncomputable def Fs(lk lm:Addr)(kn:Kn)(ce:Xa):List (Addr×Ce):=(lk,.dM<|j7 kn)::(lm,.lst<|ce.map λx=>D.ref x.1)::ce.map Xb
structure Bt(t:eZ)(S0:ao)(a lk lm:Addr)(cs:wT)(kn:Kn)(ce:Xa)(F:io)(dl:wp)(rs:mx)(S:ao):Prop where
 st:St t S0 a (Fs lk lm kn ce) F cs dl rs S
 ki:KI cs kn
 ri:RI rs dl.length kn
 hi:HI rs cs dl.length (ce.map Prod.snd)
 le:dl.length<=99
inductive Bv(S:ao)(cs:wT)(l a lk lm:Addr)(aA:SD)(S':ao):Prop where
 |mk (lx:Addr)(ys:ul)(o6:wP)(h0:aA=[some<|.tup<|cs.map aB,some<|.ref l,some<|.ref a,some<|.ref lk,some<|.ref lm,some<|.ref lx,o6])(h1:Sub S S')(h2:S' lx=some (.lst<|ys.map D.int))(h3:ys.length<=59):Bv S cs l a lk lm aA S'
inductive Bw(t:eZ)(S:ao)(cs:wT)(l a lk lm lx lz:Addr)(zs:ul)(i:Nat)(aA:SD)(S':ao):Prop where
 |mk (kn:Kn)(ce:Xa)(F:io)(dl:wp)(rs:mx)(o6:wP)(h0:aA=[some<|.tup<|cs.map aB,some<|.ref l,some<|.ref a,some<|.ref lk,some<|.ref lm,some<|.ref lx,o6])(h1:dl.length=i)(h2:St t S a ((lz,.lst<|zs.map D.int)::Fs lk lm kn ce) F cs dl rs S')(h3:KI cs kn)(h4:RI rs dl.length kn)(h5:HI rs cs dl.length<|ce.map Prod.snd):Bw t S cs l a lk lm lx lz zs i aA S'
inductive vT(t:eZ)(ds:wp)(S:ao)(R:KD)(Z:KX):Prop where
 |mk (cs:wT)(l:Addr)(ms:ul)(h0:ds=[.tup<|cs.map aB,.ref l])(h1:Gd cs)(h2:S l=some (.lst<|ms.map D.int))(h3:ms.length<=40)(h4:∀S' a lk lm kn ce F dl rs,Bt t S a lk lm cs kn ce F dl rs S'->R (.tup [.ref a,.ref lm,.ref lk]) S')
theorem K_:Ok P w base T.wZ 8 (vT t):=by
 have La:Ok P w base T.wY 7 (abJ t):=(Ny T).Rm λds S R Z h=>h.of;obtain⟨cs,l,ms,e,hg,hl,h30,q⟩:T.wZ.F.bF cJ;refine{_,(sc (bP (i:=2) cJ.nd<|mk T.J4 (Nn T) (hr.mono<|by decide) T.J3 T.fU.b d0<|ap 0 an)<|sc (bP (i:=3) cJ.nd VF)<|sc (bP (i:=4) cJ.nd<|b_<|ac (b_ an) an)<|sc (bP (i:=5) cJ.nd<|b_ an)<|sc (qX<|GR (il<|WL (dv 1) o0<|o1 di) (gn (i:=6) cJ.nd)<|s1<|si (bn aR (be bq (dv 6) di) di) (s1<|AI (N:=["_law_k","_law_cell"]) (src:=[none,some 6]) 5 cJ.nd (km G6) (LG T.dN<|ac (be bz di<|be bq (be cg (dv 6) di) di) an) nW<|be bz (be cg (dv 1) di)<|be rY di<|dv 0) s0)<|sc (qX<|GR (il<|be bz (dv 5)<|dv 1) (gn (i:=6) cJ.nd)<|sc (se<|aP T.wY La hr<|ap 2<|ac (aP T.Dd (K8 T) hr<|ap 0<|ap 3<|ap 6 an) an)<|s1<|se<|bm zM zW zX cw (dv 4)<|ac (aP T.Df (K9 T) hr<|ap 3 an) an)<|s1<|sr<|cQ<|ap 2<|ap 4<|ap 3 an),?_};refine{_,rfl,λa ha=>{a,cs,rfl,hg,aa,λS1 F1 Fc WU=>{rfl,?_}}};have abK:YC S F1 S1:=λb c hb=>by have h2:b≠a:=gA hb ha;exact WU b c (λm=>h2<|zK.mp m)<|(ae h2).trans hb
 have st0:St t S a [] F1 cs [] [] S1:={Fc,λ_ h=>(nomatch h),.nil,abK};refine λlk hlk=>?_;have st1:=st0.new hlk<|.dM [];generalize S1.set lk (.dM [])=SA at st1⊢;refine{ng,λq0 hq0=>{uG,λlm hlm=>?_}};have Oh:=(st1.new hq0<|.lst []).new hlm<|.lst [.ref q0];generalize (SA.set q0<|.lst []).set lm (.lst [.ref q0])=SB at Oh⊢;have Oi:St t S a (Fs lk lm [] [(q0,[])]) F1 cs [] [] SB:=Oh.perm<|.cons _<|.swap _ _ _;refine{ng,λle hle=>?_};have sb0:=Sub.new (c:=.lst []) hle;have Xk:(SB.set le<|.lst []) le=some (.lst []):=aa;have T8:=sb0 _ _<|Oi.Ih.sub _ _ hl;generalize SB.set le (.lst [])=SC at sb0 Xk T8⊢;refine{Bv SC cs l a lk lm,?_,?_};refine !!{_,T8,λp1 my=>{_,aa,?_}};have Sj:=Sub.new (c:=.lst<|dh (ms.map D.int) none<|some 1) my;have NX:(SC.set p1<|.lst<|dh (ms.map D.int) none<|some 1) p1=some (.lst<|dh (ms.map D.int) none<|some 1):=aa;generalize SC.set p1 (.lst<|dh (ms.map D.int) none<|some 1)=SD at Sj NX⊢;rw[tK]at NX⊢;generalize dh ms none (some 1)=m1 at NX⊢;refine{λ_=>Bv SD cs l a lk lm,{le,[],none,rfl,.refl _,Sj _ _ Xk,zU _},?_,?_,?_};rintro i aA S' ⟨_,_,_,_,sb,_⟩;exact sb _ _ NX;rintro i d aA S' hd ⟨lx,ys,o6,rfl,sb,hx,hy⟩;have hd:(m1.map D.int)[i]?=some d:=hd;obtain⟨c,_,rfl⟩:=zh.mp<|zy hd;refine !{by decide,_,rfl,bS (λ_=>?_) λ_=>{lx,ys,_,rfl,sb,hx,hy}};have b0:0<=c/8%40:=zN _ (by decide);have b1:c/8%40<40:=zL _ (by decide);refine{_,rfl,{by decide,by trivial},by decide,_,rfl,by lia,by lia,?_};refine jV (λ_ v=>∃x:Int,v=.int x) trivial (by show(cR 0 _).length<=_;rw[bE];lia) (λd hd Q hQ=>?_) λout CW p lq=>?_;obtain⟨j,hj⟩:=yu hd;obtain⟨_,rfl⟩:=bU hj;exact{_,rfl,{by decide,by trivial},_,rfl,.inl<|by decide,hQ _ {_,rfl}};have hlen:=yS CW;have:∀{L out:wp},Paired (λ_ v=>∃x:Int,v=D.int x) L out->∃xs:ul,out=xs.map D.int:=λ{L out} h=>by induction h with|nil=>exact{[],rfl}|cons r _ ih=>obtain⟨x,rfl⟩:=r;obtain⟨xs,rfl⟩:=ih;exact{x::xs,rfl}
 obtain⟨zs,rfl⟩:=this CW;rw[zb]at hlen;have hlen:(cR 0 (20+c/8%40).toNat).length=zs.length:=hlen;rw[bE]at hlen;exact{p,zs,_,rfl,sb.trans<|.new lq,aa,by lia};rintro aA S' ⟨lx,ys,o6,rfl,sb,r1,r2⟩;exact fo {lx,ys,o6,rfl,Sj.trans sb,r1,r2};rintro aA S2 ⟨lx,ys,o6,rfl,LD,hx,hy⟩;have st4:=(Oi.sub sb0).sub LD;refine{λaA S'=>∃(kn:Kn)(ce:Xa)(F:io)(dl:wp)(rs:mx)(o6:wP),aA=[some<|.tup<|cs.map aB,some<|.ref l,some<|.ref a,some<|.ref lk,some<|.ref lm,some<|.ref lx,o6]/\Bt t S a lk lm cs kn ce F dl rs S',?_,?_};refine !!{_,_,hx,LD _ _ T8,sm<|by rw[zb,zb];lia,λlz hlz=>{_,aa,?_}};rw[<-zC];have hzl:(ys++ms).length<=99:=by rw[zE];lia
 generalize ys++ms=zs at hzl⊢;have LC:St t S a ((lz,.lst<|zs.map D.int)::Fs lk lm [] [(q0,[])]) F1 cs [] [] (S2.set lz<|.lst<|zs.map D.int):=(st4.new hlz _).perm (List.perm_append_singleton _ _).symm;generalize S2.set lz (.lst<|zs.map D.int)=S3 at LC⊢;refine{Bw t S cs l a lk lm lx lz zs,?_,?_,?_,?_};refine{[],[(q0,[])],F1,[],[],_,rfl,rfl,LC,KI.nil cs,RI.nil,rfl,λm rows e=>?_};cases m with|zero=>(cases e;exact{[],[],rfl,KI.nil cs,.refl _,rfl,λz=>rfl})|succ m=>simp at e
 rintro i aA S' ⟨_,_,_,_,_,_,_,_,st,_⟩;exact st.at 0 rfl;rintro i d aA S' hd ⟨kn,ce,F,dl,rs,o6,rfl,Mw,st,hI,hR,hH⟩;have hd:(zs.map D.int)[i]?=some d:=hd;have hi:=(zg.mp hd).1;rw[zb]at hi;obtain⟨c,_,rfl⟩:=zh.mp<|zy hd;refine !!!!{cs,lk,kn,c,rfl,hg,st.at 1 rfl,hI,λde rj hde hkd hI'=>?_};have st6:St t S a ((lz,.lst<|zs.map D.int)::Fs lk lm rj ce) F cs dl rs _:=st.put 1 rfl<|.dM<|j7 rj;generalize S'.set lk (.dM<|j7 rj)=S6 at st6⊢;refine⟨(HE st6.sh hg hI hR (by lia) hde hkd λS7 F7 rs7 hS7 hK7 hR7 hold=>?_).of⟩;have st7:=st6.abG hS7 hK7;have hM:=st7.at 2 rfl;have BO:(ce.map λx=>D.ref x.1).length<sizeLine:=bg (by have:=hH.1;rw[zb]at this⊢;lia);refine{_,rfl,{rfl,_,hM},_,rfl,cs,lk,rj,rfl,st7.at 1 rfl,hI',λss p hp ho lq=>?_};refine{lm,_,_,rfl,rfl,(Sub.new lq) _ _ hM,BO,?_};have st8:=(st7.new lq<|.lst<|(ir rj ss).map ah).put 2 rfl<|.lst<|(ce.map λx=>D.ref x.1)++[.ref p];refine{rj,ce++[(p,ir rj ss)],F7,dl++[de],rs7,_,rfl,by rw[zE,Mw];rfl,?_,hI',by rw[zE];exact hR7,?_};unfold Fs;rw[zC,zC];exact st8;rw[zE,zC];exact hH.step hold hI' hR7 hp ho;rintro aA S' ⟨kn,ce,F,dl,rs,o6,rfl,Mw,st,hI,hR,hH⟩;have Mw:dl.length=(zs.map D.int).length:=Mw;rw[zb]at Mw;exact fo {kn,ce,F,dl,rs,o6,rfl,st.less (ym.mp st.nd).2 λx hx=>zf _ hx,hI,hR,hH,by lia};rintro aA S' ⟨kn,ce,F,dl,rs,o6,rfl,hb⟩;exact !!!{uH,fo<|q _ _ _ _ _ _ _ _ _ hb}
theorem SI{cs:wT}{ps:xL}{g:uc}(h:Gp cs ps g){S:ao} : Ly S 3 (uN g):=by
 have hs:PyData.strOk g.2.2=true:=by have:=h.side;unfold FA at this;rw[Bool.or_eq_true]at this;rcases this with q|q<;>rw[zG q]<;>decide +kernel
 refine Ly.tup λx hx=>?_;simp only[zk,zO,or_false]at hx;rcases hx with rfl|rfl;refine Ly.tup λx hx=>?_;simp only[zk,zO,or_false]at hx;rcases hx with rfl|rfl;refine Ly.tup λx hx=>?_;obtain⟨i,ei⟩:=yu hx;obtain⟨k,_,hv⟩:=cM h.pv ei;exact Ly.plain hv.2;exact(Ly.str (fZ _ h.key).2.2).le (by decide);exact(Ly.str hs).le<|by decide
theorem Xl{S:ao}{ds:wp}{z:Str}{R:KD}(h:Ly S 3<|.tup ds)(hz:PyData.strOk z=true)(q:R (.bl false) S):GK false (.tup ds) (.str z) S R:=by obtain⟨p,a,b,c⟩:=h;simp only[Dp]at a;obtain⟨ps,rfl,k⟩:=a;refine{.tuple ps,.str z,by simp only[Dl,Dp];exact⟨ps,rfl,k⟩,by simp only[Dl,Dp],b,by simp only[PyData.canLay0];exact hz,.inl<|by lia,?_};rw[if_neg zd,show PyData.eqv (.tuple ps) (.str z)=false by simp only[PyData.eqv]];exact q
theorem Pr{S:ao}{σ:SD}{ds:wp}{z:Str}{R:KD}{Z:KX}(h:Ly S 3<|.tup ds)(hz:PyData.strOk z=true)(q:R (.bl false) S):dC (.str z) σ S (λy S2=>GK false (.tup ds) y S2 R) Z:=Xl h hz q
set_option genInjectivity true in
set_option genSizeOfSpec true in
inductive Sd where
 |s
 |e
 |g (g:uc)
noncomputable def Pt:Sd->D|.s=>.str "start"|.e=>.str "end"|.g g=>uN g
noncomputable def nX(cs:wT)(ps:xL)(wy:Str)(A:At):Sd->Nat|.s=>0|.e=>A.length|.g g=>A.countP<|gP cs ps wy g
def NY(cs:wT)(ps:xL):Sd->Prop|.g g=>Gp cs ps g|_=>True
theorem Ee:∀s,nX cs ps wy A s<=A.length|.s=>zU _|.e=>zq _|.g _=>List.countP_le_length
structure Wk where
 (w a:Addr)
 ps:List Part
 wy:Str
 d:D
 n:Nat
 (f h:Sd)
noncomputable def xS(C:Addr)(q:Wk):Ce:=.ins C [("shelf",.ref q.a),("order",cN q.ps q.wy),("sieve",q.d),("size",.int (q.n:Nat)),("fore",Pt q.f),("hinder",Pt q.h)]
noncomputable def ud(cs:wT)(ps:xL)(rows:At)(s:Sd):Sd×Sd:=match rows[0]?,rows[rows.length-1]? with|some r0,some r1=>(.g<|HF cs ps "ahead" r0,.g<|HF cs ps "behind" r1)|_,_=>(s,s)
noncomputable def SJ(cs:wT)(ps:xL)(wy:Str)(A:At)(s:Sd)(n:Nat):Nat×Nat:=(nX cs ps wy A s,Bo A (nX cs ps wy A s) n)
noncomputable def SK(cs:wT)(ps:xL)(wy:Str)(A:At)(s:Sd)(n:Nat):Nat×Nat:=(nX cs ps wy A s-n,nX cs ps wy A s)
inductive lJ(ds:wp)(S:ao)(R:KD)(Z:KX):Prop where
 |mk (cs:wT)(ps:xL)(wy:Str)(p:Addr)(rows:At)(b c:Nat)(s:Sd)(h0:ds=[.tup<|cs.map aB,cN ps wy,xK p b c,Pt s])(h1:Gd cs)(h2:Pin cs ps)(h3:ps.length<=8)(h4:S p=some (.lst<|rows.map ah))(h5:∀r∈rows,Wg cs r.2)(h6:R (.tup [Pt (ud cs ps rows s).1,Pt (ud cs ps rows s).2]) S)
theorem tV:Ok P w base T.jQ 5 lJ:=by obtain⟨cs,ps,wy,p,rows,b,c,s,e,hg,hp,h8,hS,hw,q⟩:T.jQ.F.bF jS;refine{_,(sc (bP (i:=4) jS.nd<|aP T.q8 (tU T) hr<|ap 0<|ap 1<|ap 2 an)<|s1<|sr<|Q8 (bn fm (dv 4) dn) (cQ<|ap 3<|ap 3 an)<|dv 4),?_};refine !!!{cs,ps,wy,p,rows,b,c,rfl,hg,hp,h8,hS,hw,λz=>?_,λr0 r1 q0 q1=>?_};subst z;exact !!⟨dJ !!{cX,fo q}⟩;unfold ud at q;rw[q0,q1]at q;exact !!⟨aX !⟨fo q⟩⟩
inductive qf(t:eZ)(ds:wp)(S:ao)(R:KD)(Z:KX):Prop where
 |mk (k a:Addr)(cs:wT)(ps:xL)(wy:Str)(d:D)(n:Nat)(F:io)(dl:wp)(rs:mx)(h0:ds=[.ref k,.ref a,cN ps wy,d,.int (n:Nat)])(h1:Gd cs)(h2:Og cs ps wy)(h3:Sq cs d)(h4:1<=n)(h5:n<=1000)(h6:bZ t.aq S a F cs dl rs)(h7:S k=some (.ins t.aI []))(h8:R .av<|S.set k<|xS t.aI {k,a,ps,wy,d,n,.s,.s})
theorem Lb:qv P w mg base T.gT 7 (qf t):=by obtain⟨k,a,cs,ps,wy,d,n,F,dl,rs,e,hg,ho,hd,h1,h2,hS,hk,q⟩:T.gT.F.bF oM;obtain⟨ld,lr,ra,h,_⟩:=id hS;refine{_,(sc (se<|aP T.eQ (gb T) hr<|ac (fJ (dv 1) T.aj T.az (aM T) hr)<|ap 2 an)<|sc (se<|aP T.eR (gf T) hr<|ac (fJ (dv 1) T.aj T.az (aM T) hr)<|ap 3 an)<|sc (se<|aP T.fT (gY T) hr<|ap 4 an)<|sc (sf T.aF T.eK (dv 0)<|dv 1)<|sc (sf T.aF T.eL (dv 0)<|dv 2)<|sc (sf T.aF T.k9 (dv 0)<|dv 3)<|sc (sf T.aF T.fq (dv 0)<|dv 4)<|sc (sf T.aF T.iK (dv 0)<|dg (v:=.str "start") T.sJ {_,rfl} λ_=>dZ _)<|s1<|sf T.aF T.fR (dv 0)<|dg (v:=.str "start") T.sJ {_,rfl} λ_=>dZ _),?_};refine !{a,_,rfl,h.ins,rfl,a,F,cs,dl,rs,rfl,hS,_,rfl,cs,ps,wy,rfl,hg,ho.tx,λ_=>?_,λz=>tf ho.ok z};refine !{a,_,rfl,h.ins,rfl,a,F,cs,dl,rs,rfl,hS,_,rfl,cs,d,rfl,hg,hd,?_};refine !!{by lia,by lia,?_};refine !!{k,_,rfl,hk,(show 0<1000 by decide),?_};refine !!{k,_,rfl,aa,(show 1<1000 by decide),?_};refine !!{k,_,rfl,aa,(show 2<1000 by decide),?_};refine !!{k,_,rfl,aa,(show 3<1000 by decide),?_};refine !{k,_,rfl,aa,(show 4<1000 by decide),?_};refine !{k,_,rfl,aa,(show 5<1000 by decide),?_};rw[bp,bp,bp,bp,bp];exact fo q
inductive qg(t:eZ)(ds:wp)(S:ao)(R:KD)(Z:KX):Prop where
 |mk (q:Wk)(l:Addr)(s:Sd)(A:At)(cs:wT)(F:io)(dl:wp)(rs:mx)(h0:ds=[.ref q.w,.ref l,Pt s])(h1:S q.w=some (xS t.aI q))(h2:Gd cs)(h3:Og cs q.ps q.wy)(h4:bZ t.aq S q.a F cs dl rs)(h5:S l=some (.lst<|A.map ah))(h6:An cs q.ps q.wy A)(h7:NY cs q.ps s)(h8:R (.int (nX cs q.ps q.wy A s:Nat)) S)
theorem Bz:qv P w mg base T.dr 6 (qg t):=by obtain⟨k,l,s,A,cs,F,dl,rs,e,hk,hg,ho,hS,hl,hA,hs,q⟩:T.dr.F.bF l8;obtain⟨ld,lr,ra,h,_⟩:=id hS;refine{_,(sc (si (bn aR (dv 2)<|dg (v:=.str "start") T.sJ {_,rfl} λ_=>dZ _) (s1<|sr di) s0)<|sc (si (bn aR (dv 2)<|dg (v:=.str "end") T.JX {_,rfl} λ_=>dZ _) (s1<|sr<|cb aO T.aL aD<|ap 1 an) s0)<|s1<|sr<|aP T.eS (gp T) hr<|ac (fJ (fl T.aF T.eK<|dv 0) T.aj T.az (aM T) hr)<|ac (fl T.aF T.eL<|dv 0)<|ap 1<|ap 2 an),?_};cases s with|s=>exact (!!⟨k7<|fo q⟩)|e=>refine !!⟨cu !!⟨k7 !!⟨.inl {_,hl,?_}⟩⟩⟩;rw[zb];exact fo q|g g=>have hly:=SI hs (S:=S);exact{_,rfl,Pr hly (by trivial) !⟨aX !⟨Pr hly (by trivial) !⟨aX !{k.w,_,_,rfl,hk,rfl,k.a,_,rfl,h.ins,rfl,k.a,F,cs,dl,rs,rfl,hS,_,rfl,k.w,_,_,rfl,hk,rfl,_,rfl,_,rfl,cs,k.ps,k.wy,A,l,g,rfl,hg,ho.pin,ho.len,hl,hA,hs,fo q}⟩⟩⟩}
inductive nN(t:eZ)(ds:wp)(S:ao)(R:KD)(Z:KX):Prop where
 |mk (q:Wk)(p:Addr)(b c:Nat)(s:Sd)(rows:At)(cs:wT)(F:io)(dl:wp)(rs:mx)(h0:ds=[.ref q.w,xK p b c,Pt s])(h1:S q.w=some (xS t.aI q))(h2:Gd cs)(h3:Og cs q.ps q.wy)(h4:bZ t.aq S q.a F cs dl rs)(h5:S p=some (.lst<|rows.map ah))(h6:∀r∈rows,Wg cs r.2)(h7:R .av<|S.set q.w<|xS t.aI {q.w,q.a,q.ps,q.wy,q.d,q.n,(ud cs q.ps rows s).1,(ud cs q.ps rows s).2})
theorem vU:qv P w mg base T.cB 6 (nN t):=by obtain⟨k,p,b,c,s,rows,cs,F,dl,rs,e,hk,hg,ho,hS,hp,hw,q⟩:T.cB.F.bF eV;obtain⟨ld,lr,ra,h,_⟩:=id hS;refine{_,(sc (bP (i:=3) eV.nd<|aP T.jQ (tV T) hr<|ac (fJ (fl T.aF T.eK<|dv 0) T.aj T.az (aM T) hr)<|ac (fl T.aF T.eL<|dv 0)<|ap 1<|ap 2 an)<|sc (sf T.aF T.iK (dv 0)<|bv (dv 3) di)<|s1<|sf T.aF T.fR (dv 0)<|bv (dv 3) di),?_};refine !{k.w,_,_,rfl,hk,rfl,k.a,_,rfl,h.ins,rfl,k.a,F,cs,dl,rs,rfl,hS,_,rfl,k.w,_,_,rfl,hk,rfl,_,rfl,_,rfl,cs,k.ps,k.wy,p,rows,b,c,s,rfl,hg,ho.pin,ho.len,hp,hw,?_};refine !!!{k.w,_,rfl,hk,(show 6<1000 by decide),?_};refine !!!{k.w,_,rfl,aa,(show 6<1000 by decide),?_};rw[bp];exact fo q
inductive lK(t:eZ)(ds:wp)(S:ao)(R:KD)(Z:KX):Prop where
 |mk (q:Wk)(cs:wT)(rows:At)(h0:ds=[.ref q.w])(h1:S q.w=some (xS t.aI q))(h2:Qs t S q.a cs q.ps q.wy q.d .av rows)(h3:∀(A:At)(p:Addr),FD cs q.ps q.wy 7 q.d rows A->S p=none->R (.ref p) (S.set p<|.lst<|A.map ah))
theorem tW(B:Bm mg base):qv P w mg base T.dm 13 (lK t):=by obtain⟨k,cs,rows,e,hk,hq,q⟩:T.dm.F.bF l7;refine{_,(s1<|sr<|aP T.bV (cE T B) hr<|ac (fl T.aF T.eK<|dv 0)<|ac (fl T.aF T.eL<|dv 0)<|ac (fl T.aF T.k9<|dv 0)<|ac dn an),?_};exact !{k.w,_,_,rfl,hk,rfl,_,rfl,k.w,_,_,rfl,hk,rfl,_,rfl,k.w,_,_,rfl,hk,rfl,k.a,cs,k.ps,k.wy,k.d,.av,rows,rfl,hq.g,hq.o,hq.s,hq.v,hq.t,λA l pm pw hl=>fo<|q A l (tT hq.v.rg hq.k pm pw) hl}
inductive kf(t:eZ)(f:List (Str×Str)->List Part->Str->List Row->Sd->Nat->Nat×Nat)(ds:wp)(S:ao)(R:KD)(Z:KX):Prop where
 |mk (q:Wk)(s:Sd)(cs:wT)(rows:At)(h0:ds=[.ref q.w,Pt s])(h1:S q.w=some (xS t.aI q))(h2:Qs t S q.a cs q.ps q.wy q.d .av rows)(h3:NY cs q.ps s)(h4:∀(A:At)(p:Addr)(b e:Nat),FD cs q.ps q.wy 7 q.d rows A->S p=none->f cs q.ps q.wy A s q.n=(b,e)->R (xK p b<|A.length-e) ((S.set p<|.lst<|(seg A b e).map ah).set q.w<|xS t.aI {q.w,q.a,q.ps,q.wy,q.d,q.n,(ud cs q.ps (seg A b e) s).1,(ud cs q.ps (seg A b e) s).2}))
theorem BA(B:Bm mg base):qv P w mg base T.iS 14 (kf t SJ):=by obtain⟨k,s,cs,rows,e,hk,hq,hs,q⟩:T.iS.F.bF fg;obtain⟨F,dl,rs,hS,_⟩:=hq.v.sh;refine{_,(sc (bP (i:=2) fg.nd<|fJ (dv 0) T.aF T.dm (tW T B) hr)<|sc (bP (i:=3) fg.nd<|aP T.kx (nK T) hr<|ap 2<|ac (ox (dv 0) T.aF T.dr (Bz T) hr<|ap 2<|ap 1 an)<|ac (fl T.aF T.fq<|dv 0) an)<|sc (se<|ox (dv 0) T.aF T.cB (vU T) hr<|ap 3<|ap 1 an)<|s1<|sr<|dv 3),?_};refine !{k.w,_,rfl,hk,rfl,k,cs,rows,rfl,hk,hq,λA l hA hl=>?_};have s1:=Sub.new (c:=.lst<|A.map ah) hl;have Ig:(S.set l<|.lst<|A.map ah) l=some (.lst<|A.map ah):=aa;generalize S.set l (.lst<|A.map ah)=S1 at s1 Ig⊢;have LI:=s1 _ _ hk;refine !!{k.w,_,rfl,LI,rfl,_,rfl,_,rfl,k,l,s,A,cs,F,dl,rs,rfl,LI,hq.g,hq.o,hS.sub s1,Ig,hA.an,hs,_,rfl,k.w,_,_,rfl,LI,rfl,l,A,_,k.n,rfl,Ig,Ee s,λp hp=>?_};have OP:=(Sub.new (c:=.lst<|(seg A (SJ cs k.ps k.wy A s k.n).1 (SJ cs k.ps k.wy A s k.n).2).map ah) hp) _ _ LI;exact !{k.w,_,rfl,OP,rfl,_,rfl,_,rfl,k,p,_,_,s,seg A (SJ cs k.ps k.wy A s k.n).1 (SJ cs k.ps k.wy A s k.n).2,cs,F,dl,rs,rfl,OP,hq.g,hq.o,(hS.sub s1).sub<|.new hp,aa,λr hr=>hA.an.rg.1 r<|iZ hr,_,rfl,_,cD<|cD s1,q A p _ _ hA (bX s1 hp) rfl}
theorem lL(B:Bm mg base):qv P w mg base T.dR 14 (kf t SK):=by obtain⟨k,s,cs,rows,e,hk,hq,hs,q⟩:T.dR.F.bF dS;obtain⟨F,dl,rs,hS,_⟩:=hq.v.sh;refine{_,(sc (bP (i:=2) dS.nd<|fJ (dv 0) T.aF T.dm (tW T B) hr)<|sc (bP (i:=3) dS.nd<|aP T.iO (lI T) hr<|ap 2<|ac (ox (dv 0) T.aF T.dr (Bz T) hr<|ap 2<|ap 1 an)<|ac (fl T.aF T.fq<|dv 0) an)<|sc (se<|ox (dv 0) T.aF T.cB (vU T) hr<|ap 3<|ap 1 an)<|s1<|sr<|dv 3),?_};refine !{k.w,_,rfl,hk,rfl,k,cs,rows,rfl,hk,hq,λA l hA hl=>?_};have s1:=Sub.new (c:=.lst<|A.map ah) hl;have Ig:(S.set l<|.lst<|A.map ah) l=some (.lst<|A.map ah):=aa;generalize S.set l (.lst<|A.map ah)=S1 at s1 Ig⊢;have LI:=s1 _ _ hk;refine !!{k.w,_,rfl,LI,rfl,_,rfl,_,rfl,k,l,s,A,cs,F,dl,rs,rfl,LI,hq.g,hq.o,hS.sub s1,Ig,hA.an,hs,_,rfl,k.w,_,_,rfl,LI,rfl,l,A,_,k.n,rfl,Ig,Ee s,λp hp=>?_};have OP:=(Sub.new (c:=.lst<|(seg A (SK cs k.ps k.wy A s k.n).1 (SK cs k.ps k.wy A s k.n).2).map ah) hp) _ _ LI;exact !{k.w,_,rfl,OP,rfl,_,rfl,_,rfl,k,p,_,_,s,seg A (SK cs k.ps k.wy A s k.n).1 (SK cs k.ps k.wy A s k.n).2,cs,F,dl,rs,rfl,OP,hq.g,hq.o,(hS.sub s1).sub<|.new hp,aa,λr hr=>hA.an.rg.1 r<|iZ hr,_,rfl,_,cD<|cD s1,q A p _ _ hA (bX s1 hp) rfl}
inductive kG(t:eZ)(f:List (Str×Str)->List Part->Str->List Row->Sd->Nat->Nat×Nat)(g:Wk->Sd)(ds:wp)(S:ao)(R:KD)(Z:KX):Prop where
 |mk (q:Wk)(cs:wT)(rows:At)(h0:ds=[.ref q.w])(h1:S q.w=some (xS t.aI q))(h2:Qs t S q.a cs q.ps q.wy q.d .av rows)(h3:NY cs q.ps<|g q)(h4:∀(A:At)(p:Addr)(b e:Nat),FD cs q.ps q.wy 7 q.d rows A->S p=none->f cs q.ps q.wy A (g q) q.n=(b,e)->R (xK p b<|A.length-e) ((S.set p<|.lst<|(seg A b e).map ah).set q.w<|xS t.aI {q.w,q.a,q.ps,q.wy,q.d,q.n,(ud cs q.ps (seg A b e)<|g q).1,(ud cs q.ps (seg A b e)<|g q).2}))
theorem Le(B:Bm mg base):qv P w mg base T.rh 15 (kG t SJ Wk.h):=by obtain⟨k,cs,rows,e,hk,hq,hs,q⟩:T.rh.F.bF Dq;refine{_,(s1<|sr<|ox (dv 0) T.aF T.iS (BA T B) hr<|ac (fl T.aF T.fR<|dv 0) an),?_};exact !{k.w,_,rfl,hk,rfl,_,rfl,k.w,_,_,rfl,hk,rfl,k,k.h,cs,rows,rfl,hk,hq,hs,λA p b e hA hp he=>fo<|q A p b e hA hp he}
theorem BB(B:Bm mg base):qv P w mg base T.kz 15 (kG t SK Wk.f):=by obtain⟨k,cs,rows,e,hk,hq,hs,q⟩:T.kz.F.bF xk;refine{_,(s1<|sr<|ox (dv 0) T.aF T.dR (lL T B) hr<|ac (fl T.aF T.iK<|dv 0) an),?_};exact !{k.w,_,rfl,hk,rfl,_,rfl,k.w,_,_,rfl,hk,rfl,k,k.f,cs,rows,rfl,hk,hq,hs,λA p b e hA hp he=>fo<|q A p b e hA hp he}
inductive kh(t:eZ)(ds:wp)(S:ao)(R:KD)(Z:KX):Prop where
 |mk (q:Wk)(n:Nat)(h0:ds=[.ref q.w,.int (n:Nat)])(h1:S q.w=some (xS t.aI q))(h2:1<=n)(h3:n<=1000)(h4:R .av<|S.set q.w<|xS t.aI ⟨q.w,q.a,q.ps,q.wy,q.d,n,q.f,q.h⟩)
theorem BC:qv P w mg base T.fu 3 (kh t):=by obtain⟨k,n,e,hk,h1,h2,q⟩:T.fu.F.bF qB;refine{_,(sc (se<|aP T.fT (gY T) hr<|ap 1 an)<|s1<|sf T.aF T.fq (dv 0)<|dv 1),?_};exact !!{by lia,by lia,_,rfl,_,rfl,k.w,_,rfl,hk,(show 6<1000 by decide),fo q}
theorem Lg(B:Bm mg base):qv P w mg base T.oJ 15 (kG t SK λ_=>.e):=by obtain⟨k,cs,rows,e,hk,hq,hs,q⟩:T.oJ.F.bF xm;refine{_,(s1<|sr<|ox (dv 0) T.aF T.dR (lL T B) hr<|ac (dg (v:=.str "end") T.JX {_,rfl} λ_=>dZ _) an),?_};exact !{k.w,_,rfl,hk,rfl,k,.e,cs,rows,rfl,hk,hq,hs,λA p b e hA hp he=>fo<|q A p b e hA hp he}
theorem Lh(hg:Gd cs)(hp:Pin cs ps)(hw:Wg cs r.2)(hk:r.1∈KS):bM (nH ps wy) (p9 cs ps r) (p9 cs ps r)=0:=(tM FC (o_ hg hp hw hk)<|o_ hg hp hw hk).mpr rfl
theorem An.at(hg:Gd cs)(hp:Pin cs ps)(h:An cs ps wy A)(e:A[i]?=some r):A.countP (gP cs ps wy<|HF cs ps "ahead" r)=i/\A.countP (gP cs ps wy<|HF cs ps "behind" r)=i+1:=by
 have hi:=(zg.mp e).1;have hr:=zy e;have lx:=List.pairwise_iff_getElem.mp<|h.lex hg hp;have lt:∀j a,j<i->A[j]?=some a->bM (nH ps wy) (p9 cs ps a) (p9 cs ps r)<0:=λj a hj ej=>by have:=lx j i (zg.mp ej).1 hi hj;rw[(zg.mp ej).2,(zg.mp e).2]at this;exact this
 have gt:∀j a,i<j->A[j]?=some a->0<bM (nH ps wy) (p9 cs ps a) (p9 cs ps r):=λj a hj ej=>by have hj':=(zg.mp ej).1;have:=lx i j hi hj' hj;rw[(zg.mp ej).2,(zg.mp e).2]at this;have ha:=zy ej;exact(Bl (o_ hg hp (h.rg.1 a ha)<|h.ky a ha)<|o_ hg hp (h.rg.1 r hr)<|h.ky r hr).mp this
 have me:=Lh (wy:=wy) hg hp (h.rg.1 r hr)<|h.ky r hr;constructor;refine(D4 (h.mono hg hp<|pd hg hp (h.rg.1 r hr) (h.ky r hr)<|by trivial) (yL hi) (λj a hj ej=>?_) λj a hj ej=>?_).symm;show(decide (bM (nH ps wy) (p9 cs ps a) (p9 cs ps r)<0)||_)=true;rw[zu<|lt j a hj ej];rfl;show(decide (bM (nH ps wy) (p9 cs ps a) (p9 cs ps r)<0)||(_&&decide (("ahead": Str) ="behind")))=false;rw[show decide (("ahead": Str) ="behind")=false by trivial,Bool.and_false,Bool.or_false,zA];rcases Nat.lt_or_ge i j with q|q;have:=gt j a q ej;omega;have:j=i:=by omega
 subst this;rw[e]at ej;cases ej;omega;refine(D4 (h.mono hg hp<|pd hg hp (h.rg.1 r hr) (h.ky r hr)<|by trivial) hi (λj a hj ej=>?_) λj a hj ej=>?_).symm;show(decide (bM (nH ps wy) (p9 cs ps a) (p9 cs ps r)<0)||(decide (bM (nH ps wy) (p9 cs ps a) (p9 cs ps r)=0)&&decide (("behind": Str) ="behind")))=true;rcases Nat.lt_or_ge j i with q|q;rw[zu<|lt j a q ej];rfl;have:j=i:=by omega
 subst this;rw[e]at ej;cases ej;rw[me];rfl;show(decide (bM (nH ps wy) (p9 cs ps a) (p9 cs ps r)<0)||(decide (bM (nH ps wy) (p9 cs ps a) (p9 cs ps r)=0)&&decide (("behind": Str) ="behind")))=false;have:=gt j a (by omega) ej;rw[zA<|by omega,zA<|by omega];rfl
section
variable{t:eZ}{S0:ao}{a lk lm:Addr}{cs:wT}{kn:Kn}{ce:Xa}{F:io}{dl:wp}{rs:mx}{S:ao}
theorem Bt.ml(h:Bt t S0 a lk lm cs kn ce F dl rs S):S lm=some (.lst<|ce.map λx=>D.ref x.1):=h.st.at 1 rfl
theorem Bt.cell(h:Bt t S0 a lk lm cs kn ce F dl rs S){k:Nat}{x:Addr×List Row}(e:ce[k]?=some x):S x.1=some (.lst<|x.2.map ah):=h.st.at (k+2)<|by show(ce.map Xb)[k]?=_;rw[zi,e];rfl
theorem Bt.len(h:Bt t S0 a lk lm cs kn ce F dl rs S):ce.length=dl.length+1:=by have:=h.hi.1;rwa [zb]at this
theorem Bt.snap(h:Bt t S0 a lk lm cs kn ce F dl rs S)(e:ce[k]?=some x):Snap rs cs k x.2:=h.hi.2 k x.2<|by rw[zi,e];rfl
theorem Bt.vw(h:Bt t S0 a lk lm cs kn ce F dl rs S)(e:ce[k]?=some x):Vw t.aq S a cs (.int (k:Nat)) x.2:=by have hk:=(zg.mp e).1;have hl:=h.len;refine(h.snap e).vw h.st.sh h.ri ?_ gt_int;show(if 0<=((k:Nat):Int)/\((k:Nat):Int)<=((dl.length:Nat):Int) then some ((k:Nat):Int) else none)=_;rw[if_pos<|by omega]
theorem Bt.vn(h:Bt t S0 a lk lm cs kn ce F dl rs S)(e:ce[dl.length]?=some x):Vw t.aq S a cs .av x.2:=(h.snap e).vw h.st.sh h.ri rfl xq
theorem Bt.at(h:Bt t S0 a lk lm cs kn ce F dl rs S)(hk:k<ce.length):∃x,ce[k]?=some x:={_,ze hk}
theorem Bt.end(h:Bt t S0 a lk lm cs kn ce F dl rs S)(e:ce[dl.length]?=some x):gZ (ce.map λx=>D.ref x.1) (-1)=some (.ref x.1):=by have hl:=h.len;unfold gZ IC;rw[zb,if_neg<|by decide,if_pos<|by omega,show((-1:Int)+((ce.length:Nat):Int)).toNat=dl.length by omega];show(ce.map λx=>D.ref x.1)[dl.length]?=_;rw[zi,e];rfl
end
theorem SM(hg:Gd cs)(hp:Pin cs ps)(h:An cs ps wy A)(nS:b<=e)(he:e<=A.length)(hs:NY cs ps s)(hn:b=e->nX cs ps wy A s=b): NY cs ps (ud cs ps (seg A b e) s).1/\NY cs ps (ud cs ps (seg A b e) s).2/\nX cs ps wy A (ud cs ps (seg A b e) s).1=b/\nX cs ps wy A (ud cs ps (seg A b e) s).2=e:=by
 have sl:=xJ nS he;by_cases q:b=e;subst q;have e0:seg A b b=[]:=List.length_eq_zero_iff.mp (by omega);rw[e0];exact{hs,hs,hn rfl,hn rfl};have a0:=ze (show b<A.length by omega);have a1:=ze (show e-1<A.length by omega);generalize A[b]=r0 at a0;generalize A[e-1]=r1 at a1;have q0:(seg A b e)[0]?=some r0:=by rw[rq<|by omega];exact a0
 have q1:(seg A b e)[(seg A b e).length-1]?=some r1:=by rw[sl,rq<|by omega,show b+(e-b-1)=e-1 by omega];exact a1
 have m0:=zy a0;have m1:=zy a1;unfold ud;rw[q0,q1];refine{pd hg hp (h.rg.1 r0 m0) (h.ky r0 m0)<|by trivial,pd hg hp (h.rg.1 r1 m1) (h.ky r1 m1)<|by trivial,(h.at hg hp a0).1,(h.at hg hp a1).2.trans<|by omega}
noncomputable def sq(A:At)(f:Nat->Nat)(w:Bool):Nat->Nat|0=>(if w then 0 else A.length)|i+1=>if w then Bo A (sq A f w i) (f i) else sq A f w i-f i
noncomputable def lh(A:At)(f:Nat->Nat)(w:Bool)(i:Nat):Nat×Nat:=if w then (sq A f w i,sq A f w<|i+1) else (sq A f w<|i+1,sq A f w i)
noncomputable def HH(A:At)(w:Bool):Nat:=if w then A.length else 0
theorem FJ{w:Bool} : ∀i,sq A f w i<=A.length|0=>(by cases w<;>simp[sq])|i+1=>by have:=FJ (A:=A) (f:=f) (w:=w) i;cases w<;>simp only[sq,Bo,if_true,yt,if_false]<;>omega
theorem FK{w:Bool}(i:Nat):(lh A f w i).1<=(lh A f w i).2/\(lh A f w i).2<=A.length:=by have h0:=FJ (A:=A) (f:=f) (w:=w) i;cases w<;>simp only[lh,sq,Bo,if_true,yt,if_false]at h0⊢<;>omega
theorem Pu{w:Bool}(h:∀i,1<=f i):∀i,if w then min i A.length<=sq A f w i else sq A f w i<=A.length-i|0=>(by cases w<;>simp[sq])|i+1=>by have h0:=Pu (A:=A) (w:=w) h i;have h1:=h i;cases w<;>simp only[sq,Bo,if_true,yt,if_false]at h0⊢<;>omega
theorem SN{w:Bool}(h:∀i,1<=f i)(e:(lh A f w i).1=(lh A f w i).2):sq A f w i=HH A w:=by have h0:=FJ (A:=A) (f:=f) (w:=w) i;have h1:=h i;cases w<;>simp only[lh,sq,Bo,HH,if_true,yt,if_false]at h0 e⊢<;>omega
theorem FL{w:Bool}(h:∀i,1<=f i)(l:A.length<=i):sq A f w i=HH A w:=by have h0:=Pu (A:=A) (w:=w) h i;have h1:=FJ (A:=A) (f:=f) (w:=w) i;cases w<;>simp only[HH,if_true,yt,if_false]at h0⊢<;>omega
def HJ:Nat->List (Nat×Nat)->Nat->Prop|b,[],c=>b=c|b,x::r,c=>x.1=b/\b<=x.2/\HJ x.2 r c
theorem HJ.app:∀{l r:List (Nat×Nat)}{a b c:Nat},HJ a l b->HJ b r c->HJ a (l++r) c|[],_,_,_,_,h,k=>(by cases h;exact k)|_::_,_,_,_,_,h,k=>{h.1,h.2.1,h.2.2.app k}
theorem HJ.le:∀{l:List (Nat×Nat)}{a c:Nat},HJ a l c->a<=c|[],_,_,h=>Nat.le_of_eq h|_::_,_,_,h=>zJ h.2.1 h.2.2.le
theorem Lj:∀m,HJ 0 ((List.range m).map<|lh A f true) (sq A f true m)|0=>rfl|m+1=>by rw[List.range_succ,zC];exact(Lj m).app {rfl,(FK (w:=true) m).1,rfl}
theorem Lk:∀m,HJ (sq A f false m) ((List.range m).map<|lh A f false).reverse A.length|0=>rfl|m+1=>by rw[List.range_succ,zC,List.reverse_append];exact{rfl,(FK (w:=false) m).1,Lk m}
abbrev Gs:=List<|Addr×Nat×Nat
noncomputable def Ef(A:At)(x:Addr×Nat×Nat):D:=xK x.1 x.2.1<|A.length-x.2.2
noncomputable def Ui(A:At)(x:Addr×Nat×Nat):Addr×Ce:=(x.1,.lst<|(seg A x.2.1 x.2.2).map ah)
noncomputable def Uj(w:Bool):Str:=if w then "on" else "back"
noncomputable def fX(xs:ul)(i:Nat):Nat:=NV<|xs.getD (i%8) 0
theorem FN(xs:ul)(i:Nat):1<=fX xs i/\fX xs i<=1000:=SH _
theorem Ll{xs:ul}(h:xs.length=8)(i:Nat):gZ (xs.map D.int) (((i:Nat):Int)%((8:Nat):Int))=some (.int<|xs.getD (i%8) 0):=by
 rw[show((i:Nat):Int)%((8:Nat):Int)=((i%8:Nat):Int) by omega];refine bu ?_;have hi:i%8<xs.length:=by omega
 rw[zi,zB,ze hi];rfl
theorem Xm(h:Snap rs cs m rows):rows.length<=59:=by
 have:=sub_len (h.rg.1.2) (m:=KS.eraseDups) λx hx=>by obtain⟨r,hr,rfl⟩:=zh.mp hx;exact List.mem_eraseDups.mpr<|h.key r hr
 rw[zb]at this;exact zJ this<|by trivial
structure Pi(cs:wT)(ps:xL)(wy:Str)(A:At)(f:Nat->Nat)(v:Bool)(S:ao)(lp:Addr)(gs:Gs)(b:AC)(i:Nat)(S':ao):Prop where
 l:gs.length=i
 iA:i<=A.length
 bg:Bg cs ps b
 n:LM cs ps wy A (if v then 0 else A.length) b=sq A f v i
 pl:S' lp=some (.lst<|gs.map<|Ef A)
 c:∀x∈gs,x.1≠lp/\S' x.1=some (Ui A x).2
 g:gs.map Prod.snd=(List.range i).map (lh A f v)
 sb:Sub S S'
inductive Pj(a lx:Addr)(d m:D)(cs:wT)(ps:xL)(wy:Str)(A:At)(f:Nat->Nat)(v:Bool)(S:ao)(lp:Addr)(i:Nat)(aA:SD)(S':ao):Prop where
 |mk (gs:Gs)(b:AC)(o9 o10 o11:wP)(h0:aA=[some<|.ref a,some<|.tup<|cs.map aB,some<|cN ps wy,some d,some<|.ref lx,some<|.str<|Uj v,some m,some<|NQ b,some<|.ref lp,o9,o10,o11])(h1:Pi cs ps wy A f v S lp gs b i S'):Pj a lx d m cs ps wy A f v S lp i aA S'
inductive Pk(a lx:Addr)(d m:D)(cs:wT)(ps:xL)(wy:Str)(A:At)(v:Bool)(lp:Addr)(bd:D)(i n b0 e0:Nat)(S':ao)(aA:SD)(SO:ao):Prop where
 |mk (p:Addr)(h0:S' p=none)(h1:aA=[some<|.ref a,some<|.tup<|cs.map aB,some<|cN ps wy,some d,some<|.ref lx,some<|.str<|Uj v,some m,some bd,some<|.ref lp,some<|.int (i:Nat),some<|.int (n:Nat),some<|xK p b0<|A.length-e0])(h2:SO=S'.set p (.lst<|(seg A b0 e0).map ah)):Pk a lx d m cs ps wy A v lp bd i n b0 e0 S' aA SO
inductive vV(t:eZ)(ds:wp)(S:ao)(R:KD)(Z:KX):Prop where
 |mk (a lx:Addr)(cs:wT)(ps:xL)(wy:Str)(d m:D)(xs:ul)(v:Bool)(rows A:At)(h0:ds=[.ref a,.tup<|cs.map aB,cN ps wy,d,.ref lx,.str<|Uj v,m])(h1:Qs t S a cs ps wy d m rows)(h2:S lx=some (.lst<|xs.map D.int))(h3:xs.length=8)(h4:FD cs ps wy 7 d rows A)(h5:A.length<=59)
  (h6:∀(gs:Gs)(lp:Addr)(S':ao),Sub S S'->S' lp=some (.lst<|gs.map<|Ef A)->(∀x∈gs,S' x.1=some (Ui A x).2)->gs.map Prod.snd=(List.range gs.length).map (lh A (fX xs) v)->sq A (fX xs) v gs.length=HH A v->gs.length<=59->R (.ref lp) S'):vV t ds S R Z
theorem BD(B:Bm mg base):Ok P w base T.rf 14 (vV t):=by
 obtain⟨a,lx,cs,ps,wy,d,m,xs,v,rows,A,e,hq,hX,uM,hA,h59,q⟩:T.rf.F.bF cK;have hg:=hq.g;have ho:=hq.o;have f1:∀i,1<=fX xs i:=λi=>(FN xs i).1;refine{_,(sc (bP (i:=7) cK.nd dn)<|sc (bP (i:=8) cK.nd<|b_ an)<|sc (qX<|GR (LG T.dN<|ac di an) (gn (i:=9) cK.nd)<|sc (bP (i:=10) cK.nd<|aP T.sQ (xR T) hr<|ac (bv (dv 4)<|be bq (dv 9)<|cb aO T.aL aD<|ap 4 an) an)<|sc (qX<|si (bn aR (dv 5) ds) (s1<|bP (i:=11) cK.nd<|aP T.wH ((D_ T B).w) hr<|ap 0<|ap 2<|ap 3<|ap 10<|ap 7<|ap 6 an)<|s1<|bP (i:=11) cK.nd<|aP T.oA ((xM T B).w) hr<|ap 0<|ap 2<|ap 3<|ap 10<|ap 7<|ap 6 an)<|sc (si (bn aR (bv (dv 11) di)<|b_ an) (s1<|sr<|dv 8) s0)<|sc (se<|bm zM zW zX cw (dv 8)<|ap 11 an)<|s1<|bP (i:=7) cK.nd<|bv (aP T.q8 (tU T) hr<|ap 1<|ap 2<|ap 11 an)<|ct EK T.AS rO<|ac (bi aR (dv 5) ds) an)<|s1<|sr dn),?_};refine{ng,λlp DX=>?_};refine{λ_ _=>False,?_,λ_ _ z=>z.elim};refine !{by decide,by decide,?_};refine{Pj a lx d m cs ps wy A (fX xs) v S lp,?_,λ_ _ _ _=>trivial,?_,?_};exact{[],none,_,_,_,rfl,{rfl,zU _,nofun,rfl,aa,λ_ h=>(nomatch h),rfl,.new DX}};rintro i dd aA S' hd ⟨gs,b,o9,o10,o11,rfl,hl,Xn,hb,hn,HK,hc,SQ,sb⟩;obtain⟨hi,ed⟩:=bU hd;rw[Int.zero_add]at ed;subst ed;have hX':=sb _ _ hX;have ml:(xs.map D.int).length=8:=by rw[zb];exact uM
 refine !!!!⟨.inl {_,hX',by rw[ml];decide,_,_,hX',by rw[ml];exact Ll uM i,_,rfl,?_}⟩;have ff:=FN xs i;have sl:=FK (A:=A) (f:=fX xs) (w:=v) i;have Aq:=hq.sub sb;have u9:=SN (A:=A) (w:=v) f1 (i:=i);have TC:sq A (fX xs) v (i+1)=if v then (lh A (fX xs) v i).2 else (lh A (fX xs) v i).1:=by cases v<;>rfl
 obtain⟨b0,e0,nS⟩:∃b0 e0,lh A (fX xs) v i=(b0,e0):={_,_,rfl};rw[nS]at sl u9 TC;dsimp only at sl u9 TC;refine{Pk a lx d m cs ps wy A v lp (NQ b) i (fX xs i) b0 e0 S',?_,?_};cases v with|true=>(have hn:LM cs ps wy A 0 b=sq A (fX xs) true i:=hn;refine !!⟨k7 !!!!!!⟨Aq.pg (f:=Xg) b ff.1 ff.2 hb λA' p BE hp=>?_⟩⟩;obtain rfl:=hA.one hg ho.pin BE;rw[show Xg cs ps wy A b (NV<|xs.getD (i%8) 0)=(b0,e0) by rw[<-nS];unfold Xg lh;rw[hn];rfl];exact fo ⟨p,hp,rfl,rfl⟩)|false=>have hn:LM cs ps wy A A.length b=sq A (fX xs) false i:=hn;refine !!⟨cu !!!!!!⟨Aq.pg (f:=Xh) b ff.1 ff.2 hb λA' p BE hp=>?_⟩⟩;obtain rfl:=hA.one hg ho.pin BE;rw[show Xh cs ps wy A b (NV<|xs.getD (i%8) 0)=(b0,e0) by rw[<-nS];unfold Xh lh;rw[hn];rfl];exact fo ⟨p,hp,rfl,rfl⟩
 rintro aA S1 ⟨p,hp,rfl,rfl⟩;have s1:=Sub.new (c:=.lst<|(seg A b0 e0).map ah) hp;have my:(S'.set p<|.lst<|(seg A b0 e0).map ah) p=some (.lst<|(seg A b0 e0).map ah):=aa;generalize S'.set p (.lst<|(seg A b0 e0).map ah)=S1 at s1 my⊢;have hlen:=xJ sl.1 sl.2;have SR:Rg cs (seg A b0 e0)/\FE (seg A b0 e0):={hA.an.rg.sub<|(List.take_sublist _ _).trans<|List.drop_sublist _ _,λr hr=>hA.an.ky r<|iZ hr};refine !!{ng,λpe vj=>eq_nil ((Sub.new vj) _ _ my) aa (nM SR.1 SR.2) !⟨bS (λh=>?_) λh=>?_⟩};have h:((seg A b0 e0).map ah).isEmpty=true:=h;have hz:(seg A b0 e0).length=0:=by rw[<-zb (f:=ah),List.isEmpty_iff.mp h];rfl
 have s2:=s1.trans<|Sub.new (c:=.lst []) vj;exact{_,rfl,fo<|q gs lp _ (sb.trans s2) (s2 _ _ HK) (λx hx=>s2 _ _ (hc x hx).2) (by rw[hl];exact SQ) (by rw[hl];exact u9<|by lia)<|by lia};have h:((seg A b0 e0).map ah).isEmpty=false:=h;have pU:b0<e0:=by refine Nat.lt_of_le_of_ne sl.1 λe=>?_;have hz:(seg A b0 e0).length=0:=(by lia);rw[List.length_eq_zero_iff.mp hz]at h;cases h
 have hi1:i+1<=A.length:=by refine Nat.lt_of_le_of_ne Xn λe=>?_;have e1:=FL (w:=v) f1<|Nat.le_of_eq e.symm;have e2:=FL (w:=v) f1 (show A.length<=i+1 by lia);unfold lh at nS;rw[e1,e2]at nS;cases v<;>cases nS<;>lia
 have s2:=s1.trans<|Sub.new (c:=.lst []) vj;have iu:=(Sub.new (c:=.lst []) vj) _ _ my;generalize S1.set pe (.lst [])=S2 at s2 iu⊢;have II:=s2 _ _ HK;refine{_,rfl,{rfl,_,II},_,rfl,lp,_,_,rfl,rfl,II,bg<|by rw[zb];lia,?_};have np:p≠lp:=λe=>by rw[e,HK]at hp;cases hp
 have Pf:(S2.set lp<|.lst<|gs.map (Ef A)++[xK p b0<|A.length-e0]) p=some (.lst<|(seg A b0 e0).map ah):=(ae np).trans iu;have fin:∀b':AC,Bg cs ps b'->LM cs ps wy A (if v then 0 else A.length) b'=sq A (fX xs) v (i+1)->Pi cs ps wy A (fX xs) v S lp (gs++[(p,b0,e0)]) b' (i+1) (S2.set lp<|.lst<|gs.map (Ef A)++[xK p b0<|A.length-e0]):=λb' h1 h2=>by refine{by rw[zE,hl];rfl,hi1,h1,h2,by rw[zC];exact aa,λx hx=>?_,by rw[zC,SQ,List.range_succ,zC];show _=_++[lh A (fX xs) v i];rw[nS];rfl,λx c hx=>(ae<|gA hx DX).trans<|s2 _ _<|sb _ _ hx};rcases zP.mp hx with hx|hx;exact{(hc x hx).1,(ae (hc x hx).1).trans<|s2 _ _ (hc x hx).2};rw[zK.mp hx];exact⟨np,Pf⟩
 generalize S2.set lp (.lst<|gs.map (Ef A)++[xK p b0<|A.length-e0])=S3 at Pf fin⊢;refine !!!{cs,ps,wy,p,seg A b0 e0,b0,_,rfl,hg,ho.pin,ho.len,Pf,SR.1.1,λz=>by rw[z]at hlen;simp at hlen;lia,λr0 r1 q0 q1=>?_};have m0:=zy q0;have m1:=zy q1;have p0:Gp cs ps (HF cs ps "ahead" r0):=pd hg ho.pin (SR.1.1 r0 m0) (SR.2 r0 m0) (by trivial);have p1:Gp cs ps (HF cs ps "behind" r1):=pd hg ho.pin (SR.1.1 r1 m1) (SR.2 r1 m1) (by trivial);rw[rq<|by lia]at q0;rw[hlen,rq<|by lia]at q1;have c0:=(hA.an.at hg ho.pin q0).1;have c1:=(hA.an.at hg ho.pin q1).2;cases v with|true=>(refine{_,rfl,.inr !{_,(show gZ _ 1=some _ from rfl),gs++[(p,b0,e0)],some<|HF cs ps "behind" r1,_,_,_,rfl,fin (some<|HF cs ps "behind" r1) (λg e=>by cases e;exact p1) ?_}};rw[TC];exact c1.trans<|by rw[if_pos rfl];lia)|false=>exact{_,rfl,.inr !{_,(show gZ _ 0=some _ from rfl),gs++[(p,b0,e0)],some<|HF cs ps "ahead" r0,_,_,_,rfl,fin (some<|HF cs ps "ahead" r0) (λg e=>by cases e;exact p0)<|by rw[TC];exact c0}}
 rintro aA S' ⟨gs,b,o9,o10,o11,rfl,hl,Xn,_⟩;have Xn:Int.toNat 60<=A.length:=by rw[<-show(cR 0<|Int.toNat 60).length=Int.toNat 60 from bE];exact Xn
 have:(60:Nat)<=A.length:=Xn;lia
theorem Ln(h:b<=e):A.take e=A.take b++seg A b e:=by unfold seg;rw[<-List.take_add,Nat.add_sub_cancel' h]
theorem Lo:seg A b b=[]:=by unfold seg;rw[Nat.sub_self,List.take_zero]
theorem SS(hw:∀r∈A,Wg cs r.2)(hk:FE A)(h:S x.1=some (Ui A x).2):Ld S 4 (Ef A x):={Xj A x.2.1 x.2.2,K4 hw h,(Ec hw hk).1,(Ec hw hk).2}
theorem Lp(h:SJ cs ps wy A s n=(b,e)):nX cs ps wy A s=b/\b<=e/\e<=A.length/\(b=A.length->seg A b e=[]):=by
 have h1:nX cs ps wy A s=b:=congrArg Prod.fst h;have h2:Bo A (nX cs ps wy A s) n=e:=congrArg Prod.snd h;have:=Ee (cs:=cs) (ps:=ps) (wy:=wy) (A:=A) s;unfold Bo at h2;refine{h1,by lia,by lia,λz=>?_};obtain rfl:b=e:=by lia
 exact Lo
inductive Li(lp:Addr)(A:At)(gs:Gs)(S:ao)(i:Nat)(aA:SD)(S':ao):Prop where
 |mk (p:Addr)(b:Nat)(o3 o4 o5:wP)(h0:aA=[some<|.ref lp,some<|.int (A.length:Nat),some<|.ref p,o3,o4,o5])(h1:S p=none)(h2:S' p=some (.lst<|(A.take b).map ah))(h3:Sub S S')(h4:HJ b ((gs.drop i).map Prod.snd) A.length):Li lp A gs S i aA S'
inductive BF(ds:wp)(S:ao)(R:KD)(Z:KX):Prop where
 |mk (lp:Addr)(A:At)(gs:Gs)(h0:ds=[.ref lp,.int (A.length:Nat)])(h1:S lp=some (.lst<|gs.map<|Ef A))(h2:∀x∈gs,S x.1=some (Ui A x).2)(h3:HJ 0 (gs.map Prod.snd) A.length)(h4:A.length<=59)(h5:∀p,S p=none->R (.ref p) (S.set p<|.lst<|A.map ah))
theorem FO:Ok P w base T.w4 1 BF:=by
 obtain⟨lp,A,gs,e,DX,hc,rA,h59,q⟩:T.w4.F.bF fE;refine{_,(sc (bP (i:=2) fE.nd<|b_ an)<|sc (qX<|GR (il<|dv 0) (gt (n:=3)<|gc (gn (i:=3) fE.nd)<|gc (gn (i:=4) fE.nd)<|gc (gn (i:=5) fE.nd) g0)<|sc (si (twd<|twor (bn g8 (dv 4)<|cb aO T.aL aD<|ap 2 an)<|tw1<|bn g8 (dv 5)<|be kZ (be kZ (dv 1)<|cb aO T.aL aD<|ap 2 an)<|cb aO T.aL aD<|ap 3 an) (s1<|sr dn) s0)<|s1<|bP (i:=2) fE.nd<|be bz (dv 2)<|dv 3)<|s1<|sr<|dv 2),?_};refine{ng,λp0 BS=>?_};refine{λaA S'=>∃(p:Addr)(o3 o4 o5:wP),aA=[some<|.ref lp,some<|.int (A.length:Nat),some<|.ref p,o3,o4,o5]/\S p=none/\S' p=some (.lst<|A.map ah)/\Sub S S',?_,?_};refine !{_,(Sub.new BS) _ _ DX,?_};refine{Li lp A gs S,{p0,0,_,_,_,rfl,BS,aa,.new BS,rA},?_,?_,?_};rintro i aA S' ⟨_,_,_,_,_,_,_,_,sb,_⟩;exact sb _ _ DX;rintro i d aA S' hd ⟨p,b,o3,o4,o5,rfl,hp,Hi,sb,rA⟩;have hd:(gs.map<|Ef A)[i]?=some d:=hd;rw[zi]at hd;obtain⟨x,ex,rfl⟩:=Option.map_eq_some_iff.mp hd;obtain⟨hi,ex'⟩:=zg.mp ex;rw[ye hi,ex']at rA;obtain⟨hb,nS,rA⟩:x.2.1=b/\b<=x.2.2/\HJ x.2.2 ((gs.drop<|i+1).map Prod.snd) A.length:=rA;have hx:=sb _ _<|hc x<|zy ex;have hx:S' x.1=some (.lst<|(seg A b x.2.2).map ah):=by rw[hx,<-hb];rfl
 have hle:=rA.le;have tl:((A.take b).map ah).length=b:=by rw[zb,yi];lia
 have sl:((seg A b x.2.2).map ah).length=x.2.2-b:=by rw[zb];exact xJ nS hle
 refine !{rfl,_,_,rfl,_,_,rfl,_,_,rfl,rfl,?_};refine !!!⟨.inl {_,Hi,_,rfl,kQ ?_ !!!!⟨.inl {_,Hi,_,rfl,_,rfl,.inl {_,hx,_,rfl,kQ ?_ ?_}}⟩}⟩;rw[tl,hb];simp;rw[tl,sl];show(!decide (((A.length-x.2.2:Nat):Int)=((A.length:Nat):Int)-((b:Nat):Int)-((x.2.2-b:Nat):Int)))=false;rw[zu<|by lia];rfl;refine !!{_,_,Hi,hx,sm<|by rw[tl,sl];lia,λp1 my=>?_};rw[<-zC,<-Ln nS];exact{p1,x.2.2,_,_,_,rfl,bX sb my,aa,sb.trans<|.new my,rA};rintro aA S' ⟨p,b,o3,o4,o5,rfl,hp,Hi,sb,rA⟩;have rA:HJ b ((gs.drop (gs.map<|Ef A).length).map Prod.snd) A.length:=rA;rw[zb,List.drop_length]at rA;have hb:b=A.length:=rA;rw[hb,yI]at Hi;exact fo {p,_,_,_,rfl,hp,Hi,sb};rintro aA S' ⟨p,o3,o4,o5,rfl,hp,Hi,sb⟩;refine !{S.set p<|.lst<|A.map ah,λx c hx=>?_,q p hp};by_cases n:x=p;subst n;rw[aa]at hx;cases hx;exact Hi;rw[ae n]at hx;exact sb _ _ hx
structure Ww(t:eZ)(S0:ao)(a k:Addr)(cs:wT)(ps:xL)(wy:Str)(d:D)(q:Wk)(S:ao):Prop where
 fr:Sub S0 S
 k0:S0 k=none
 at':S k=some (xS t.aI q)
 w:q.w=k/\q.a=a/\q.ps=ps/\q.wy=wy/\q.d=d
 f:NY cs ps q.f
 h:NY cs ps q.h
inductive tX(t:eZ)(ds:wp)(S:ao)(R:KD)(Z:KX):Prop where
 |mk (S0:ao)(a k lp lx:Addr)(cs:wT)(rows:At)(ps:xL)(wy:Str)(d:D)(y:Wk)(v:Bool)(A:At)(gs:Gs)(xs:ul)(h0:ds=[.ref k,.ref lp,.ref lx,.str<|Uj v])(h1:Ww t S0 a k cs ps wy d y S)(h2:Qs t S0 a cs ps wy d .av rows)(h3:FD cs ps wy 7 d rows A)(h4:S0 lp=some (.lst<|gs.map<|Ef A))(h5:∀x∈gs,S0 x.1=some (Ui A x).2)(h6:S0 lx=some (.lst<|xs.map D.int))(h7:xs.length=8)(h8:gs.map Prod.snd=(List.range gs.length).map (lh A (fX xs) v))(h9:sq A (fX xs) v gs.length=HH A v)(h10:gs.length<=59)(h11:v=true->nX cs ps wy A y.h=0)
  (h12:∀S' y',Ww t S0 a k cs ps wy d y' S'->R (.bl true) S'):tX t ds S R Z
inductive Wi(t:eZ)(S0:ao)(a k lp lx:Addr)(cs:wT)(ps:xL)(wy:Str)(d:D)(v:Bool)(A:At)(f:Nat->Nat)(i:Nat)(aA:SD)(S':ao):Prop where
 |mk (y':Wk)(o4 o5:wP)(h0:aA=[some<|.ref k,some<|.ref lp,some<|.ref lx,some<|.str<|Uj v,o4,o5])(h1:Ww t S0 a k cs ps wy d y' S')(h2:v=true->nX cs ps wy A y'.h=sq A f v i)(h3:v=false->i≠0->nX cs ps wy A y'.f=sq A f v i):Wi t S0 a k lp lx cs ps wy d v A f i aA S'
inductive Wp(t:eZ)(S0:ao)(a k lp lx:Addr)(cs:wT)(ps:xL)(wy:Str)(d:D)(v:Bool)(A:At)(n i b e:Nat)(aA:SD)(S3:ao):Prop where
 |mk (f' h':Sd)(p:Addr)(h0:aA=[some<|.ref k,some<|.ref lp,some<|.ref lx,some<|.str<|Uj v,some<|.int (i:Nat),some<|xK p b<|A.length-e])(h1:Ww t S0 a k cs ps wy d ⟨k,a,ps,wy,d,n,f',h'⟩ S3)(h2:S3 p=some (.lst<|(seg A b e).map ah))(h3:nX cs ps wy A f'=b)(h4:nX cs ps wy A h'=e)
theorem vW(B:Bm mg base):Ok P w base T.m6 16 (tX t):=by
 obtain⟨S0,a,k,lp,lx,cs,rows,ps,wy,d,y,v,A,gs,xs,e,W0,hq,hA,DX,YE,uk,uM,SQ,Gz,h59,uf,q⟩:T.m6.F.bF eU;have hg:=hq.g;have ho:=hq.o;have ml:(xs.map D.int).length=8:=by rw[zb];exact uM
 have gl:(gs.map<|Ef A).length=gs.length:=zb _;have qs:∀{y':Wk}{S':ao},Ww t S0 a k cs ps wy d y' S'->S' k=some (xS t.aI y')/\Qs t S' a cs ps wy d .av rows:=λh=>{h.at',hq.sub h.fr};have size:∀{y':Wk}{S':ao}(n:Nat),Ww t S0 a k cs ps wy d y' S'->Ww t S0 a k cs ps wy d ⟨k,a,ps,wy,d,n,y'.f,y'.h⟩ (S'.set k<|xS t.aI ⟨k,a,ps,wy,d,n,y'.f,y'.h⟩):=λn h=>{λb c hb=>(ae<|gA hb h.k0).trans<|h.fr b c hb,h.k0,aa,⟨rfl,rfl,rfl,rfl,rfl⟩,h.f,h.h};have HL:∀{n:Nat}{f' h':Sd}{S':ao}{p:Addr}{b e:Nat}(s:Sd),Ww t S0 a k cs ps wy d ⟨k,a,ps,wy,d,n,f',h'⟩ S'->S' p=none->b<=e->e<=A.length->NY cs ps s->(b=e->nX cs ps wy A s=b)->Ww t S0 a k cs ps wy d {k,a,ps,wy,d,n,(ud cs ps (seg A b e) s).1,(ud cs ps (seg A b e) s).2} ((S'.set p<|.lst<|(seg A b e).map ah).set k<|xS t.aI {k,a,ps,wy,d,n,(ud cs ps (seg A b e) s).1,(ud cs ps (seg A b e) s).2})/\((S'.set p<|.lst<|(seg A b e).map ah).set k<|xS t.aI {k,a,ps,wy,d,n,(ud cs ps (seg A b e) s).1,(ud cs ps (seg A b e) s).2}) p=some (.lst<|(seg A b e).map ah)/\nX cs ps wy A (ud cs ps (seg A b e) s).1=b/\nX cs ps wy A (ud cs ps (seg A b e) s).2=e:=λ{n f' h' S' p b e} s h hp nS he hs hn=>by obtain⟨g1,g2,g3,g4⟩:=SM hg ho.pin hA.an nS he hs hn;refine{{λb c hb=>(ae<|gA hb h.k0).trans<|(h.fr.trans<|.new hp) b c hb,h.k0,aa,⟨rfl,rfl,rfl,rfl,rfl⟩,g1,g2},(ae λn=>?_).trans aa,g3,g4};have:=(qs h).1;rw[<-n,hp]at this;cases this
 have drop:∀{y':Wk}{S':ao}{p:Addr}{c:Ce},Ww t S0 a k cs ps wy d y' S'->S' p=none->Ww t S0 a k cs ps wy d y' (S'.set p c):=λh hp=>{h.fr.trans<|.new hp,h.k0,(Sub.new hp) _ _ h.at',h.w,h.f,h.h};have Uk:∀i j,Rg cs (seg A i j)/\FE (seg A i j):=λi j=>{hA.an.rg.sub<|(List.take_sublist _ _).trans<|List.drop_sublist _ _,λr hr=>hA.an.ky r<|iZ hr};refine{_,(sc (qX<|GR (LG T.dN<|ac (cb aO T.aL aD<|ap 1 an) an) (gn (i:=4) eU.nd)<|sc (se<|ox (dv 0) T.aF T.fu (BC T) hr<|ac (aP T.sQ (xR T) hr<|ac (bv (dv 2)<|be bq (dv 4)<|cb aO T.aL aD<|ap 2 an) an) an)<|sc (qX<|si (bn aR (dv 3) ds) (s1<|bP (i:=5) eU.nd<|fJ (dv 0) T.aF T.rh (Le T B) hr)<|s1<|si (bn aR (dv 4) di) (s1<|bP (i:=5) eU.nd<|fJ (dv 0) T.aF T.oJ (Lg T B) hr)<|s1<|bP (i:=5) eU.nd<|fJ (dv 0) T.aF T.kz (BB T B) hr)<|s1<|si (bn WI (dv 5)<|bv (dv 1)<|dv 4) (s1<|sr db) s0)<|sc (se<|ox (dv 0) T.aF T.fu (BC T) hr<|ac (aP T.sQ (xR T) hr<|ac (bv (dv 2)<|be bq (cb aO T.aL aD<|ap 1 an)<|cb aO T.aL aD<|ap 2 an) an) an)<|sc (si (twd<|twor (bn aR (dv 3) ds)<|tw1<|bn WH (dv 1)<|b_ an) (s1<|sr<|bi aR (bv (fJ (dv 0) T.aF T.rh (Le T B) hr) di)<|b_ an) s0)<|s1<|sr<|bi aR (bv (fJ (dv 0) T.aF T.kz (BB T B) hr) di)<|b_ an),?_};refine{Wi t S0 a k lp lx cs ps wy d v A (fX xs) gs.length,?_,?_};refine !!⟨.inl {_,W0.fr _ _ DX,_,rfl,by lia,by lia,?_}⟩;rw[gl];refine{Wi t S0 a k lp lx cs ps wy d v A<|fX xs,{y,_,_,rfl,W0,(λe=>by subst e;exact uf rfl),λ_ z=>absurd rfl z},λ_ _ _ _=>trivial,?_,?_};rintro i dd aA S' hdd ⟨y',o4,o5,rfl,W1,hh,hf⟩;obtain⟨hi,ed⟩:=bU hdd;have hi:i<gs.length:=by lia
 rw[Int.zero_add]at ed;subst ed;obtain⟨e1,e2,e3,e4,e5⟩:=W1.w;have hX:=W1.fr _ _ uk;have ff:=FN xs i;refine !{k,_,rfl,(qs W1).1,rfl,_,rfl,_,rfl,_,rfl,_,rfl,.inl {_,hX,by rw[ml];decide,_,_,hX,by rw[ml];exact Ll uM i,_,rfl,y',fX xs i,by rw[e1];rfl,by rw[e1];exact(qs W1).1,ff.1,ff.2,?_}};rw[e1,e2,e3,e4,e5];have W2:=size (fX xs i) W1;generalize S'.set k (xS t.aI {k,a,ps,wy,d,fX xs i,y'.f,y'.h})=S2 at W2⊢;have sl:=FK (A:=A) (f:=fX xs) (w:=v) i;have Pw:lh A (fX xs) v i=if v then (sq A (fX xs) v i,sq A (fX xs) v<|i+1) else (sq A (fX xs) v<|i+1,sq A (fX xs) v i):=rfl;obtain⟨b,e,nS⟩:∃b e,lh A (fX xs) v i=(b,e):={_,_,rfl};rw[nS]at sl Pw;dsimp only at sl;refine{Wp t S0 a k lp lx cs ps wy d v A (fX xs i) i b e,?_,?_};cases v with|true=>(have hh:=hh rfl;refine !!⟨k7 !{k,_,rfl,(qs W2).1,rfl,{k,a,ps,wy,d,fX xs i,y'.f,y'.h},cs,rows,rfl,(qs W2).1,(qs W2).2,W2.h,λA' p b' e' BE hp he=>?_}⟩;obtain rfl:=hA.one hg ho.pin BE;have eb:(b',e')=(b,e):=(by rw[<-nS,<-he];show(nX cs ps wy A y'.h,Bo A (nX cs ps wy A y'.h)<|fX xs i)=_;rw[hh];rfl);cases eb;have g:=HL y'.h W2 hp sl.1 sl.2 W2.h λ_=>hh.trans (congrArg Prod.fst Pw).symm;exact fo {_,_,p,rfl,g.1,g.2.1,g.2.2.1,g.2.2.2})|false=>refine !!⟨cu !!⟨bS (λh0=>?_) λh0=>?_⟩⟩;have h0:((i:Nat):Int)=0:=zG h0;obtain rfl:i=0:=(by lia);refine !{k,_,rfl,(qs W2).1,rfl,{k,a,ps,wy,d,fX xs 0,y'.f,y'.h},cs,rows,rfl,(qs W2).1,(qs W2).2,trivial,λA' p b' e' BE hp he=>?_};obtain rfl:=hA.one hg ho.pin BE;have eb:(b',e')=(b,e):=(by rw[<-nS,<-he];rfl);cases eb;have g:=HL .e W2 hp sl.1 sl.2 trivial λz=>(congrArg Prod.snd Pw).symm.trans z.symm;exact fo {_,_,p,rfl,g.1,g.2.1,g.2.2.1,g.2.2.2};have h0:¬((i:Nat):Int)=0:=zV h0;have hf:=hf rfl (by lia);refine !{k,_,rfl,(qs W2).1,rfl,{k,a,ps,wy,d,fX xs i,y'.f,y'.h},cs,rows,rfl,(qs W2).1,(qs W2).2,W2.f,λA' p b' e' BE hp he=>?_};obtain rfl:=hA.one hg ho.pin BE;have eb:(b',e')=(b,e):=(by rw[<-nS,<-he];show(nX cs ps wy A y'.f-fX xs i,nX cs ps wy A y'.f)=_;rw[hf];rfl);cases eb;have g:=HL y'.f W2 hp sl.1 sl.2 W2.f λz=>(hf.trans (congrArg Prod.snd Pw).symm).trans z.symm;exact fo {_,_,p,rfl,g.1,g.2.1,g.2.2.1,g.2.2.2}
 rintro aA S3 ⟨f',h',p,rfl,W3,hp,hf',hh'⟩;obtain⟨x,ex⟩:∃x,gs[i]?=some x:={_,ze hi};have e2:x.2=(b,e):=by have:=congrArg (·[i]?) SQ;simp only[zi,ex,List.getElem?_range hi]at this;exact(zS this).trans nS
 have hx:=W3.fr _ _<|YE x<|zy ex;have hx:S3 x.1=some (.lst<|(seg A b e).map ah):=by rw[show b=x.2.1 by rw[e2],show e=x.2.2 by rw[e2]];exact hx
 have lay:=Ec hA.an.rg.1 hA.an.ky (b:=b) (e:=e);have ea:gZ (gs.map<|Ef A) ((i:Nat):Int)=some (xK x.1 b<|A.length-e):=bu (by rw[zi,ex,show b=x.2.1 by rw[e2],show e=x.2.2 by rw[e2]];rfl);refine !!!{_,_,W3.fr _ _ DX,ea,JQ (K4 hA.an.rg.1 hp) (K4 hA.an.rg.1 hx) lay.1 (by have:=lay.2;lia) !⟨aX ?_⟩};refine{_,_,_,rfl,W3,λz=>?_,λz _=>?_};subst z;rw[if_pos rfl]at Pw;exact hh'.trans<|congrArg Prod.snd Pw;subst z;rw[if_neg zd]at Pw;exact hf'.trans<|congrArg Prod.fst Pw;rintro aA S' h;have h:Wi t S0 a k lp lx cs ps wy d v A (fX xs) (cR 0 ((gs.length:Nat):Int).toNat).length aA S':=h;rw[bE,Int.toNat_natCast]at h;exact fo h;rintro aA S' ⟨y',o4,o5,rfl,W1,hh,hf⟩;obtain⟨e1,e2,e3,e4,e5⟩:=W1.w;have hX:=W1.fr _ _ uk;have ff:=FN xs gs.length;refine !{k,_,rfl,(qs W1).1,rfl,_,rfl,_,rfl,_,rfl,.inl {_,W1.fr _ _ DX,_,rfl,_,rfl,.inl {_,hX,by rw[ml];decide,_,_,hX,by rw[ml,gl];exact Ll uM gs.length,_,rfl,y',fX xs gs.length,by rw[e1];rfl,by rw[e1];exact(qs W1).1,ff.1,ff.2,?_}}};rw[e1,e2,e3,e4,e5];have W2:=size (fX xs gs.length) W1;generalize S'.set k (xS t.aI {k,a,ps,wy,d,fX xs gs.length,y'.f,y'.h})=S2 at W2⊢;have zz:=ng;cases v with|true=>(have hh:nX cs ps wy A y'.h=A.length:=(hh rfl).trans Gz;refine !!⟨k7 !{k,_,rfl,(qs W2).1,rfl,{k,a,ps,wy,d,fX xs gs.length,y'.f,y'.h},cs,rows,rfl,(qs W2).1,(qs W2).2,W2.h,λA' p b e BE hp he=>?_}⟩;obtain rfl:=hA.one hg ho.pin BE;have o:=Lp he;have g:=HL y'.h W2 hp o.2.1 o.2.2.1 W2.h λ_=>o.1;refine !{zz,λpe vj=>eq_nil ((Sub.new vj) _ _ g.2.1) aa (nM (Uk b e).1 (Uk b e).2) ?_};rw[show((seg A b e).map ah).isEmpty=true by rw[o.2.2.2<|o.1.symm.trans hh];rfl];exact fo<|q _ _<|drop g.1 vj)|false=>refine !!⟨cu !{zz,λp0 BS=>NT ((Sub.new BS) _ _<|W2.fr _ _ DX) aa (n:=4) (λx hx=>?_) !⟨bS (λh0=>?_) λh0=>?_⟩}⟩;obtain⟨z,hz,rfl⟩:=zh.mp hx;exact SS hA.an.rg.1 hA.an.ky<|(Sub.new BS) _ _<|W2.fr _ _<|YE z hz;have h0:(gs.map<|Ef A).isEmpty=true:=h0;have g0:gs.length=0:=(by rw[<-gl,List.isEmpty_iff.mp h0];rfl);have a0:A=[]:=(by rw[g0]at Gz;exact List.length_eq_zero_iff.mp Gz);have W3:=drop (c:=.lst []) W2 BS;generalize S2.set p0 (.lst [])=S3 at W3⊢;refine !{k,_,rfl,(qs W3).1,rfl,{k,a,ps,wy,d,fX xs gs.length,y'.f,y'.h},cs,rows,rfl,(qs W3).1,(qs W3).2,W3.h,λA' p b e BE hp he=>?_};obtain rfl:=hA.one hg ho.pin BE;have o:=Lp he;have g:=HL y'.h W3 hp o.2.1 o.2.2.1 W3.h λ_=>o.1;refine !{zz,λpe vj=>eq_nil ((Sub.new vj) _ _ g.2.1) aa (nM (Uk b e).1 (Uk b e).2) ?_};rw[show((seg A b e).map ah).isEmpty=true by rw[a0];unfold seg;simp];exact fo<|q _ _<|drop g.1 vj;have h0:(gs.map<|Ef A).isEmpty=false:=h0;have g0:gs.length≠0:=λz=>(by rw[List.length_eq_zero_iff.mp z]at h0;cases h0);have hf:nX cs ps wy A y'.f=0:=(hf rfl g0).trans Gz;have W3:=drop (c:=.lst []) W2 BS;generalize S2.set p0 (.lst [])=S3 at W3⊢;refine !{k,_,rfl,(qs W3).1,rfl,{k,a,ps,wy,d,fX xs gs.length,y'.f,y'.h},cs,rows,rfl,(qs W3).1,(qs W3).2,W3.f,λA' p b e BE hp he=>?_};obtain rfl:=hA.one hg ho.pin BE;have h1:nX cs ps wy A y'.f-fX xs gs.length=b:=congrArg Prod.fst he;have h2:nX cs ps wy A y'.f=e:=congrArg Prod.snd he;obtain⟨rfl,rfl⟩:b=0/\e=0:=(by lia);have g:=HL y'.f W3 hp (zq _) (zU _) W3.f λ_=>hf;refine !{zz,λpe vj=>eq_nil ((Sub.new vj) _ _ g.2.1) aa (nM (Uk 0 0).1 (Uk 0 0).2) ?_};rw[Lo];exact fo<|q _ _<|drop g.1 vj
theorem Sg.up:∀{n:Nat}{d:D},Sg cs n d->Sg cs (n+1) d|0,_,h=>h.elim|n+1,d,h=>by rcases h with h|⟨e,h1,h2⟩|⟨o,ds,h1,h2,h3,h4⟩;exact .inl h;exact .inr<|.inl ⟨e,h1,h2.up⟩;exact .inr<|.inr {o,ds,h1,h2,h3,λe he=>(h4 e he).up}
theorem Px:∀{n:Nat}{d:D},Sg cs n d->pX (n+1) d=pX n d|0,_,h=>h.elim|n+1,d,h=>by show((nB d).map<|pX<|n+1).sum+1=((nB d).map<|pX n).sum+1;rw[zY λf hf=>Px<|Kr h f hf]
theorem Py{cs:wT}{n:Nat}{d:D}(h:Sg cs n d)(h2:pX n d<=40):∀k,Sg cs (n+k) d/\pX (n+k) d<=40|0=>⟨h,h2⟩|k+1=>by obtain⟨a,b⟩:=Py h h2 k;exact{a.up,by show pX (n+k+1) d<=40;rw[Px a];exact b}
theorem SU{P:Program}{w:World}{K:Frag}{mg:Str->Option Value}{base:Heap}{k N:Nat}{f:Addr}{fd:FuncData}{ps:lc}{sp:Nat->qS}(F:∀n,n<=N->bI P w K mg base (fH P w mg) k f fd ps (qU K<|sp n)):bI P w K mg base (fH P w mg) k f fd ps (qU K λds S R Z=>∃n,n<=N/\sp n ds S R Z):=by refine{?_,?_};rintro vs H Q E ⟨ds,S,R,Z,a,b,⟨n,hn,c⟩,d⟩;exact(F n hn).len vs H Q E ⟨ds,S,R,Z,a,b,c,d⟩;rintro A outer s H args us vs Q E hr he hb hv ⟨ds,S,R,Z,a,b,⟨n,hn,c⟩,d⟩;exact(F n hn).run A outer s H args us vs Q E hr he hb hv ⟨ds,S,R,Z,a,b,c,d⟩
theorem rw_eqv(hr:∀x∈r.2,bC x=true)(hs:∀x∈s.2,bC x=true):PyData.eqv (Eb r) (Eb s)=(decide (r.1=s.1)&&Ed r.2 s.2):=by have h:=FH hr hs;simp only[Eb,PyData.eqv,PyData.eqvAll,h,Bool.and_true];congr 1
noncomputable def FP(r:Row):D->Bool|.tup [.str k,.tup ws]=>decide (k=r.1)&&Ed ws r.2|_=>false
noncomputable def Xo(A:At)(r:Row):Bool:=(A.map ah).any<|FP r
theorem NZ{cs:wT}{A:At}{r:Row}(hA:∀x∈A,Wg cs x.2)(hr:Wg cs r.2):Xo A r=true↔r∈A:=by unfold Xo;rw[List.any_map,yx];constructor;rintro⟨x,hx,e⟩;have e:(decide (x.1=r.1)&&Ed x.2 r.2)=true:=e;rw[zI,zR,xQ (hA x hx).all hr.all]at e;rw[<-Prod.ext e.1 e.2];exact hx;intro h;refine{r,h,?_};show(decide (r.1=r.1)&&Ed r.2 r.2)=true;rw[zu rfl,(xQ hr.all hr.all).mpr rfl];rfl
theorem Lq(h:∀x∈r.2,bC x=true):Dl S (ah r) (Eb r):=by obtain⟨a,_,_⟩:=xO (S:=S) h;simp only[ah,Eb,Dl,Dp,DpAll];exact !{_,_,rfl,rfl,_,_,rfl,!⟨a⟩,rfl}
theorem HM{cs:wT}{S:ao}{r:Row}{A:At}(hr:Wg cs r.2)(hk:r.1∈KS)(hA:∀x∈A,Wg cs x.2)(hK:FE A):Each S (ah r) (A.map ah) (FP r):=by obtain⟨l1,l2⟩:=xP hr hk;refine{Eb r,Lq hr.all,l1,λd hd=>?_};obtain⟨x,hx,rfl⟩:=zh.mp hd;obtain⟨m1,m2⟩:=xP (hA x hx)<|hK x hx;exact{Eb x,Lq (hA x hx).all,m1,.inl<|by lia,rw_eqv (hA x hx).all hr.all}
theorem Xp(ns:ul):(dh ns (some 6)<|some 46).length<=40:=by unfold dh;rw[show HT.sIx ns.length 0 (some 6)=min 6 ns.length from HT.sIx_nat ..,show HT.sIx ns.length ns.length (some 46)=min 46 ns.length from HT.sIx_nat ..];exact zJ (List.length_take_le _ _)<|by lia
theorem Snap.srt{rs:mx}{cs:wT}{m:Nat}{rows:At}(h:Snap rs cs m rows):(rows.map Prod.fst).Pairwise λa b=>a.cps.toList<=b.cps.toList:=by obtain⟨kn,ss,rfl,_,_,o,_⟩:=h.ex;unfold ir;rw[zt];show(ss.map id).Pairwise _;rw[List.map_id];exact kF o
theorem BG(A:At):(A.map ah).map HG=(A.map Prod.fst).map D.str:=by rw[zt,zt];rfl
noncomputable def plF(cs:wT)(ps:xL):D->D|.tup [.str k,.tup ws]=>D5 (ps.map λp=>ak cs ws p.1) k|_=>.av
noncomputable def LN(cs:wT)(ps:xL)(r:Row):D:=D5 (ps.map λp=>ak cs r.2 p.1) r.1
inductive FQ(t:eZ)(ds:wp)(S:ao)(R:KD)(Z:KX):Prop where
 |mk (a:Addr)(cs:wT)(ps:xL)(wy:Str)(d m:D)(rows:At)(h0:ds=[.ref a,cN ps wy,d,m])(h1:Qs t S a cs ps wy d m rows)(h2:∀(A:At)(p:Addr),FD cs ps wy 7 d rows A->S p=none->R (.ref p) (S.set p<|.lst<|A.map ah))
theorem Ls(B:Bm mg base):Ok P w base T.plain 13 (FQ t):=by obtain⟨a,cs,ps,wy,d,m,rows,e,hq,q⟩:T.plain.F.bF J5;obtain⟨F,dl,rs,hS,_⟩:=hq.v.sh;obtain⟨ld,lr,ra,h,_⟩:=id hS;refine{_,(sc (se<|aP T.eQ (gb T) hr<|ac (fJ (dv 0) T.aj T.az (aM T) hr)<|ap 1 an)<|sc (se<|aP T.eR (gf T) hr<|ac (fJ (dv 0) T.aj T.az (aM T) hr)<|ap 2 an)<|s1<|sr<|aP T.bV (cE T B) hr<|ap 0<|ap 1<|ap 2<|ap 3 an),?_};refine !{a,_,rfl,h.ins,rfl,a,F,cs,dl,rs,rfl,hS,_,rfl,cs,ps,wy,rfl,hq.g,hq.o.tx,λ_=>?_,λz=>tf hq.o.ok z};refine !{a,_,rfl,h.ins,rfl,a,F,cs,dl,rs,rfl,hS,_,rfl,cs,d,rfl,hq.g,hq.s,?_};exact !!!!{a,cs,ps,wy,d,m,rows,rfl,hq.g,hq.o,hq.s,hq.v,hq.t,λA l pm pw hl=>fo<|q A l (tT hq.v.rg hq.k pm pw) hl}
inductive Lu(t:eZ)(ds:wp)(S:ao)(R:KD)(Z:KX):Prop where
 |mk (ns:ul)(h0:ds=[.jl<|ns.map D.int])(h1:ns.length<=63)(h2:Tb t S)(h3:R (.bl true) S)
theorem N1(B:Bm mg base):Ok P w base T.law 20 (Lu t):=by
 have HN:Ok P w base T.iR 5 _:=SU (sp:=Sr) (N:=3) λn hn=>(oY T n).mono (by lia);obtain⟨ns,e,Ry,htb,q⟩:T.law.F.bF cL;refine{_,(sc (bP (i:=1) cL.nd<|aP T.oI (DH T) hr<|ac (aP T.cT (dE T) hr<|ap 0<|ac di an) an)<|sc (bP (i:=2) cL.nd<|aP T.wW (KO T) hr<|ap 1<|ac (aP T.cT (dE T) hr<|ap 0<|ac di an) an)<|sc (bP (i:=3) cL.nd<|aP T.iR HN hr<|ap 1<|ac (aP T.iQ (j6 T) hr<|ac (aP T.cT (dE T) hr<|ap 0<|ac di an)<|ac di an)<|ac (be bq (aP T.cT (dE T) hr<|ap 0<|ac di an) di) an)<|sc (bP (i:=4) cL.nd<|aP T.iQ (j6 T) hr<|ac (aP T.cT (dE T) hr<|ap 0<|ac di an)<|ac di an)<|sc (sa (aP T.wZ (K_ T) hr<|ap 1<|ac (WL (dv 0) (o1 di)<|o1 di) an)<|gt (n:=3)<|gc (gn (i:=5) cL.nd)<|gc (gn (i:=6) cL.nd)<|gc (gn (i:=7) cL.nd) g0)<|sc (bP (i:=8) cL.nd<|wq<|bv (b_<|ac dn<|ac (be bq (aP T.cT (dE T) hr<|ap 0<|ac di an)<|cb aO T.aL aD<|ap 6 an) an)<|be bq (be cg (aP T.cT (dE T) hr<|ap 0<|ac di an) di) di)<|sc (bP (i:=9) cL.nd<|bv (dv 6)<|GL di)<|sc (qX<|si (bn lQ (dv 8) dn) (s1<|bP (i:=9) cL.nd<|bv (dv 6)<|dv 8) s0)<|sc (bP (i:=10) cL.nd<|sA (N:=["_law_row","_law_columns_here","_law_sieve_here"]) (src:=[none,some 1,some 3]) (km vp) (il<|dv 9) (if1<|tv<|aP T.ib (mm T 7) hr<|ap 1<|ap 2<|ap 0 an)<|dv 0)<|sc (bP (i:=11) cL.nd<|aP T.rf (BD T B) hr<|ap 5<|ap 1<|ap 2<|ap 3<|ap 4<|ac ds<|ap 8 an)<|sc (bP (i:=12) cL.nd<|aP T.rf (BD T B) hr<|ap 5<|ap 1<|ap 2<|ap 3<|ap 4<|ac ds<|ap 8 an)<|sc (si (twd<|twor (bn fm (dv 11) dn)<|tw1<|bn fm (dv 12) dn) (s1<|sr db) s0)<|sc (bP (i:=13) cL.nd<|aP T.w4 (FO T) hr<|ap 11<|ac (cb aO T.aL aD<|ap 10 an) an)<|sc (qX<|si (twd<|twor (bn fm (dv 13) dn)<|tw1<|bn g8 (cb GS T.fQ d_<|ac (sA (N:=["_law_row"]) (src:=[none]) (km vp) (il<|dv 13) nW<|bv (dv 0) di) an)<|sA (N:=["_law_row"]) (src:=[none]) (km vp) (il<|dv 10) nW<|bv (dv 0) di) (s1<|sr db) s0)<|sc (qX<|si (twd<|twor (bn g8 (sA (N:=["_law_row","_law_let_by"]) (src:=[none,some 10]) (km vp) (il<|dv 13) (if1<|bn RM (dv 0)<|dv 1)<|dv 0)<|b_ an)<|tw1<|bn g8 (dv 13)<|aP T.plain (Ls T B) hr<|ap 5<|ap 2<|ap 3<|ap 8 an) (s1<|sr db) s0)<|sc (bP (i:=14) cL.nd<|sA (N:=["_law_row","_law_columns_here","_law_order_here"]) (src:=[none,some 1,some 2]) (km vp) (il<|dv 13) nW<|aP T.wX (K5 T) hr<|ap 1<|ap 2<|ap 0 an)<|sc (qX<|si (cF<|tv<|cb i9 T.ja e_<|ac (sA (N:=["_law_k","_law_order_here","_law_places"]) (src:=[none,some 2,some 14]) (km vp) (ir2 T.dN<|ac di<|ac (cb aO T.aL aD<|ap 14 an) an) nW<|aP T.Dc (NU T) hr<|ap 1<|ac (bv (dv 2)<|be kZ (dv 0) di)<|ac (bv (dv 2)<|dv 0) an) an) (s1<|sr db) s0)<|sc (qX<|si (bn g8 (aP T.w4 (FO T) hr<|ac (aag<|dv 12)<|ac (cb aO T.aL aD<|ap 10 an) an)<|dv 13) (s1<|sr db) s0)<|sc (si (bn fm (dv 8) dn) (sc (bP (i:=15) cL.nd<|mk T.Nj (Lb T) (hr.mono<|by decide) T.Ni T.gT.b d0<|ap 5<|ap 2<|ap 3<|ac di an)<|s1<|sr<|qt (aP T.m6 (vW T B) hr<|ap 15<|ap 11<|ap 4<|ac ds an)<|HW<|aP T.m6 (vW T B) hr<|ap 15<|ap 12<|ap 4<|ac ds an) s0)<|s1<|sr db),?_};refine !{ns,0,rfl,λc0=>{c0,rfl,λcs hcg=>?_}};have hg:=hcg.1;refine !!{ns,1,rfl,λc1=>{cs,c1,rfl,hg,λps wy ho=>?_}};refine !!{ns,2,rfl,λc2=>{c2,14,rfl,by decide,λxs lx uM hx uk=>!{ns,3,rfl,λc3=>{by decide,?_}}}};obtain⟨m,em⟩:=Int.eq_ofNat_of_zero_le<|show 0<=c3%3 from zN _ (by decide);have hm:m<3:=by have:=zL c3 (show(0:Int)<3 by decide);lia
 refine{m+1,by lia,cs,lx,m,xs,rfl,by rw[em];rfl,hcg,aa,by lia,hx,λd ys hd hsz _ _=>?_};rw[bp];have hsq:Sq cs d:=by have h13:pX (m+1) d<=40:=zJ hsz (by rcases m with _|_|_|m<;>first|decide|lia);obtain⟨a,b⟩:=Py hd h13<|6-m;rw[show m+1+(6-m)=7 by lia]at a b;exact{a,by lia}
 have s1:=Sub.new (c:=.lst<|ys.map D.int) uk;generalize S.set lx (.lst<|ys.map D.int)=S1 at s1⊢;clear hx uM uk xs lx;refine !{ns,4,rfl,λc4=>{c4,8,rfl,by decide,λxs lx uM _ uk=>?_}};have s2:=s1.trans<|Sub.new (c:=.lst<|xs.map D.int) uk;have Fh:(S1.set lx<|.lst<|xs.map D.int) lx=some (.lst<|xs.map D.int):=aa;generalize S1.set lx (.lst<|xs.map D.int)=S2 at s2 Fh⊢;refine !!!!⟨λp1 my=>{cs,p1,dh ns (some 6)<|some 46,rfl,hg,by rw[tK];exact aa,Xp ns,λS4 a lk lm kn ce F dl rs hb=>?_}⟩;have s3:=s2.trans<|Sub.new (c:=.lst<|dh (ns.map D.int) (some 6)<|some 46) my;have hX3:=(Sub.new (c:=.lst<|dh (ns.map D.int) (some 6)<|some 46) my) _ _ Fh;generalize S2.set p1 (.lst<|dh (ns.map D.int) (some 6)<|some 46)=S3 at s3 hX3 hb;have s4:=s3.trans hb.st.Ih.sub;have hX:=hb.st.Ih.sub _ _ hX3;have tb4:=htb.sub s4;have BO:=hb.len;have hM:=hb.ml;have ml:(ce.map λx=>D.ref x.1).length=ce.length:=zb _;refine !{rfl,_,_,rfl,_,_,rfl,_,_,rfl,rfl,?_};refine !{ns,5,rfl,λc5=>!!⟨.inl {_,hM,by lia,cX,λp hp=>!{ns,3,rfl,λc6=>{{by decide,by trivial},by decide,cq (zN _<|by decide) (zL _<|by decide) hp λmd N2=>?_}}}⟩};obtain⟨y0,ey0⟩:=hb.at (show dl.length<ce.length by lia);refine !!{_,_,hM,hb.end ey0,?_};rw[ml]at N2;have mo:∃(k:Nat)(y:Addr×List Row),ce[k]?=some y/\Vw t.aq S4 a cs md y.2/\((md=.av/\y=y0)\/(md=.int (k:Nat)/\gZ (ce.map λx=>D.ref x.1) ((k:Nat):Int)=some (.ref y.1))):=by have N2:md∈[D.av,.int<|c5%((ce.length:Nat):Int)]:=N2;simp only[zk,zO,or_false]at N2;rcases N2 with rfl|rfl;exact{_,y0,ey0,hb.vn ey0,.inl ⟨rfl,rfl⟩};obtain⟨k,ek⟩:=Int.eq_ofNat_of_zero_le<|show 0<=c5%((ce.length:Nat):Int) from zN _ (by lia);have hk:k<ce.length:=(by have:=zL c5 (show(0:Int)<((ce.length:Nat):Int) by lia);lia);obtain⟨y,ey⟩:=hb.at hk;rw[ek];exact{k,y,ey,hb.vw ey,.inr {rfl,bu<|by rw[zi,ey];rfl}}
 clear N2 hp;obtain⟨k,y,ey,hv,N2⟩:=mo;have hN:=hb.snap ey;have hY:=hb.cell ey;obtain⟨hrg,h60⟩:=hN.rg;have hky:FE y.2:=hN.key;refine{λaA S'=>aA=[some<|.jl<|ns.map D.int,some<|.tup<|cs.map aB,some<|cN ps wy,some d,some<|.ref lx,some<|.ref a,some<|.ref lm,some<|.ref lk,some md,some<|.ref y.1,none,none,none,none,none,none]/\S'=S4,?_,?_};rcases N2 with⟨rfl,rfl⟩|⟨rfl,eM⟩;exact !!⟨aX<|fo ⟨rfl,rfl⟩⟩;exact !!⟨dJ !!{_,_,hM,eM,fo ⟨rfl,rfl⟩}⟩;rintro aA S' ⟨rfl,rfl⟩;have hq:Qs t S' a cs ps wy d md y.2:=⟨hg,ho,hsq,hv,hky,tb4⟩;refine !{_,hY,?_};refine fF (Bh cs d) id hY (by show(y.2.map ah).length<=_;rw[zb];lia) (λx hx Q Q' hQ Kf=>?_) λlb hlb=>?_;obtain⟨r,jg,rfl⟩:=zh.mp hx;exact !!!{cs,d,r,rfl,hg,hsq.1,hrg.1 r jg,_,rfl,bS (λh=>!⟨hQ h⟩) λh=>Kf h};have eB:((({y.2.map ah,λS=>S y.1=some (.lst<|y.2.map ah)}:nV).xs.filter<|Bh cs d).map id)=(y.2.filter λr=>bh cs r 7 d).map ah:=by show(((y.2.map ah).filter<|Bh cs d).map id)=_;rw[List.map_id,List.filter_map];rfl
 rw[eB];obtain⟨A,hA⟩:=NW (d:=d) (wy:=wy) hg ho.pin hrg hky;have Sb:=hA.pm;have Xq:(y.2.filter λr=>bh cs r 7 d).Sublist y.2:=yy;generalize (y.2.filter λr=>bh cs r 7 d)=Bs at Sb Xq⊢;have hl:=Sb.length_eq;have N3:A.length<=59:=by rw[hl];exact zJ Xq.length_le<|Xm hN
 have hBr:Rg cs Bs:=hrg.sub Xq;have hBk:FE Bs:=λr hr=>hky r<|Xq.subset hr;have s5:=Sub.new (c:=.lst<|Bs.map ah) hlb;have hB5:(S'.set lb<|.lst<|Bs.map ah) lb=some (.lst<|Bs.map ah):=aa;generalize S'.set lb (.lst<|Bs.map ah)=S5 at s5 hB5⊢;refine !!!!!!{a,lx,cs,ps,wy,d,md,xs,true,y.2,A,rfl,hq.sub s5,s5 _ _ hX,uM,hA,N3,λgs lp S6 s6 DX YE SQ Ru hgl=>?_};refine !!!!!!{a,lx,cs,ps,wy,d,md,xs,false,y.2,A,rfl,(hq.sub s5).sub s6,s6 _ _<|s5 _ _ hX,uM,hA,N3,λYF Xr S7 s7 HK Xs Xt Xu abX=>?_};have YG:=s5.trans<|s6.trans s7;have hB7:=(s6.trans s7) _ _ hB5;have hX7:=YG _ _ hX;have Xv:=s7 _ _ DX;have Xw:∀x∈gs,S7 x.1=some (Ui A x).2:=λx hx=>s7 _ _<|YE x hx;have hq7:=hq.sub YG;have eml:(Bs.map ah).length=A.length:=by rw[zb,hl]
 refine !!⟨aX !!⟨aX ?_⟩⟩;refine !!!⟨.inl {_,hB7,lp,A,gs,by rw[eml];rfl,Xv,Xw,by rw[SQ];have:=Lj (A:=A) (f:=fX xs) gs.length;rw[Ru]at this;exact this,N3,λpl dG=>?_}⟩;have s8:=Sub.new (c:=.lst<|A.map ah) dG;have N4:(S7.set pl<|.lst<|A.map ah) pl=some (.lst<|A.map ah):=aa;generalize S7.set pl (.lst<|A.map ah)=S8 at s8 N4⊢;have YH:=s8 _ _ hB7;have ly:∀{SO:ao},∀d∈A.map ah,Ly SO 60 d:=nM hA.an.rg hA.an.ky;have al:(A.map ah).length<=1000:=by rw[zb];lia
 refine{λaA S'=>aA=[some<|.jl<|ns.map D.int,some<|.tup<|cs.map aB,some<|cN ps wy,some d,some<|.ref lx,some<|.ref a,some<|.ref lm,some<|.ref lk,some md,some<|.ref y.1,some<|.ref lb,some<|.ref lp,some<|.ref Xr,some<|.ref pl,none,none]/\S'=S8,?_,?_};refine !!⟨aX !{_,N4,?_}⟩;refine comp_map HG N4 al (λx hx Q hQ=>?_) λpk Ue=>?_;obtain⟨r,_,rfl⟩:=zh.mp hx;exact !!⟨hQ⟩;rw[show({A.map ah,λS=>rX S (.ref pl)<|A.map ah}:nV).xs=A.map ah from rfl,BG];refine{_,A.map Prod.fst,rfl,aa,by rw[zb];lia,λss TR Uh pz hpz=>?_};obtain rfl:ss=Bs.map Prod.fst:=vN (kF Uh) (hN.srt.sublist<|Xq.map _) (TR.nodup_iff.mpr hA.an.rg.2) hBr.2 λz=>TR.mem_iff.trans (Sb.map _).mem_iff;have sk:=(Sub.new Ue).trans<|Sub.new (c:=.lst<|(Bs.map Prod.fst).map D.str) hpz;refine !{_,sk _ _ YH,?_};refine comp_map HG (sk _ _ YH) (by show(Bs.map ah).length<=1000;lia) (λx hx Q hQ=>?_) λpk2 Xx=>?_;obtain⟨r,_,rfl⟩:=zh.mp hx;exact !!⟨hQ⟩;rw[show({Bs.map ah,λS=>rX S (.ref lb)<|Bs.map ah}:nV).xs=Bs.map ah from rfl,BG];refine tD ((Sub.new Xx) _ _ aa) aa (λx hx=>?_) !⟨aX {S8,sk.trans<|.new Xx,rfl,rfl}⟩;obtain⟨z,hz,rfl⟩:=zh.mp hx;obtain⟨r,jg,rfl⟩:=zh.mp hz;exact(Ly.str (fZ _<|hBk r jg).2.2).le (by decide);rintro aA S' ⟨rfl,rfl⟩;refine{λaA SO=>aA=[some<|.jl<|ns.map D.int,some<|.tup<|cs.map aB,some<|cN ps wy,some d,some<|.ref lx,some<|.ref a,some<|.ref lm,some<|.ref lk,some md,some<|.ref y.1,some<|.ref lb,some<|.ref lp,some<|.ref Xr,some<|.ref pl,none,none]/\SO=S',?_,?_};refine !{_,N4,?_};refine fF (λ_=>false) id N4 al (λx hx Q Q' hQ Kf=>?_) λpn lq=>?_;obtain⟨r,jg,rfl⟩:=zh.mp hx;refine !!{lb,Bs.map ah,FP r,rfl,YH,HM (hA.an.rg.1 r jg) (hA.an.ky r jg) hBr.1 hBk,?_};rw[if_pos rfl,show(Bs.map ah).any (FP r)=true from(NZ hBr.1<|hA.an.rg.1 r jg).mpr (Sb.mem_iff.mp jg)];exact{_,rfl,aX<|Kf rfl};rw[show(({A.map ah,λS=>rX S (.ref pl)<|A.map ah}:nV).xs.filter λ_=>false).map id=[] by rw[List.filter_eq_nil_iff.mpr λ_ _ h=>Bool.noConfusion h];rfl];refine{ng,λpe vj=>NH ((Sub.new vj) _ _ aa) aa (λ_ h=>(nomatch h)) !⟨aX ?_⟩};have sB:=(Sub.new (c:=.lst []) lq).trans<|Sub.new (c:=.lst []) vj;refine !!!!!{a,cs,ps,wy,d,md,y.2,rfl,(hq7.sub s8).sub sB,λA' pp BE hpp=>?_};obtain rfl:=hA.one hg ho.pin BE;exact tD ((Sub.new hpp) _ _<|sB _ _ N4) aa ly !⟨aX {S',sB.trans<|.new hpp,rfl,rfl}⟩;rintro aA S8 ⟨rfl,rfl⟩;refine !{_,N4,?_};refine comp_map (plF cs ps) N4 al (λx hx Q hQ=>?_) λpq hpq=>?_;obtain⟨r,jg,rfl⟩:=zh.mp hx;exact !!!{cs,ps,wy,r,rfl,hg,ho.pin,ho.len,hA.an.rg.1 r jg,hQ};rw[show({A.map ah,λS=>rX S (.ref pl)<|A.map ah}:nV).xs.map (plF cs ps)=A.map (LN cs ps) by show(A.map ah).map (plF cs ps)=_;rw[zt];rfl];have ql:(A.map<|LN cs ps).length=A.length:=zb _;refine{λaA S'=>aA=[some<|.jl<|ns.map D.int,some<|.tup<|cs.map aB,some<|cN ps wy,some d,some<|.ref lx,some<|.ref a,some<|.ref lm,some<|.ref lk,some md,some<|.ref y.1,some<|.ref lb,some<|.ref lp,some<|.ref Xr,some<|.ref pl,some<|.ref pq,none]/\S'=S8,?_,?_};have sq:=Sub.new (c:=.lst<|A.map<|LN cs ps) hpq;have YI:(S8.set pq<|.lst<|A.map<|LN cs ps) pq=some (.lst<|A.map<|LN cs ps):=aa;generalize S8.set pq (.lst<|A.map<|LN cs ps)=SD at sq YI⊢;refine !!⟨.inl {_,YI,_,_,rfl,{by decide,by decide,by lia,by lia},?_}⟩;rw[ql];have abZ:=hA.an.lex hg ho.pin;refine comp_map (λ_=>D.bl true) trivial (by show(cR 1 _).length<=1000;rw[bE];lia) (λx hx Q hQ=>?_) λpt Xf=>?_;obtain⟨j,hj⟩:=yu hx;have hj:(cR 1 (((A.length:Nat):Int)-1).toNat)[j]?=some x:=hj;obtain⟨hjn,rfl⟩:=bU hj;have hj1:j+1<A.length:=by lia
 have r0:=ze (show j<A.length by lia);have r1:=ze hj1;have lt:=(List.pairwise_iff_getElem.mp abZ) j (j+1) (by lia) hj1 (by lia);generalize A[j]=ra at r0 lt;generalize A[j+1]=rb at r1 lt;have ma:=zy r0;have mb:=zy r1;have pa:=tN hg ho.pin<|hA.an.rg.1 ra ma;have pb:=tN hg ho.pin<|hA.an.rg.1 rb mb;have ea:gZ (A.map<|LN cs ps) (1+((j:Nat):Int)-1)=some (LN cs ps ra):=by rw[show(1:Int)+((j:Nat):Int)-1=((j:Nat):Int) by lia];exact bu<|by rw[zi,r0];rfl
 have eb:gZ (A.map<|LN cs ps) (1+((j:Nat):Int))=some (LN cs ps rb):=by rw[show(1:Int)+((j:Nat):Int)=((j+1:Nat):Int) by lia];exact bu<|by rw[zi,r1];rfl
 have hQ:Q (.bl true) SD:=hQ;refine !!!{_,_,YI,ea,_,rfl,_,rfl,_,_,YI,eb,ps,wy,_,ra.1,_,rb.1,_,rfl,by rw[zb],by rw[zb],ho.len,pa,pb,hA.an.ky ra ma,hA.an.ky rb mb,?_};rw[show decide (bM (nH ps wy) (ps.map (λp=>ak cs ra.2 p.1)++[.str ra.1]) (ps.map (λp=>ak cs rb.2 p.1)++[.str rb.1])<0)=true from zu lt];exact hQ;refine{_,(cR 1 (((A.length:Nat):Int)-1).toNat).map λ_=>true,rfl,by rw[zt];exact aa,?_};rw[show((cR 1 (((A.length:Nat):Int)-1).toNat).map λ_=>true).all id=true by rw[List.all_map];exact z0.mpr λ_ _=>rfl];exact{_,rfl,kQ rfl {S8,sq.trans<|.new Xf,rfl,rfl}};rintro aA S8 ⟨rfl,rfl⟩;refine{λaA S'=>aA=[some<|.jl<|ns.map D.int,some<|.tup<|cs.map aB,some<|cN ps wy,some d,some<|.ref lx,some<|.ref a,some<|.ref lm,some<|.ref lk,some md,some<|.ref y.1,some<|.ref lb,some<|.ref lp,some<|.ref Xr,some<|.ref pl,some<|.ref pq,none]/\S'=S8,?_,?_};refine !{_,s8 _ _ HK,λpr hpr=>?_};rw[<-List.map_reverse];have sr:=Sub.new (c:=.lst<|YF.reverse.map<|Ef A) hpr;refine !!⟨.inl {_,sr _ _ YH,pr,A,YF.reverse,by rw[eml];rfl,aa,λx hx=>sr _ _<|s8 _ _<|Xs x<|List.mem_reverse.mp hx,by rw[List.map_reverse,Xt];have:=Lk (A:=A) (f:=fX xs) YF.length;rw[Xu]at this;exact this,N3,λpv hpv=>?_}⟩;exact{_,rfl,tD aa ((Sub.new hpv) _ _<|sr _ _ N4) ly !⟨aX {S8,sr.trans<|.new hpv,rfl,rfl}⟩};rintro aA SG ⟨rfl,rfl⟩;have sS:Sub S SG:=s4.trans<|YG.trans s8;rcases N2 with⟨rfl,rfl⟩|⟨rfl,_⟩;refine !!⟨dJ !!!⟨λk hk=>?_⟩⟩;refine{k,a,cs,ps,wy,d,5,F,dl,rs,rfl,hg,ho,hsq,by decide,by decide,(hb.st.sh.sub<|YG.trans s8).sub<|.new hk,aa,rfl,?_};rw[bp];have W0:Ww t SG a k cs ps wy d {k,a,ps,wy,d,5,.s,.s} (SG.set k<|xS t.aI {k,a,ps,wy,d,5,.s,.s}):={.new hk,hk,aa,⟨rfl,rfl,rfl,rfl,rfl⟩,trivial,trivial};refine !!!{SG,a,k,lp,lx,cs,y.2,ps,wy,d,_,true,A,gs,xs,rfl,W0,hq7.sub s8,hA,s8 _ _ Xv,λx hx=>s8 _ _<|Xw x hx,s8 _ _ hX7,uM,SQ,Ru,hgl,λ_=>rfl,λS' y' W1=>?_};exact{_,rfl,dJ !!!{SG,a,k,Xr,lx,cs,y.2,ps,wy,d,_,false,A,YF,xs,rfl,W1,hq7.sub s8,hA,s8 _ _ HK,λx hx=>s8 _ _<|Xs x hx,s8 _ _ hX7,uM,Xt,Xu,abX,nofun,λSO y'' W2=>{S,sS.trans W2.fr,q}}};exact !!⟨aX ⟨S,sS,q⟩⟩
def Lv(t:eZ)(K:Frag):Sp:=λvs H Q _=>qU K (Lu t) vs H Q E0
theorem SV(T:Txt w K mg t)(B:Bm mg base):bI P w K mg base X0 20 t.O6 t.JV ["_law_script"] (Lv t K):=bI.calm<|N1 T B
theorem Lw{w:World}{K:Frag}{mg:Str->Option Value}{t:eZ}(T:Txt w K mg t){H:Hp}{a:Addr}{ns:ul}(hl:ns.length<=63)(hO:AG t.ts H)(hS:jq K H a<|ns.map V.int):Lv t K [.ref a] H (λv _=>v=.bl true) λ_ _ _=>False:=by
 have hR:OC K H a (ns.map V.int):=by rcases hS with (h|h)|h;rcases hO.all a with q|⟨o,xs,q⟩|⟨_,q⟩;rw[q]at h;cases h;rw[q]at h;cases h;rw[q]at h;cases h;exact .inl h;exact .inr h
 have pU:t.aK≠t.aS:=λe=>by have:=T.np;rw[e]at this;simp at this
 have tok:∀q,EI H q #[]:=λq=>{trivial,λ_ _ e=>by cases e};refine{[.jl<|ns.map D.int],λb=>if b=t.aS then some (.tab qK) else if b=t.aK then some (.tab qV) else none,λd _=>d=.bl true,λ_ _=>False,aW (Jj hR<|EH ns) bx,λb c e=>?_,{ns,rfl,hl,{if_pos rfl,(if_neg pU).trans<|if_pos rfl},rfl},λd S v H' e r _ _=>by subst e;exact r.bl,λ_ _ _ z=>z.elim};by_cases h1:b=t.aS;have e:=(if_pos h1).symm.trans e;cases e;rw[h1];exact{#[],hO.tab _ T.mY,tok _};by_cases h2:b=t.aK;have e:=(if_neg h1).symm.trans e;have e:=(if_pos h2).symm.trans e;cases e;rw[h2];exact{#[],hO.tab _ T.kM,tok _};have e:=(if_neg h1).symm.trans e;have e:=(if_neg h2).symm.trans e;cases e
theorem SW{P:Program}{w:World}{K:Frag}{mg:Str->Option Value}{fa:Addr}{ts:io}(QL:mg "law"= some (.ref fa))(T:∃t:eZ,t.ts=ts/\Txt w K mg t):∃(fd:FuncData) (sp:Sp),(∀b∈ts,∃c,codeHdIn K c b=true)/\(∀(s:Shared) (u:Value),BindsTo s fd {[u],[]} [("_law_script",u)])/\(∀base:Heap,Bm mg base->K.In base->base.Ns mainGlobals mg->bI P w K mg base X0 20 fa fd ["_law_script"] sp)/\∀(H:Hp) (a:Addr) (ns:ul),ns.length<=63->AG ts H->jq K H a (ns.map V.int)->sp [.ref a] H (λv _=>v=.bl true) λ_ _ _=>False:=by obtain⟨t,et,T⟩:=T;have e0:=QL.symm.trans T.law.m;cases e0;subst et;exact{_,_,λb hb=>(T.ta b<|hb).elim (λe=>{_,e ▸ T.dP}) λe=>{_,e ▸ T.c_},T.bl,λbase B kb nb=>SV T B,λH a ns hl hO hS=>Lw T hl hO hS}
end My
end Tactic
open Tactic
local macro_rules|`(command|universe $xs*)=>do return Lean.mkNullNode (← (xs[0]!.getId.toString.foldl (fun (h,n,k,l) c=>let n:=n*62+(if c.isDigit then c.toNat-48 else if c.isUpper then c.toNat-55 else c.toNat-61);if k=9 then (h+n-10*62^9,0,0,l.push (h+n-10*62^9)) else (h,n,k+1,l)) (0,0,0,(#[]:Array Nat))).2.2.2.mapM fun v=>`(command|theorem $(Lean.mkIdent (.mkSimple s!"tw{v}")):ident : True:=trivial))
namespace PySem.W.Fast
universe C5ditYzCZdCnqJV2BobgAO6sAk2ATPAP8v4bfrhVB7s5NqUhZ3CcjY6j7IJtAOnlZykBMCBk34xU9rWAAYXCwdkGEAD8uF5kyBSOBgjLAFriVqAuC5ldQzaQKdQIFk9EZaCOyNDEMkkJEHaIEUf40TAYyXGbZD3mAsHwNxUV4RCFR4ClqGJ3FdoscJRpoEA5Wy9TP0SOHIaZSWdaqYAIQMT8QVcBAmSIu5i6FLBWw1PUZVctAZT8zhkMadANSCiT63GyAF8bgDiZqLAS5Y2MnIBwA8q6jLnagJIISLMCatiCFfDZQd4TpOAXEVj3pjAwA2xblwycmvBeXek52v7fBqGMGbcRMlISrOdU8RUUBZlVvVzHEgEbVZOJLBnxC23ilvt5VbBuGCvkw1NtA4bEk6QwfkHGmV32PzcKDpUAujVHrDA1PoiEi7osA463qIE3tXA8mAIPCzrFGiv8WBNTkrDIf0KaH4QABDr4L7yRk5BTrk7Gc6BLA2wo5U9n9ECkFPiMyHKLBXiuDnUOEYB1poQCF3WIBCPTkytLnHBOmxDvlsVpCJLT9BknXmAFOH1Mqfw7BHmMYNBaFTANNTVYfHd0GqIhtAL6aXAxGCbUyJX1E6hPFr46EABEn96LZzOQHhJ9eiJogqBaBuuRVQ04A98b7eV2KRBI9oSIf8HKAvvegb7GYgAnt21Nl0BiEcPx1dVeybAr9d5yYffHBrvzaQuANsBQoyGFe77QMDkY5OpR5zDWfEMA2GYOC7iNa7KuoaAgV8FQr68EC4ZI4k4oDqBRffNDJH9iBPedU2G3qZA6HHKKgjWiACn3XfjR8VCuMXMagEHwAGZGdzFcJwADv64DZaUDAFYpaHvZdmF29wZfx2aiAq99etxiIsCaRNNJ4NZfGfiUS8vQh7CBts4ZH2zWC3evGcDkXoCaZxq7sIbCGXX5z50MeNAdlYEo3PktA0zGllkRYdBVQpEuRB14FSqYXuiiIzDbW3mgbW1XEq4vVzDa9wGWYSeGRy5rC92a7QP1g0DFLR4PRCSjFCFhnIE0EPFjMGT2tXFKA5qNp0igWdA6flphqyETDOKwmDw2I7CV2cKnWdzMA1muQHxdS4AWCDqa2d1hAXQcwePrQQBspNTf71NHGoMg5fucm4DHpMzZDnIFBKBhRzXgirA4j8whsrVWDWLWateRInA2Bdcy3VUFBAJ3QcKv5QBaOcGrm1SMCdGU38dY2yFOOnHMjK29In7dFNNzg8Asn9Jh4gfACDwnG8ZlVjCU43EjFq9lB1fWc9OanFGcB4qvAkPbAfBgEFKY5ZCIKLQ6oKi6HqUbDluP7xAqvpfjC9Q0CFKRL1IE4iIs3g3i7LQuE5YdYrS4nhHYw0vlb0t0AQB61VRKkhAQQZnyis45BEy719YHphBNpdtZvJAdA7BbnIki86DuZeh7fHZ2AEcxbaxsHoBKpm01vfW0BVkdvauXGjEO91VXI08UAxSPipnPRqCoOvwtNjNDAEieAzbTjcAwClrHuBiCByH7wDa996AOcunc17U8EbVi2xQdVDCfxX30HOEjC9Wc3H1z4wBtM6bRS2jMAAlnXWBwNuAKbl4RaC3uA1dzcqWgdsBgvABhx79EBusVkdoiNMFLiod25ynxDSDDogWpeLD37BeOXiHrNqHZ4ZHBw3Cs9xiEeB43DGPnSrpa8qBDh2sUuUUqAPlXNubSbkABdoGRicKKAHtwxDLj6AAlmYqyJ1CeETQbqzaqtiA9id0DQ1BRAhjyHe9x1WDQg3Rv1MDWEhNhcxVa5sIXsYDiGFvVA3KTMghxk4DPdJTVGMkzAsceMgT7mtAHQeqkpfmEBS8No9nnfMAVtL4Ex4PdB312ZdJF8WBsgqdLPNWOCGGZokqH7QA2rcOPHzfjCFQE2DrGctAxOM1ShPBWBDgqEKSqHSBdsiYBEl4yJGtpBxR8vnAXWWar7PUbBXf9mUzYJ7BEatxcVV80AxF4lpFmDeDJSyYLByfWEii4aotA3zM7978JXsRCBKiqj9CD9IA54FBOJE4qCVU5n3YJNpBp0piCL1MdCq8ZZbU86jD1gleMvoFdAwtHCOEpsCK7FoRjAFldAlAc09Crm5AAZIzv7FqJApXdxR0oQtB4EbGgZXHcDONGS3hnxcDWDUcwWkamCtN0cF64YKJuzsqbnSRnBsL0I4flv1G93C9chk4lFkMwcS9EONFSts7ctmcpBOvLI5VL6CAJ8JuLEEymBEVYZYymQmF1F1ZTp8lnCLI6gybXzBKp5rYCOMAOC56DNKJXHLAKZLhExjFQAyrlJjn1ZXG7FEA4wnCNBNSkxjgMJMBkv9rHyjULC7KhPJIftyAk5eYhIJUcA2en2krJzKB4j0fNquNVA6e5ppYh37LieWY0sok3BXr4zf4JxAARQSj6yO46AtFuaLEgZHB5FXHretjFBfw8p0b117FNiEJ1NzmYAfQfkwiNgNDi9aYKBRGRAoMOK92jxRAcxnCU52vbA7wxE7RNZCG1pNnnpzlhASJhLYPdxBB2P8zhPjuVABjENkxoeLAM3DJCwZouAjkNi6wHH4APYO9W7es9AIYH3VSlowAmqxbw4xclEHts52U6RLCEk0JODc8MAkFb4JJpGuBq86kr8pbiBC5jert10kE99VvSUWTRCQm9eArRefBAGpydSvU2CPNKsLu8RYDlVzXgZ3QSBgTlm4sXZzAHgnXIx5hYAn5YRbg0YhBEJepa61leBR5kwByuklA35evzd3TyAzbhhA1CYwC8VNonSclHAokBh2qGygAZNsdh6vuHAexrGSreiUD2v94xEBSCB9GXMkoM4wBlvMNVY34bCnS0XRK3FXCskhlOujprB8NLpox8t0CPwaubski1A4Ytfs0ReMBNpY68VaFIGRrgH87jaVAbjw026zoPJl3ZeLDpvUBXzRn1Y01lCIzIi6VJ7tB0UdmbOMx3D950795h9NA8wNgCA1BtBVGwZ916BgA2giM1Xc19GL4pdaHhbCBLq3xxdqJZAs1TtZ0DtEBaLHe4HJn6CBfSTg1fG5AWW44c7gqSALmmq4697bCGCElsgM7OAgQJ4EGjaOBRKScaFIgXCJE04loJbFC2PwMiPTcREdXAQFB93JBqrJFI0A2mAIZhB1yHuMAoeeRdI6SnBDIV5Jq20mFqh0kI8WiPCm8fzilS3RAkKbHpOfoYAtUkQe5TiWALdKDHhUL4Dp44u9nfJqGREVCUSxJUHy2K1g0165B9mpwUK3uyEwWEMIH4ngCA9RCA1pAjGxN7mcNZDlGyofO7joNzBc3O22uhY3AJx6Yzpt12BIiSzEqztoCInBEkVEDMB0hpiLQB5KBqjJMraBO9AfAAthHPb5E6ctmTaPPmAu0sC35iEbAeWXelGIwJBOweFne0enAdfHNJk1brAOB7PZLFDCDE8zBdqMvuCwPBOTLdHTAFmzBmt6QYBm9QgFn8UCAcSXaPKkJuAa3uwlY3UQCX5HjugTi3BF4IU9HEN5A7qwkDcB6kBgdIscErIZGVhdioo4zTEAL4YoVqk0Aq4qoRc5IABgTJsXB2w0AXt1txAyYsGh4OhJwnRAAJ1wgRtIvbLnovBwVtsTBUXHhdzsjcA08x0rxPPZCDM1JtLOC7Dgie9UxJjmBF5TMns6KiBlS9TF6mcCArsuwA9B1yDLXwhGR0hqACqyLENRjAA7kNs2gsRuAAOFiCTopcADgPDIqj68FszY23DiNzBB4CpKKjAnBMLhoG7JjREx7l5C3mEbAVFdieDveAAyQFblzsd9B0wtNZbRF4EVqb7FUiAQAtfqt4cVM1A5pEdiTHZfEkvlN8RjLZB60QImHvAhDCh8KuEenoEQy453IzgjAMnPOflCWQA0KIrzOnDvAI1JR6Fbh3BpCNvnSRXNCaCcGW2kDQAQmi2BvTIKBiQWDMDX0bA2gvaem0crCOMiTn1JcpCqlpF5dbGtCiQBoMCUEFAxp7t39TFQAv4U6ttqi7BQ5HZDS89lEVQw73quBOAIXeCTl8NdAbeT5AbeF3Cq0pZOCXPgEn1mwwBklODlWVdfYsTdAPNwv7MHZVBH3xbcfKK3BT8lygh9mwBHNYj4WxUzCQS13AGNyzGjBGvfVN4CAodXXM0hCoA2j0SSlRCTBsQwV9dnvVD8q373B98ZA2zMhemcxMFxeqgaotWSAaZ4wzzYs8Bk8OCyryPIHX1gTNNQWAFmf9OSLBmCAzg4qea12bBmG7RT1SH7AGUaXTVkDrH4wR9K8VfjC3uhzEhDBJCXHRnvpNmABYzzMm6bbpA4aJNBEGd6Db4azJL8IUAi2AdcdUGRFyXY05l9N7AO5qPi9lAwBPoV8AFbczMxbiOM2salAKxQy9eABkApHLwHHYmJBBBqaiHTkSHVNEmaQUFdAkwhSCuPUxIU7TrM4q1sAE14dNlat9AKhUWKxPnGB848umnboSB02hbUVa5iC6Xg7JQAfJAWa68Wd19rEPaQNoPLX6BBvZR2ffkXCdIrTjoK9iAsKZd6QSSqAfkrnqKLh6A7xakQmj7cATISfrFpLoA6pQe53V21BjG6mgQod4HkB1n27eYkAvOrk8GTbqDnd54o6P1CCkyoaLzf39AStaIWMM50EDKmQCu07lBvF8jFd73HCdvLD62h8wAmzms66sSuBRT0y0d9DFDLsXEtkG45CMNLKwRuRZCiSu7HRZr6Ayl1oCGMZlAfQvc6NsRkB5TzR8DgedBSP1xqbmmWAVbKwLrsnAACeBdnCrJLC4GxocOFcQHZW25RG5LbBouQBBMZZRB7k90JibL0APVMBRrsTuA7jvMBbrtAAGSNoMEX1XAUG4y1TT9zCNb01HeUwTCetLcPKl1gBzxCyUbj7cBigE0SZirNCUrABpPHM0Cy7jtWD3x8BfjvO81CIkAsssVkKbV8CbAMwRKYBoBw8EkGRZ7ICf6hxfQIBqCQuV3iYJBxAI5SJ3mY02A49HGClVUrDLrZzvnseqCGb6nwBmMmDpsLQctSdUCKVJDjYWZxB2kp6nqV39BEklHM7p9OAFO8Ug4r4yCQ2t2uQLbDAd7dGvGG5nACfbAvt1lJA8hNlyI4MzDY8o7PNncfAYlR0u1HxEC1rfMDUM9LAb8HYGW369AE8rj9GUCbANq6HP5dKuJ45oBZv5ZFAKj7x4IMvNLR2RmAHkCKAEgYYkc8eDC4Uus2e3ovEgEeTFBHxhBK2RwAWsLdH0Zo1mrefxBOj4o6ivYhAYGIfdKXIxBbKJTzyNXTCYAlTqRSykC5NoUO0rRhAcxWOij5OBBSALVFLcDdEFScugk4HnDdC9lqwYqEAUJcbaMqH1CDU4T3I67gFLjaSWxSvLB2c8FryxqlDOUQsBrEJ9BoBkO1Ckh7KUDHqlzdwkAFD3j0h7ZZAQm1KQ3wkzCOwOMqWZPXANrw2xaYzTBitW4KjOCoBBN3vWjpZNEW1gzmLYaoAeqK7IGqs4BzvAjGTlYPBha3WNWRpqBGHpDz7R8bCkMgAS6vruARrgAfEtUkBPCW3LXf2zAn28YVoQtCDXUsAGNx2gFjzt0ga0c2EhLULARlytCjdrHlopU2APsdWDFbIRA9cldBk2PdAWGSQM4CdVDPe8E1E1CBFq7CdZOhgTDa1XJ0xFnMDu0YUJeBkfCNNLQe6jxdD7FtPOrz14ANQbfCsQTRDb8VjeOCZyAPFrqoCiXpBK6zvNIQETBhGYSyITdiDnKQgI5lEbAT8OMjrTkhDRdBz3CpCgAeSdGMJhKDCX7HV4px05CouxhH7f3sDwVJtjS82kAqMh7M5ihMATkXBuGiJfEd3qyXM7hTBRFWQ1ZcYaIefm5UWlxnAhn9vutCTLCVXZDoBOpi
end PySem.W.Fast
open PySem PySem.W PyProof.Rows
local macro_rules|`(tactic|trivial)=>`(tactic|(first|exact L2.T5 fun _=>rfl|exact L2.ln2 fun _ _=>rfl|exact L2.RH fun _ _ _=>rfl|exact L2.WG fun _ _ _ _=>rfl|exact L2.Yr fun _ _ _ _ _=>rfl|exact L2.O5 fun _ _ _ _ _ _=>rfl|exact L2.wD fun _=>L2.O5 fun _ _ _ _ _ _=>rfl|exact L2.Yq rfl))
set_option maxRecDepth 100000 in
set_option maxHeartbeats 0 in
theorem PySem.Challenge.cw_pageturns_k81_whole_pages_end_to_end_holds : PySem.Challenge.rw_pageturns_k81_whole_pages_end_to_end.Holds := by
 w_on;o_law;k_head;(case hw=>w_witness2)
 k_fill
 refine L2.JO (l:=PySem.Challenge.rw_pageturns_k81_whole_pages_end_to_end) (n:=63) (k:=20) (x := "_law_script") (CX:=L2.X0) rfl (by decide) rfl ⟨rfl,by decide,by decide⟩ (fun w h Y=>PySem.W.km_in_of Y) (fun w h Y=>PySem.W.km_tabs_of Y) (fun w h Y=>L2.M0 Y (by trivial)) ?tF fun _ _ _ _ z=>z
 intro w mg fa h KX G QL
 refine My.SW QL ?_
 refine' L2.gvc KX G "Shelf" ?a ?b ?c ?d ?e ?f ?g fun N5 aq N6 k_Shelf=>?_
 (case a|b|c|d|e|f|g=>k_is)
 refine' L2.gvc KX G "Walk" ?a ?b ?c ?d ?e ?f ?g fun SX aI SY k_Walk=>?_
 (case a|b|c|d|e|f|g=>k_is)
 refine' L2.afx KX G (l:=[17,18,19,20,21,22,23,24,25,26,29,30,31,32,33,34,35,41,42,43,44,45,46,47,48,49,50,51,57,58,59,60,61,62,63,66,67,68,70,76,77,78,79,80,81,82,83,84,85,86,89,95,96,97,98,99,100,101,102,103,104,105,106,107,108,109,110,111,112,113,114]) (top:=My.top) ?xF fun f0 g0 A0=>?zF
 case xF =>
  repeat' (refine' L2.af KX G _ (by decide) ?a ?b ?c ?d ?e ?_;(case a|b|c|d=>k_is);(case e=>trivial))
  exact L2.af0
 refine' L2.amx aq (l:=[0,1,2,3,4,5,6,7,8,13]) (q := "Shelf.") (cl:=My.bw) ?xMShelf fun C7 ab0 Eg=>?zMShelf
 case xMShelf =>
  repeat' (refine' L2.am aq _ (by decide) ?a ?b ?c ?d ?f ?e ?_;(case a|b|c|d|f=>k_is);(case e=>trivial))
  exact L2.am0
 refine' L2.amx aI (l:=[0,1,2,4,8,10,11,12,13,14]) (q := "Walk.") (cl:=My.fb) ?xMWalk fun JW adB Lx=>?zMWalk
 case xMWalk =>
  repeat' (refine' L2.am aI _ (by decide) ?a ?b ?c ?d ?f ?e ?_;(case a|b|c|d|f=>k_is);(case e=>trivial))
  exact L2.am0
 refine' L2.fnd KX G "plain" (My.top 65) ["shelf","order","sieve","moment"] ?a ?b ?c ?d ?e ?f ?g fun d0 F0 D0=>?_
 (case a|b|c|d|e=>k_is)
 (case f=>intro s us t;revert us;exact L2.WG fun _ _ _ _=>.of_defaults rfl t rfl rfl rfl)
 (case g=>intro s us t;revert us;exact L2.aa4 fun _ _ _=>.of_defaults rfl t rfl rfl rfl)
 refine' L2.fnl KX G "sorted_by_keys" (My.top 69) ["rows","way"] ?a ?b ?c ?d ?e fun d1 e1 B1 F1=>?_
 (case a|b|c|d=>k_is)
 (case e=>exact L2.ln2 fun _ _=>rfl)
 refine' L2.fnl KX G "sorted_by_values" (My.top 71) ["columns","part","rows"] ?a ?b ?c ?d ?e fun d2 e2 B2 F2=>?_
 (case a|b|c|d=>k_is)
 (case e=>exact L2.RH fun _ _ _=>rfl)
 refine' L2.fne KX G "page_on" (My.top 74) ["shelf","order","sieve","size","gap","moment"] #[.none,.none] ?a ?b ?c ?d ?e ?f fun d3 F3=>?_
 (case a|b|c|d|e=>k_is)
 (case f=>intro s us t;revert us;exact L2.O5 fun _ _ _ _ _ _=>.of_defaults rfl t rfl rfl rfl)
 refine' L2.fne KX G "page_back" (My.top 75) ["shelf","order","sieve","size","gap","moment"] #[.none,.none] ?a ?b ?c ?d ?e ?f fun d4 F4=>?_
 (case a|b|c|d|e=>k_is)
 (case f=>intro s us t;revert us;exact L2.O5 fun _ _ _ _ _ _=>.of_defaults rfl t rfl rfl rfl)
 refine' L2.fnl KX G "law" (My.top 115) ["_law_script"] ?a ?b ?c ?d ?e fun d5 e5 B5 F5=>?_
 (case a|b|c|d=>k_is)
 (case e=>exact L2.T5 fun _=>rfl)
 refine' L2.fmd aq "worths_at" "Shelf.worths_at" ((L2.inClass My.bw 9)) ["self","key","moment"] ?a ?b ?c ?d ?e ?f ?g ?h fun d6 F6 D6=>?_
 (case a|b|c|d|e|f=>k_is)
 (case g=>intro s us t;revert us;exact L2.RH fun _ _ _=>.of_defaults rfl t rfl rfl rfl)
 (case h=>intro s us t;revert us;exact L2.aa3 fun _ _=>.of_defaults rfl t rfl rfl rfl)
 refine' L2.fmd aq "all_at" "Shelf.all_at" ((L2.inClass My.bw 10)) ["self","moment"] ?a ?b ?c ?d ?e ?f ?g ?h fun d7 F7 D7=>?_
 (case a|b|c|d|e|f=>k_is)
 (case g=>intro s us t;revert us;exact L2.ln2 fun _ _=>.of_defaults rfl t rfl rfl rfl)
 (case h=>intro s us t;revert us;exact L2.aa2 fun _=>.of_defaults rfl t rfl rfl rfl)
 refine' L2.Na KX G "MOST_NAME_SIGNS" 8 ?a fun nO=>?_
 (case a=>k_is)
 refine' L2.Na KX G "MOST_KEY_SIGNS" 12 ?a fun pf=>?_
 (case a=>k_is)
 refine' L2.Na KX G "MOST_WORD_SIGNS" 40 ?a fun nQ=>?_
 (case a=>k_is)
 refine' L2.Na KX G "MOST_COLUMNS" 8 ?a fun tY=>?_
 (case a=>k_is)
 refine' L2.Na KX G "MOST_PARTS_orders" 8 ?a fun kU=>?_
 (case a=>k_is)
 refine' L2.Na KX G "MOST_DEEP" 8 ?a fun BH=>?_
 (case a=>k_is)
 refine' L2.Na KX G "MOST_PARTS_sieves" 200 ?a fun kW=>?_
 (case a=>k_is)
 refine' L2.Na KX G "MOST_IN_A_TUPLE" 8 ?a fun nR=>?_
 (case a=>k_is)
 refine' L2.Na KX G "MOST_ROWS" 1000 ?a fun BI=>?_
 (case a=>k_is)
 refine' L2.gvs KX G "START" "start" ?a fun N7=>?_
 (case a=>k_is)
 refine' L2.gvs KX G "END" "end" ?a fun Xy=>?_
 (case a=>k_is)
 refine' L2.WE KX G "KINDS" ?a ?b fun N8 w_KINDS=>?_
 (case a|b=>k_is)
 refine' L2.WE KX G "OTHER_WAY" ?a ?b fun BJ w_OTHER_WAY=>?_
 (case a|b=>k_is)
 refine' L2.WE KX G "OTHER_END" ?a ?b fun BK w_OTHER_END=>?_
 (case a|b=>k_is)
 refine' L2.WE KX G "OTHER_SIDE" ?a ?b fun xT w_OTHER_SIDE=>?_
 (case a|b=>k_is)
 refine' L2.WE KX G "LENGTHS" ?a ?b fun HP w_LENGTHS=>?_
 (case a|b=>k_is)
 have Xz:=L2.BQ KX G "len" (by k_is) id
 have XB:=L2.BQ KX G "all" (by k_is) id
 have XD:=L2.BQ KX G "any" (by k_is) id
 have xU:=L2.BQ KX G "isinstance" (by k_is) id
 have N9:=L2.BQ KX G "range" (by k_is) id
 have XE:=L2.BQ KX G "int" (by k_is) id
 have XF:=L2.BQ KX G "str" (by k_is) id
 have S9:=L2.BQ KX G "bool" (by k_is) id
 have N_:=L2.BQ KX G "tuple" (by k_is) id
 have S_:=L2.BQ KX G "dict" (by k_is) id
 have XG:=L2.BQ KX G "set" (by k_is) id
 have XH:=L2.BQ KX G "zip" (by k_is) id
 have Lz:=L2.BQ KX G "sorted" (by k_is) id
 have XI:=L2.BQ KX G "min" (by k_is) id
 have XJ:=L2.BQ KX G "max" (by k_is) id
 have Eh:=L2.BQ KX G "reversed" (by k_is) id
 refine' L2.Nb KX G "BadColumns" ?a ?b fun xV dO=>?_
 (case a=>k_is)
 (case b=>k_exc)
 refine' L2.Nb KX G "BadRow" ?a ?b fun LA h_=>?_
 (case a=>k_is)
 (case b=>k_exc)
 refine' L2.Nb KX G "BadOrder" ?a ?b fun Ei dy=>?_
 (case a=>k_is)
 (case b=>k_exc)
 refine' L2.Nb KX G "BadSieve" ?a ?b fun Ej iJ=>?_
 (case a=>k_is)
 (case b=>k_exc)
 refine' L2.Nb KX G "BadPlace" ?a ?b fun Ek dA=>?_
 (case a=>k_is)
 (case b=>k_exc)
 refine' L2.Nb KX G "BadSize" ?a ?b fun HQ oB=>?_
 (case a=>k_is)
 (case b=>k_exc)
 refine' L2.Nb KX G "HasKey" ?a ?b fun LB sM=>?_
 (case a=>k_is)
 (case b=>k_exc)
 refine' L2.Nb KX G "NoKey" ?a ?b fun Oa wN=>?_
 (case a=>k_is)
 (case b=>k_exc)
 refine' L2.Nb KX G "NoMoment" ?a ?b fun El lZ=>?_
 (case a=>k_is)
 (case b=>k_exc)
 have qG:=L2.Nc aq "columns" (by k_is) id
 have uQ:=L2.Nc aq "deeds" (by k_is) id
 have xW:=L2.Nc aq "runs" (by k_is) id
 have xX:=L2.Nc aI "shelf" (by k_is) id
 have xY:=L2.Nc aI "order" (by k_is) id
 have xZ:=L2.Nc aI "sieve" (by k_is) id
 have BL:=L2.Nc aI "size" (by k_is) id
 have BM:=L2.Nc aI "fore" (by k_is) id
 have uR:=L2.Nc aI "hinder" (by k_is) id
 refine' L2.gvm KX e1 ?a ?b ?c fun ph=>?_
 (case a=>k_is)
 (case b=>rfl)
 (case c=>first|rfl|decide|simp [codeHdIn])
 refine' L2.gvm KX e2 ?a ?b ?c fun mn=>?_
 (case a=>k_is)
 (case b=>rfl)
 (case c=>first|rfl|decide|simp [codeHdIn])
 exact⟨⟨_,_,_,_,_,_,_,_,_,_,_,_,_,_,_,_,_,_,_,_,_,_,_,_,_,_,_,_,_,_,_,_,_,_,_,_,_,_,_,_,_,_,_,_,_,_,_,_,_,_,_,_,_,_⟩,rfl,⟨A0,Eg,Lx,F0,D0,F1,F2,F3,F4,F5,F6,D6,F7,D7,nO,pf,nQ,tY,kU,BH,kW,nR,BI,N7,Xy,N8,fun H=>L2.OD (xs:=[.str "number",.str "word"]) ⟨_,_,_,w_KINDS,rfl,rfl,(by rw[yg];show 2≤16777216;decide),.cons ⟨_,rfl⟩ (.cons ⟨_,rfl⟩ (.nil))⟩ (L2.qR ["number","word"]),BJ,⟨by first|rfl|decide,_,_,_,w_OTHER_WAY,⟨rfl,rfl,rfl⟩,rfl,.cons ⟨rfl,⟨_,rfl⟩,⟨_,rfl⟩⟩ (.cons ⟨rfl,⟨_,rfl⟩,⟨_,rfl⟩⟩ (.nil)),by trivial⟩,BK,⟨by first|rfl|decide,_,_,_,w_OTHER_END,⟨rfl,rfl,rfl⟩,rfl,.cons ⟨rfl,⟨_,rfl⟩,⟨_,rfl⟩⟩ (.cons ⟨rfl,⟨_,rfl⟩,⟨_,rfl⟩⟩ (.nil)),by trivial⟩,xT,⟨by first|rfl|decide,_,_,_,w_OTHER_SIDE,⟨rfl,rfl,rfl⟩,rfl,.cons ⟨rfl,⟨_,rfl⟩,⟨_,rfl⟩⟩ (.cons ⟨rfl,⟨_,rfl⟩,⟨_,rfl⟩⟩ (.nil)),by trivial⟩,HP,⟨by first|rfl|decide,_,_,_,w_LENGTHS,⟨rfl,rfl,rfl⟩,rfl,.cons ⟨rfl,⟨_,rfl⟩,⟨_,rfl⟩⟩ (.cons ⟨rfl,⟨_,rfl⟩,⟨_,rfl⟩⟩ (.cons ⟨rfl,⟨_,rfl⟩,⟨_,rfl⟩⟩ (.cons ⟨rfl,⟨_,rfl⟩,⟨_,rfl⟩⟩ (.cons ⟨rfl,⟨_,rfl⟩,⟨_,rfl⟩⟩ (.cons ⟨rfl,⟨_,rfl⟩,⟨_,rfl⟩⟩ (.cons ⟨rfl,⟨_,rfl⟩,⟨_,rfl⟩⟩ (.cons ⟨rfl,⟨_,rfl⟩,⟨_,rfl⟩⟩ (.cons ⟨rfl,⟨_,rfl⟩,⟨_,rfl⟩⟩ (.nil))))))))),by trivial⟩,Xz,XB,XD,xU,N9,XE,XF,S9,N_,S_,XG,XH,Lz,XI,XJ,Eh,xV,dO,LA,h_,Ei,dy,Ej,iJ,Ek,dA,HQ,oB,LB,sM,Oa,wN,El,lZ,N5,aq,⟨N6,(Eg 0 (by decide)).e.at_,(Eg 0 (by decide)).e.fn,k_Shelf⟩,qG,uQ,xW,SX,aI,⟨SY,(Lx 0 (by decide)).e.at_,(Lx 0 (by decide)).e.fn,k_Walk⟩,xX,xY,xZ,BL,BM,uR,e1,ph,by simp,e2,mn,by simp,by simp,by simp,fun s v=>B5 s [v] rfl⟩⟩
