import PyProof.Rows.All
import Wide.All
import OpenK.AllK
import Wide.FinOn
import Lean
import PyProof.EqAt
import PyProof.EqKinds
import PyProof.TupleCall
import PyProof.NsDelKeeps
import KE.KIsBytes
import PyProof.Rows.SetFrom
import KE.KDictOf
import PyProof.AttrMissSeq
import PyProof.WalksMore
import PyProof.ZipIter
import PyProof.StrBlock2
import PyProof.StrBlockI
import PyProof.Rows.StrJoin2
import PyProof.Rows.CountFlat
import PyProof.Rows.Range3
import PyProof.SumWalkG
import PyProof.Rows.ListMulArg
import PyProof.FactsAll.tuple
import PyProof.EnumFor
import PyProof.EnumMake
import KE.KDictLaws
import KE.KDictSum
import KE.KRevIter
import PyProof.Rows.SortStr
import PyProof.Rows.SortWalk
import PyProof.AutoListH
import PyProof.StrLawsReplace
import PyProof.Rows.SortShellK
import KE.KLam
import KE.KSortKey
import KE.KNestM
import PyProof.EnumStmt
import PyProof.ListMulRoad
import PySem.Challenge.RW_pageturns_k33_pages_refused
set_option compiler.extract_closed false
set_option hygiene false in
local macro_rules|`(tactic|obtain $p:rcasesPatMed)=>`(tactic|(rintro _ _ _ _ _ _ _ S R Z hr ($p:rcasesPatMed);subst e))
local macro_rules|`(tactic| trivial)=>`(tactic| decide +kernel)
set_option Elab.async false
set_option linter.all false
set_option maxRecDepth 100000
set_option genInjectivity false
set_option genSizeOfSpec false
namespace Tactic
theorem qQQ(h:True:=by rfl):True:=h
def qQJ:Lean.Syntax:=qQQ._auto_1
theorem qQX(h:True:=by decide):True:=h
def qQZ:Lean.Syntax:=qQX._auto_1
theorem qQK(h:True:=by intro _;rfl):True:=h
def qQ0:Lean.Syntax:=qQK._auto_1
theorem qQ1(h:True:=by with_unfolding_all rfl):True:=h
def qQ2:Lean.Syntax:=qQ1._auto_1
theorem qQ3(h:True:=by exact⟨rfl,rfl,rfl,rfl⟩):True:=h
def qQ4:Lean.Syntax:=qQ3._auto_1
theorem qQ5(h:True:=by first|exact .inl rfl|exact .inr rfl|assumption):True:=h
def qQ6:Lean.Syntax:=qQ5._auto_1
theorem qQ7(h:True:=by first|exact .inl rfl|exact .inr rfl):True:=h
def qQ8:Lean.Syntax:=qQ7._auto_1
theorem qQ9(h:True:=by intro _ _ _ _ _;exact{Or.inl rfl,rfl}):True:=h
def qJQ:Lean.Syntax:=qQ9._auto_1
theorem qJJ(h:True:=by first|decide|omega):True:=h
def qJX:Lean.Syntax:=qJJ._auto_1
theorem qJZ(h:True:=by first|exact Or.inl rfl|exact Or.inr rfl):True:=h
def qJK:Lean.Syntax:=qJZ._auto_1
theorem qJ0(h:True:=by intro _ _ _ _ _;rfl):True:=h
def qJ1:Lean.Syntax:=qJ0._auto_1
theorem qJ2(h:True:=by trivial):True:=h
def qJ3:Lean.Syntax:=qJ2._auto_1
local macro_rules|`({$a:term})=>`(⟨$a⟩)|`({$a:term,$b:term,*})=>`(⟨$a,$b,*⟩)
local macro_rules|`(!$t)=>do{let mut t:=t;let mut n:=1;for _ in [0:20] do{if let `(!$u):=t then{t:=u;n:=n+1}};let xs←(match t with|`(⟨$x,*⟩)=>pure x.getElems|`({$x:term,$y:term,*})=>pure (#[x]++y.getElems)|_=>Lean.Macro.throwUnsupported);let mut a:=xs;for _ in [0:n] do{a:=#[←`(_),←`(rfl)]++a};`(⟨$a,*⟩)}
open PySem.W (instObj methodObj hideAll hideAll_get of_hideAll Frag lookIn plainGet hasDictIn findIn handedIn plainGet_of isFn plainOver takerIn makesIn emptyDict looks_findIn specialIn keepIn mroIn kitOne kia_one kitx_list cellsFrom_some fnOf codeIn codeRec_of excIn Looks KitX kitAny callWith_K callWith_K0 methodCall_KW envX kla_fn codeHdIn tabObj codeHd_of_K nsIn mg_of)
theorem za:type_of%@PySem.wpAny_bind:=@PySem.wpAny_bind
theorem zb:type_of%@PySem.Heap.get?_push_of_some:=@PySem.Heap.get?_push_of_some
theorem zc:type_of%@List.length_map:=@List.length_map
theorem zd:type_of%@Bool.false_ne_true:=@Bool.false_ne_true
theorem ze:type_of%@List.mem_map:=@List.mem_map
theorem zf:type_of%@PySem.wpAny_pure:=@PySem.wpAny_pure
theorem zg:type_of%@List.mem_cons:=@List.mem_cons
theorem zh:type_of%@List.getElem?_eq_getElem:=@List.getElem?_eq_getElem
theorem zi:type_of%@PySem.Heap.get?_push_size:=@PySem.Heap.get?_push_size
theorem zj:type_of%@List.mem_cons_of_mem:=@List.mem_cons_of_mem
theorem zk:type_of%@List.size_toArray:=@List.size_toArray
theorem zl:type_of%@Nat.le_refl:=@Nat.le_refl
theorem zm:type_of%@Nat.lt_of_lt_of_le:=@Nat.lt_of_lt_of_le
theorem zo:type_of%@of_decide_eq_true:=@of_decide_eq_true
theorem zp:type_of%@List.length_append:=@List.length_append
theorem zq:type_of%@PySem.Heap.lt_size:=@PySem.Heap.lt_size
theorem zr:type_of%@List.mem_singleton:=@List.mem_singleton
theorem zt:type_of%@List.getElem?_eq_some_iff:=@List.getElem?_eq_some_iff
theorem zu:type_of%@List.getElem?_map:=@List.getElem?_map
theorem zw:type_of%@decide_eq_false:=@decide_eq_false
theorem zx:type_of%@Nat.ne_of_lt:=@Nat.ne_of_lt
theorem zy:type_of%@List.mem_cons_self:=@List.mem_cons_self
theorem zA:type_of%@decide_eq_true:=@decide_eq_true
theorem zB:type_of%@List.map_map:=@List.map_map
theorem zC:type_of%@List.mem_append_right:=@List.mem_append_right
theorem zD:type_of%@List.length_cons:=@List.length_cons
theorem zE:type_of%@List.map_append:=@List.map_append
theorem zG:type_of%@List.not_mem_nil:=@List.not_mem_nil
theorem zH:type_of%@PySem.F.plainAttrs_list:=@PySem.F.plainAttrs_list
theorem zI:type_of%@List.mem_of_getElem?:=@List.mem_of_getElem?
theorem zJ:type_of%@List.getD_eq_getElem?_getD:=@List.getD_eq_getElem?_getD
theorem zK:type_of%@Nat.le_trans:=@Nat.le_trans
theorem zL:type_of%@PySem.F.slot_list_append:=@PySem.F.slot_list_append
theorem zM:type_of%@PySem.F.type_list_append:=@PySem.F.type_list_append
theorem zN:type_of%@of_decide_eq_false:=@of_decide_eq_false
theorem zO:type_of%@List.mem_append:=@List.mem_append
theorem zP:type_of%@List.lookup_cons:=@List.lookup_cons
theorem zQ:type_of%@List.map_cons:=@List.map_cons
theorem zR:type_of%@Bool.and_eq_true:=@Bool.and_eq_true
theorem zS:type_of%@Bool.true_and:=@Bool.true_and
theorem zT:type_of%@List.mem_range:=@List.mem_range
theorem zU:type_of%@List.mem_append_left:=@List.mem_append_left
theorem zV:type_of%@Option.some.inj:=@Option.some.inj
theorem zW:type_of%@Bool.false_and:=@Bool.false_and
theorem zX:type_of%@List.map_congr_left:=@List.map_congr_left
theorem zY:type_of%@Int.emod_lt_of_pos:=@Int.emod_lt_of_pos
theorem zZ:type_of%@PySem.sizeLine_eq:=@PySem.sizeLine_eq
theorem ya:type_of%@PySem.wpAny_field:=@PySem.wpAny_field
theorem yb:type_of%@List.find?_cons:=@List.find?_cons
theorem yc:type_of%@Int.emod_nonneg:=@Int.emod_nonneg
theorem yd:type_of%@PySem.Heap.size_push:=@PySem.Heap.size_push
theorem ye:type_of%@List.append_nil:=@List.append_nil
theorem yf:type_of%@List.length_take:=@List.length_take
theorem yg:type_of%@PySem.wpAny_holding:=@PySem.wpAny_holding
theorem yh:type_of%@Nat.zero_le:=@Nat.zero_le
theorem yi:type_of%@List.length_replicate:=@List.length_replicate
theorem yj:type_of%@PySem.mem_of_lookup:=@PySem.mem_of_lookup
theorem yk:type_of%@List.all_eq_true:=@List.all_eq_true
theorem ym:type_of%@PySem.wpAny_newObj_type:=@PySem.wpAny_newObj_type
theorem yn:type_of%@Array.length_toList:=@Array.length_toList
theorem yo:type_of%@decide_eq_true_eq:=@decide_eq_true_eq
theorem yp:type_of%@PySem.wpAny_callSpecial?_slot:=@PySem.wpAny_callSpecial?_slot
theorem yq:type_of%@PySem.wpAny_mono:=@PySem.wpAny_mono
theorem yr:type_of%@Nat.ne_of_gt:=@Nat.ne_of_gt
theorem yt:type_of%@List.nodup_cons:=@List.nodup_cons
theorem yu:type_of%@PySem.Heap.get?_update_other:=@PySem.Heap.get?_update_other
theorem yw:type_of%@PySem.wpAny_truthy_bool:=@PySem.wpAny_truthy_bool
theorem yx:type_of%@PySem.Heap.get?_update_self:=@PySem.Heap.get?_update_self
theorem yy:type_of%@PySem.F.slot_dict_get:=@PySem.F.slot_dict_get
theorem yz:type_of%@PySem.Obj.data_mapFields:=@PySem.Obj.data_mapFields
theorem yA:type_of%@PySem.wpAny_call_entry:=@PySem.wpAny_call_entry
theorem yB:type_of%@List.getElem?_of_mem:=@List.getElem?_of_mem
theorem yC:type_of%@Nat.lt_irrefl:=@Nat.lt_irrefl
theorem yD:type_of%@PySem.Heap.SameBut.update:=@PySem.Heap.SameBut.update
theorem yE:type_of%@PySem.Calls.spliced_cons:=@PySem.Calls.spliced_cons
theorem yF:type_of%@PySem.wpAny_Call_Name_kw:=@PySem.wpAny_Call_Name_kw
theorem yG:type_of%@List.take_length:=@List.take_length
theorem yH:type_of%@decide_eq_decide:=@decide_eq_decide
theorem yI:type_of%@List.foldl_cons:=@List.foldl_cons
theorem yJ:type_of%@PySem.codeAny_builtin:=@PySem.codeAny_builtin
theorem yK:type_of%@List.length_drop:=@List.length_drop
theorem yL:type_of%@Sum.inr.inj:=@Sum.inr.inj
theorem yM:type_of%@Nat.le_of_lt:=@Nat.le_of_lt
theorem yN:type_of%@Bool.eq_iff_iff:=@Bool.eq_iff_iff
theorem yO:type_of%@PySem.codeAny_mono:=@PySem.codeAny_mono
theorem yP:type_of%@List.any_cons:=@List.any_cons
theorem yQ:type_of%@Bool.false_or:=@Bool.false_or
theorem yR:type_of%@PySem.wpAny_setField:=@PySem.wpAny_setField
theorem yS:type_of%@PySem.Paired.length:=@PySem.Paired.length
theorem yT:type_of%@PySem.wpAny_rule:=@PySem.wpAny_rule
theorem yU:type_of%@Nat.le_succ:=@Nat.le_succ
theorem yV:type_of%@PySem.wpAny_of_eq:=@PySem.wpAny_of_eq
theorem yW:type_of%@Nat.succ.inj:=@Nat.succ.inj
namespace L2
open PySem PySem.Spec PyProof.Rows
abbrev Key:=Sum Int Str
def keyIs:Key->Value->Bool|.inl k,v=>Value.isInt k v|.inr x,v=>Value.isStrOf x v
def WB(w:World):Key->Int|.inl k=>hashInt k|.inr x=>hashStr w x
theorem bA:∀{k:Key}{v:Value},keyIs k v=true->(∃i t,k=Sum.inl i/\v=Value.int i t)\/(∃x t,k=Sum.inr x/\v=Value.str x t)|.inl i,v,h=>(by obtain⟨t,e⟩:=Value.isInt_shape (k:=i) (v:=v) h;exact .inl ⟨i,t,rfl,e⟩)|.inr x,v,h=>by obtain⟨t,e⟩:=Value.isStrOf_shape (x:=x) (v:=v) h;exact .inr ⟨x,t,rfl,e⟩
theorem D3(i:Int)(t:Tok):keyIs (.inl i) (.int i t)=true:=by simp[keyIs,Value.isInt]
theorem D4(x:Str)(t:Tok):keyIs (.inr x) (.str x t)=true:=by simp[keyIs,Value.isStrOf]
theorem Nt(a b:Int):decide ((Sum.inl a:Key)=Sum.inl b)=(a==b):=by by_cases e:a=b;subst e;simp;have h:¬(Sum.inl a:Key)=Sum.inl b:=λq=>e<|Sum.inl.inj q;rw[zw h];exact(beq_eq_false_iff_ne.mpr e).symm
theorem Nu(a b:Str):decide ((Sum.inr a:Key)=Sum.inr b)=decide (a=b):=by by_cases e:a=b;subst e;simp;have h:¬(Sum.inr a:Key)=Sum.inr b:=λq=>e<|yL q;rw[zw h,zw e]
theorem Nv(a:Int)(b:Str):decide ((Sum.inl a:Key)=Sum.inr b)=false:=zw λq=>nomatch q
theorem Nw(a:Str)(b:Int):decide ((Sum.inr a:Key)=Sum.inl b)=false:=zw λq=>nomatch q
def aG(prog:Program)(w:World):PySem.KeyKind prog w Key where
 is:=keyIs
 hash:=WB w
 inj:=λv a b ha hb=>by
  rcases bA ha with⟨i,t,rfl,rfl⟩|⟨x,t,rfl,rfl⟩
  ·rcases bA hb with⟨j,u,rfl,e⟩|⟨y,u,rfl,e⟩
   ·injection e with e1 _;rw[e1]
   ·exact nomatch e
  ·rcases bA hb with⟨j,u,rfl,e⟩|⟨y,u,rfl,e⟩
   ·exact nomatch e
   ·injection e with e1 _;rw[e1]
 byValue:=λk v h=>by
  rcases bA h with⟨i,t,rfl,rfl⟩|⟨x,t,rfl,rfl⟩<;>rfl
 pyHash:=λhv h=>by
  rcases bA hv with⟨i,t,rfl,rfl⟩|⟨x,t,rfl,rfl⟩
  ·exact wpAny_pyHash_int h
  ·exact wpAny_pyHash_str h
 eqBool:=λhu hv h=>by
  rcases bA hu with⟨i,t,rfl,rfl⟩|⟨x,t,rfl,rfl⟩
  ·rcases bA hv with⟨j,u,rfl,rfl⟩|⟨y,u,rfl,rfl⟩
   ·rw[Nt]at h;exact wpAny_eqBool_int h
   ·rw[Nv]at h;exact SeqAt.EqAt.int_str i t y u _ _ _ _ h
  ·rcases bA hv with⟨j,u,rfl,rfl⟩|⟨y,u,rfl,rfl⟩
   ·rw[Nw]at h;exact SeqAt.EqAt.str_int x t j u _ _ _ _ h
   ·rw[Nu]at h;exact wpAny_eqBool_str h
 «strs»:=λk x t v h=>by
  rcases bA h with⟨i,u,rfl,e⟩|⟨y,u,rfl,e⟩
  ·exact nomatch e
  ·injection e with e1 _
   subst e1
   cases v<;>rfl
theorem wX(prog:Program)(w:World)(i:Int)(t:Tok):(aG prog w).is (.inl i) (.int i t)=true:=D3 i t
theorem jj(prog:Program)(w:World)(x:Str)(t:Tok):(aG prog w).is (.inr x) (.str x t)=true:=D4 x t
set_option genInjectivity true in
set_option genSizeOfSpec true in
inductive V where
 |av|bl (b:Bool)|int (i:Int)|str (x:Str)|CI (b:Array UInt8)|Nx (b:UInt64)|ref (a:Addr)|ty (n:String)
 deriving DecidableEq
def RelV:V->Value->Prop|.av,u=>u=Value.none|.bl b,u=>u=Value.bool b|.int i,u=>∃t,u=Value.int i t|.str x,u=>∃t,u=Value.str x t|.CI b,u=>∃t,u=Value.bytes b t|.Nx b,u=>∃t,u=Value.float b t|.ref a,u=>u=Value.ref a|.ty n,u=>u=Value.type n
abbrev Vals:List V->List Value->Prop:=Paired RelV
theorem Vals.length{xs:List V}{us:List Value}(r:Vals xs us):xs.length=us.length:=yS r
theorem Vals.get:∀{xs:List V}{us:List Value}{i:Nat}{x:V},Vals xs us->xs[i]?=some x->∃u,us[i]?=some u/\RelV x u|_,_,_,_,.nil,e=>by simp at e|_,_,0,_,.cons r _,e=>by simp at e;subst e;exact{_,rfl,r}|_,_,i+1,x,.cons _ t,e=>by obtain⟨u,h1,h2⟩:=Vals.get (i:=i) (x:=x) t (by simpa using e);exact{u,by simpa using h1,h2}
theorem Vals.set(r:RelV x u):∀{xs:List V}{us:List Value}(i:Nat),Vals xs us->Vals (xs.set i x) (us.set i u)|_,_,_,.nil=>.nil|_,_,0,.cons _ t=>.cons r t|_,_,i+1,.cons q t=>.cons q<|Vals.set r i t
theorem Vals.append:∀{xs ys:List V}{us ws:List Value},Vals xs us->Vals ys ws->Vals (xs++ys) (us++ws)|_,_,_,_,.nil,s=>s|_,_,_,_,.cons r t,s=>.cons r<|Vals.append t s
theorem Vals.take:∀{xs:List V}{us:List Value}(n:Nat),Vals xs us->Vals (xs.take n) (us.take n)|_,_,0,_=>.nil|_,_,_+1,.nil=>.nil|_,_,n+1,.cons r t=>.cons r<|Vals.take n t
theorem Vals.drop:∀{xs:List V}{us:List Value}(n:Nat),Vals xs us->Vals (xs.drop n) (us.drop n)|_,_,0,r=>r|_,_,_+1,.nil=>.nil|_,_,n+1,.cons _ t=>Vals.drop n t
def gf:Option V->Option Value->Prop|some v,some u=>RelV v u|none,none=>True|_,_=>False
def KV{κ:Type} : List (κ×V)->List (κ×Value)->Prop:=Paired λ(p:κ×V)(q:κ×Value)=>p.1=q.1/\RelV p.2 q.2
def kV:Key->V|.inl i=>.int i|.inr x=>.str x
set_option genInjectivity true in
set_option genSizeOfSpec true in
inductive HO where
  |lst (xs:List V)
  |tup (xs:List V)
  |dK (kvs:List<|Key×V)|dT (kvs:List<|List Key×V)
  |set (S:Int->Bool) (n:Nat)
  |ins (C dx:Addr) (fs:List<|Str×V)
  |own (x:Addr)
  |xd (fs:List<|Str×V)
  |met (f x:Addr)
  |VH (lo hi:Int)
  |lj (o:Obj) (u:HO)
  |pU (ps:Array Value)
  |ext (φ:Heap->Prop)
abbrev Hp:=Addr->Option HO
noncomputable def upd(H:Hp)(a:Addr)(o:HO):Hp:=λb=>if b=a then some o else H b
theorem aD{H:Hp}{a:Addr}{o:HO} : upd H a o a=some o:=by unfold upd;rw[if_pos rfl]
theorem ao{H:Hp}{a b:Addr}{o:HO}(h:b≠a):upd H a o b=H b:=by unfold upd;rw[if_neg h]
theorem aw{H:Hp}{a b:Addr}{o:HO}(h:H a=some o)(h':H b=none):a≠b:=by intro e;subst e;rw[h]at h';cases h'
def fF(h:Heap)(a:Addr)(items:Array Value):Prop:=∃o,h.get? a=some o/\o.cls=.type "tuple"/\o.dict=none/\∃n,o.data=.seq items n
theorem fF.tup(x:fF h a items):IsTup h a items:=by obtain⟨o,e,c,_,n,d⟩:=x;exact⟨o,e,c,n,d⟩
theorem fF.lt(x:fF h a items):a<h.objs.size:=x.tup.lt
theorem fF.new(h:Heap)(items:Array Value):fF (h.push {cls:=.type "tuple",data:=.seq items}) h.objs.size items:={_,zi _ rfl,rfl,rfl,_,rfl}
section
variable(P:Program)(w:World)
def aU(H:Hp)(h:Heap)(a:Addr):HO->Prop|.lst xs=>xs.length<=sizeLine/\∃(au:List Value) (n:Nat),Vals xs au/\h.get? a=some {cls:=.type "list",data:=.seq au.toArray n}|.tup xs=>xs.length<=sizeLine/\∃au:List Value,Vals xs au/\fF h a au.toArray|.dK kvs=>kvs.length<=sizeLine/\(a==sysModules)=false/\∃vs,KV kvs vs/\h.DictOf (aG P w) a vs|.dT _=>False|.set S n=>h.SetOf (intKind P w) a S n|.ins C dx fs=>H dx=some (.own a)/\fs.length<=1000/\dx≠a/\h.get? a=some (instObj C dx)/\∃mA,h.Ns1 dx mA/\(∀f,gf (fs.lookup f)<|mA f)/\PySem.Within mA (fs.map (·.1))|.own _=>∃o,h.get? a=some o|.xd fs=>∃mA,h.Ns1 a mA/\∀f,gf (fs.lookup f) (mA f)|.VH lo hi=>∃t u v,h.get? a=some {cls:=.type "range",data:=.fields #[.int lo t,.int hi u,.int 1 v]}|.lj o u=>h.get? a=some o/\aU H h a u|.pU ps=>h.get? a=some {cls:=.none,data:=.fields ps}|.met f x=>h.get? a=some (methodObj (.ref f)<|.ref x)|.ext φ=>φ h/\(∃o,h.get? a=some o)/\∀h1 h2:Heap,φ h1->(∀o,h1.get? a=some o->h2.get? a=some o)->φ h2
def kB(H:Hp)(h:Heap):Prop:=∀a o,H a=some o->aU P w H h a o
end
section
variable{P:Program}{w:World}{H H':Hp}{h h':Heap}{a:Addr}{o:HO}
theorem aU.lt(x:aU P w H h a o):a<h.objs.size:=by cases o with|lst xs=>(obtain⟨_,_,_,_,e⟩:=x;exact zq e)|tup xs=>(obtain⟨_,_,_,p⟩:=x;exact p.lt)|dK kvs=>(obtain⟨_,_,_,_,o,_,_,e,_⟩:=x;exact zq e)|dT kvs=>exact False.elim x|set S n=>(obtain⟨o,_,_,_,e,_⟩:=x;exact zq e)|ins C dx fs=>(obtain⟨_,_,_,e,_⟩:=x;exact zq e)|own y=>(obtain⟨_,e⟩:=x;exact zq e)|xd fs=>(obtain⟨_,⟨_,_,_,e,_⟩,_⟩:=x;exact zq e)|VH lo hi=>(obtain⟨_,_,_,e⟩:=x;exact zq e)|lj ob u=>(obtain⟨e,_⟩:=x;exact zq e)|pU ps=>exact zq (show h.get? a=some _ from x)|met f y=>exact zq (show h.get? a=some _ from x)|ext φ=>obtain⟨_,⟨_,e⟩,_⟩:=x;exact zq e
theorem aU.lX(x:aU P w H h a o)(k:∀b u,(b=a\/H b=some (.own a))->h.get? b=some u->h'.get? b=some u) (ho:∀b,H b=some (.own a)->H' b=some (.own a)) (ht:∀b xs,H b=some (.tup xs)->H' b=some (.tup xs)):aU P w H' h' a o:=by induction o with|lst xs=>(obtain⟨z,au,n,r,e⟩:=x;exact{z,au,n,r,k _ _ (.inl rfl) e})|tup xs=>(obtain⟨z,au,r,ob,e,c⟩:=x;exact{z,au,r,ob,k _ _ (.inl rfl) e,c})|dK kvs=>(obtain⟨z,y,vs,r,ob,es,ep,e,c⟩:=x;exact{z,y,vs,r,ob,es,ep,k _ _ (.inl rfl) e,c})|dT kvs=>exact False.elim x|set S n=>(obtain⟨ob,es,ep,t,e,c⟩:=x;exact{ob,es,ep,t,k _ _ (.inl rfl) e,c})|ins C dx fs=>(obtain⟨d,z,ne,e,mA,⟨od,es,ep,e2,c⟩,r⟩:=x;exact{ho _ d,z,ne,k _ _ (.inl rfl) e,mA,{od,es,ep,k _ _ (.inr d) e2,c},r})|own y=>(obtain⟨ob,e⟩:=x;exact{ob,k _ _ (.inl rfl) e})|xd fs=>(obtain⟨mA,⟨od,es,ep,e,c⟩,r⟩:=x;exact{mA,{od,es,ep,k _ _ (.inl rfl) e,c},r})|VH lo hi=>(obtain⟨t,u,v,e⟩:=x;exact{t,u,v,k _ _ (.inl rfl) e})|lj ob u ih=>(obtain⟨e,q⟩:=x;exact{k _ _ (.inl rfl) e,ih q})|pU ps=>have e:h.get? a=some {cls:=.none,data:=.fields ps}:=x;show h'.get? a=some {cls:=.none,data:=.fields ps};exact k a _ (.inl rfl) e|met f y=>have e:h.get? a=some (methodObj (.ref f)<|.ref y):=x;show h'.get? a=some (methodObj (.ref f)<|.ref y);exact k a _ (.inl rfl) e|ext φ=>obtain⟨p,⟨o,e⟩,st⟩:=x;exact{st _ _ p λo q=>k _ _ (.inl rfl) q,{o,k _ _ (.inl rfl) e},st}
theorem kB.lt(x:kB P w H h)(e:H a=some o):a<h.objs.size:=(x a o e).lt
theorem kB.fresh(x:kB P w H h)(e:h.objs.size<=a):H a=none:=by cases q:H a with|none=>rfl|some u=>exact absurd (zm (x.lt q) e)<|yC _
theorem kB.kept(x:kB P w H h)(k:∀b u,h.get? b=some u->h'.get? b=some u):kB P w H h':=λa o e=>(x a o e).lX (λb u _ q=>k b u q) (λ_ q=>q) λ_ _ q=>q
theorem kB.laid(x:kB P w H h)(k:∀b u,h.get? b=some u->h'.get? b=some u)(hp:h.objs.size<=a)(new:aU P w (upd H a o) h' a o):kB P w (upd H a o) h':=λb u e=>by have hn:=x.fresh hp;by_cases hb:b=a;subst hb;rw[aD]at e;cases e;exact new;rw[ao hb]at e;exact(x b u e).lX (λc v _ q=>k c v q) (λc q=>by rw[ao<|aw q hn];exact q) λc xs q=>by rw[ao<|aw q hn];exact q
end
def Rd(H:Hp)(a:Addr)(u:HO):Prop:=H a=some u\/∃o,H a=some (.lj o u)
theorem Rd.of(h:H a=some u):Rd H a u:=.inl h
theorem Rd.ok{P:Program}{w:World}{H:Hp}{h:Heap}{a:Addr}{u:HO}(r:Rd H a u)(x:kB P w H h):aU P w H h a u:=by rcases r with r|⟨o,r⟩;exact x a u r;obtain⟨_,q⟩:=x a _ r;exact q
def RC:Option HO->Prop|some (.lst _)=>True|some (.dK _)=>True|some (.dT _)=>True|some (.set _ _)=>True|some (.ins _ _ _)=>True|some (.ext _)=>True|_=>False
section
variable{P:Program}{w:World}{H:Hp}{h h':Heap}{x e:Addr}{o':HO}
theorem kB.write(ok:kB P w H h)(mu:RC<|H x)(he:e=x\/H e=some (.own x))(k:∀b u,b≠e->h.get? b=some u->h'.get? b=some u)(QR:∃u,h'.get? e=some u) (new:aU P w (upd H x o') h' x o'):kB P w (upd H x o') h':=λb u q=>by
 have RD:∀c y,H c=some (.own y)->c≠x:=λc y r z=>by subst z;rw[r]at mu;exact mu
 have WC:∀c xs,H c=some (.tup xs)->c≠x:=λc xs r z=>by subst z;rw[r]at mu;exact mu
 by_cases hb:b=x;subst hb;rw[aD]at q;cases q;exact new;rw[ao hb]at q;by_cases Ny:b=e;have q':H b=some (.own x):=by rcases he with z|z;exact absurd (Ny.trans z) hb;rw[Ny];exact z
 rw[q]at q';cases q';obtain⟨v,hv⟩:=QR;exact{v,by rw[Ny];exact hv};refine(ok b u q).lX (λc v hc r=>k c v ?_ r) (λc r=>by rw[ao<|RD c b r];exact r) λc xs r=>by rw[ao<|WC c xs r];exact r
 rcases hc with rfl|hc;exact Ny;rintro rfl;rcases he with z|z;exact RD c b hc z;rw[hc]at z;cases z;exact hb rfl
end
structure Un(fs ex:List Addr)(H H':Hp)(h h':Heap):Prop where
 keep:∀b o,h.get? b=some o->H b=none->b∉fs->b∉ex->h'.get? b=some o
 slot:∀b o,h.get? b=some o->H b=none->b∈fs->b∉ex->∃sl,h'.get? b=some {o with slots:=sl}
 free:∀b o,h.get? b=some o->H b=none->b∉ex->H' b=none
 there:∀b o,h.get? b=some o->b∉ex->∃o',h'.get? b=some o'
 gj:∀b xs,H b=some (.tup xs)->H' b=some (.tup xs)
 fG:∀b o u,H b=some (.lj o u)->H' b=some (.lj o u)
 fH:∀b ps,H b=some (.pU ps)->∃more,H' b=some (.pU<|ps++more)
section
variable{fs ex:List Addr}{H H1:Hp}{h h1 h':Heap}{a x e:Addr}{o:HO}
theorem Un.any(u:Un fs ex H H1 h h1){b:Addr}{ob:Obj}(q:h.get? b=some ob)(n:H b=none)(hx:b∉ex):∃sl,h1.get? b=some {ob with slots:=sl}:=by by_cases hb:b∈fs;exact u.slot b ob q n hb hx;exact{ob.slots,u.keep b ob q n hb hx}
theorem Un.kept(k:∀b u,h.get? b=some u->h'.get? b=some u):Un fs ex H H h h':={λb ob q _ _ _=>k b ob q,λb ob q _ _ _=>{ob.slots,k b ob q},λ_ _ _ n _=>n,λb ob q _=>{ob,k b ob q},λ_ _ q=>q,λ_ _ _ q=>q,λ_ ps q=>{#[],by rw[q];simp}}
theorem Un.refl:Un fs ex H H h h:=Un.kept λ_ _ q=>q
theorem Un.laid(k:∀b u,h.get? b=some u->h'.get? b=some u)(hp:h.objs.size<=a)(hn:H a=none):Un fs ex H (upd H a o) h h' where
 keep:=λb u q _ _ _=>k b u q
 slot:=λb u q _ _ _=>{u.slots,k b u q}
 free:=λb u q n _=>by rw[ao<|zx<|zm (zq q) hp];exact n
 there:=λb u q _=>{u,k b u q}
 gj:=λb xs q=>by rw[ao<|aw q hn];exact q
 fG:=λb u xs q=>by rw[ao<|aw q hn];exact q
 fH:=λb ps q=>{#[],by rw[ao<|aw q hn,q];simp}
theorem Un.write(mu:RC<|H x)(he:e=x\/H e=some (.own x))(k:∀b u,b≠e->h.get? b=some u->h'.get? b=some u)(QR:∃u,h'.get? e=some u):Un fs ex H (upd H x o) h h':=by
 have hx:∀b,H b=none->b≠x:=λb n z=>by subst z;rw[n]at mu;exact mu
 have hb:∀b,H b=none->b≠e:=λb n z=>by subst z;rcases he with r|r;exact hx b n r;rw[n]at r;cases r
 have hm:∀b u,H b=some u->¬RC (some u)->b≠x:=λb u q nm z=>by subst z;rw[q]at mu;exact nm mu
 refine⟨λb u q n _ _=>k b u (hb b n) q,λb u q n _ _=>{u.slots,k b u (hb b n) q},λb u q n _=>by rw[ao<|hx b n];exact n,λb u q _=>?_,
  λb xs q=>by rw[ao<|hm b _ q λz=>z];exact q,λb u xs q=>by rw[ao<|hm b _ q λz=>z];exact q,λb ps q=>{#[],by rw[ao<|hm b _ q λz=>z,q];simp}⟩
 by_cases Ny:b=e;subst Ny;exact QR;exact{u,k b u Ny q}
end
noncomputable def VI(h:Heap)(H:Hp):List Addr:=(List.range h.objs.size).filter λa=>(H a).isSome
noncomputable def sN(h:Heap)(H:Hp):Heap:=hideAll h<|VI h H
theorem D5(h:Heap)(H:Hp):(sN h H).objs.size=h.objs.size:=PySem.W.hideAll_size _ _
theorem FU(e:h.get? b=some o)(n:H b=none):(sN h H).get? b=some o:=hideAll_get _ e λhm=>by have q:(H b).isSome=true:=(List.mem_filter.mp hm).2;rw[n]at q;simp at q
theorem JH(e:(sN h H).get? b=some o):h.get? b=some o/\H b=none:=by have e':h.get? b=some o:=of_hideAll (VI h H) e;refine{e',?_};cases q:H b with|none=>rfl|some x=>have hm:b∈VI h H:=List.mem_filter.mpr {zT.mpr<|zq e',by simp[q]};have z:(sN h H).get? b=none:=PySem.W.hideAll_none (VI h H) hm;rw[z]at e;cases e
noncomputable def JI(g h:Heap)(L:Addr):List (Addr×Obj):=(List.range h.objs.size).filterMap λa=>if a=L\/(g.get? a).isSome=true then none else (h.get? a).map λo=>(a,o)
noncomputable def rest(g h:Heap)(L d:Addr):List (Addr×Obj):=(JI g h L).filter λp=>decide<|p.1≠d
structure Mod(K:Frag)(mg:Str->Option Value)(base:Heap):Prop where
 Mh:K.In base
 glob:base.Ns mainGlobals mg
 blt:∃mb,base.Ns builtinsNs mb/\∀x:Str,x≠"__name__"->mb x=bootBuiltins x
 nolimit:base.NoLimit
structure Cx where
 prog:Program
 w:World
 K:Frag
 mg:Str->Option Value
 base:Heap
 A:Around
 N:List Str
 dr:Shared
 uO:Hp
 env:Env
 outer:List Env
 stack:List Env
 ex:List Addr
 fn:Str->Bool
 calm:Bool
 pn:List (Addr×Obj)
 xe:Value->Shared->Prop
def lq(l:List Env):List Addr:=l.filterMap (·.frame)
noncomputable abbrev Cx.fs(X:Cx):List Addr:=lq X.outer
def Nz(sc:Scope)(x:Str):Prop:=sc.names.lookup x=some .local\/sc.names.lookup x=some .cell\/sc.names.lookup x=some .free
def Loc(sc:Scope)(x:Str):Prop:=sc.names.lookup x=some .local\/sc.names.lookup x=some .cell
def Look(env:Env)(h:Heap)(m:Str->Option Value)(x:Str)(u:Value):Prop:=(env.kindOf x=some .local/\m x=some u)\/((env.kindOf x=some .cell\/env.kindOf x=some .free)/\∃c,env.cells.lookup x=some c/\h.IsCell c (some u))
structure Cx.Ok(X:Cx):Prop where
 mod:Mod X.K X.mg X.base
 kind:X.env.scope.kind=.function
 glob:X.env.globals=mainGlobals
 blt:X.env.builtins=builtinsNs
 above:X.dr.heap.objs.size<=X.env.locals
 inj:∀x y c,X.env.cells.lookup x=some c->X.env.cells.lookup y=some c->x=y
 has:∀x,(X.env.kindOf x=some .cell\/X.env.kindOf x=some .free)->∃c,X.env.cells.lookup x=some c
 Mi:∀x c,X.fn x=true->X.env.cells.lookup x=some c->X.dr.heap.objs.size<=c
 hd:X.calm=true->X.A.handled=none
 frames:X.A.frames=some X.stack
 NA:X.stack=X.outer\/(X.stack=X.env::X.outer/\X.env.frame=some X.env.locals)
 RE:∀b∈X.ex,b≠X.env.locals/\∀x c,X.env.cells.lookup x=some c->c≠b
 bs:∀b o,X.base.get? b=some o->X.dr.heap.get? b=some o/\X.uO b=none
 AG:X.base.objs.size<=X.dr.heap.objs.size
 wY:∀b o,X.base.get? b=some o->b∉X.ex
 AH:∀b∈X.ex,b∉X.fs
 ja:X.dr.heap.FunFrames X.base X.outer
 D8:∀b∈X.fs,X.uO b=none
structure Inv(X:Cx)(pins:List (Addr×Obj))(σ:List (Option V))(H:Hp)(s:Shared):Prop where
 ok:X.Ok
 os:s.os=X.dr.os
 bare:AllBare s.gens
 base:Un X.fs X.ex X.uO H X.dr.heap s.heap
 loc:∃m,s.heap.Ns X.env.locals m/\∀(i:Nat)(x:Str)(v:V),X.N[i]?=some x->σ[i]?=some (some v)->Nz X.env.scope x->∃u,RelV v u/\Look X.env s.heap m x u
 cell:∀x c,X.env.cells.lookup x=some c->∃v,s.heap.IsCell c v
 free:H X.env.locals=none
 du:∀x c,X.env.cells.lookup x=some c->H c=none
 pin:∀p∈X.pn++pins,s.heap.get? p.1=some p.2/\H p.1=none/\p.1≠X.env.locals/\p.1∉X.fs/\∀v,p.2.data≠.cell v
 aH:kB X.prog X.w H s.heap
 len:σ.length=X.N.length
section
variable{X:Cx}{pins:List (Addr×Obj)}{σ:List (Option V)}{H H':Hp}{s:Shared}{h':Heap}
theorem Cx.Ok.D9(ok:X.Ok)(e:X.base.get? b=some o):b∉X.fs:=λhb=>by have:=(ok.ja.mem hb).1;rw[e]at this;cases this
theorem Inv.bs(I:Inv X pins σ H s):∀b o,X.base.get? b=some o->s.heap.get? b=some o/\H b=none:=λb o e=>{I.base.keep b o (I.ok.bs b o e).1 (I.ok.bs b o e).2 (I.ok.D9 e)<|I.ok.wY b o e,I.base.free b o (I.ok.bs b o e).1 (I.ok.bs b o e).2<|I.ok.wY b o e}
theorem Inv.bk(I:Inv X pins σ H s):∀b o,X.base.get? b=some o->s.heap.get? b=some o:=λb o e=>(I.bs b o e).1
theorem Inv.mod(I:Inv X pins σ H s):Mod X.K X.mg X.base:=I.ok.mod
theorem Inv.kC(I:Inv X pins σ H s):X.K.In s.heap:=I.ok.mod.Mh.keeps I.bk
theorem Inv.nolimit(I:Inv X pins σ H s):s.heap.NoLimit:=I.ok.mod.nolimit.keeps I.bk
theorem Inv.fr(I:Inv X pins σ H s):∃m,Fr X.base X.env.locals s.heap m :=
 let ⟨m,hn,_⟩:=I.loc
 ⟨m,hn,I.bk,zK I.ok.AG I.ok.above⟩
theorem Inv.lt(I:Inv X pins σ H s):X.env.locals<s.heap.objs.size:=by obtain⟨_,hn,_⟩:=I.loc;exact hn.lt
theorem Inv.sz(I:Inv X pins σ H s):X.dr.heap.objs.size<=s.heap.objs.size:=zK I.ok.above<|yM I.lt
theorem Inv.RF(I:Inv X pins σ H s)(h:s.heap.objs.size<=a):a∉X.fs:=λhb=>by obtain⟨_,o,ho,_⟩:=I.ok.ja.mem hb;exact absurd (zm (zq ho)<|zK I.sz h)<|yC _
theorem Inv.JJ(I:Inv X pins σ H s):∀x c,X.env.cells.lookup x=some c->c≠X.env.locals:=λx c e z=>by obtain⟨v,o,ho,hd⟩:=I.cell x c e;obtain⟨m,⟨o',es,ep,AI,tU,_⟩,_⟩:=I.loc;rw[z,AI]at ho;cases ho;rw[tU]at hd;cases hd
theorem Inv.ja(I:Inv X pins σ H s):s.heap.FunFrames X.base X.outer:=by
 have all:∀(l:List Env),(∀b∈lq l,b∈X.fs)->X.dr.heap.FunFrames X.base l->s.heap.FunFrames X.base l:=by intro l;induction l with|nil=>intro _ _;trivial|cons env r ih=>intro hs hl;obtain⟨hk,⟨L,o,hf,hn,ho,hd⟩,hr⟩:=hl;have hL:L∈X.fs:=hs L (by unfold lq;rw[List.filterMap_cons,hf];exact zy);obtain⟨sl,e⟩:=I.base.slot L o ho (I.ok.D8 L hL) hL λz=>I.ok.AH L z hL;exact{hk,{L,_,hf,hn,e,hd},ih (λb hb=>hs b<|by unfold lq;rw[List.filterMap_cons,hf];exact zj _ hb) hr}
 exact all X.outer (λ_ hb=>hb) I.ok.ja
theorem Inv.stack(I:Inv X pins σ H s):s.heap.FunFrames X.base X.stack:=by rcases I.ok.NA with e|⟨e,hf⟩;rw[e];exact I.ja;rw[e];obtain⟨m,hn,_⟩:=I.loc;refine .cons (by rw[I.ok.kind];decide) hf hn ?_ I.ja;exact Heap.get?_none_of_le<|zK I.ok.AG I.ok.above
theorem Inv.nq(I:Inv X pins σ H s):∀b∈lq X.stack,b∈X.env.locals::X.fs:=λb hb=>by rcases I.ok.NA with e|⟨e,hf⟩;rw[e]at hb;exact zj _ hb;rw[e]at hb;unfold lq at hb;rw[List.filterMap_cons,hf]at hb;exact hb
theorem Inv.pV(I:Inv X pins σ H s):∀b∈lq X.stack,H b=none:=λb hb=>by rcases zg.mp (I.nq b hb) with e|hb;rw[e];exact I.free;obtain⟨_,o,ho,_⟩:=I.ok.ja.mem hb;exact I.base.free b o ho (I.ok.D8 b hb) λz=>I.ok.AH b z hb
theorem Inv.step{g':Array GenState}{t':Nat}{d':Drawn}{ch:List Addr}(I:Inv X pins σ H s) (Jv:∀b∈ch,(b∈X.ex\/X.dr.heap.objs.size<=b)/\b≠X.env.locals/\(∀x c,X.env.cells.lookup x=some c->c≠b)/\∀p∈X.pn++pins,p.1≠b) (keep:∀b o,b≠X.env.locals->b∉X.fs->b∉ch->s.heap.get? b=some o->H b=none->h'.get? b=some o) (slot:∀b o,b≠X.env.locals->b∈X.fs->b∉ch->s.heap.get? b=some o->H b=none->∃sl,h'.get? b=some {o with slots:=sl}) (free:∀b o,b∉ch->s.heap.get? b=some o->H b=none->H' b=none) (there:∀b o,b∉ch->s.heap.get? b=some o->∃o',h'.get? b=some o') (gj:∀b xs,H b=some (.tup xs)->H' b=some (.tup xs)) (fG:∀b o u,H b=some (.lj o u)->H' b=some (.lj o u)) (fH:∀b ps,H b=some (.pU ps)->∃more,H' b=some (.pU<|ps++more)) (ns:∀m,s.heap.Ns X.env.locals m->h'.Ns X.env.locals m) (aH:kB X.prog X.w H' h') (hg:AllBare g'): Inv X pins σ H' {s with heap:=h',gens:=g',drawn:=d',toks:=t'}:=by
 have neL:∀b o,X.dr.heap.get? b=some o->b≠X.env.locals:=λb o e=>zx<|zm (zq e) I.ok.above;have VJ:∀b o,X.dr.heap.get? b=some o->b∉X.ex->b∉ch:=λb o e hx hb=>by rcases (Jv b hb).1 with z|z;exact hx z;exact absurd (zm (zq e) z)<|yC _
 have cellK:∀x c,X.env.cells.lookup x=some c->∀v,s.heap.IsCell c v->h'.IsCell c v:=by rintro x c e v ⟨o,ho,hd⟩;have RG:c∉ch:=λz=>(Jv c z).2.2.1 x c e rfl;by_cases hc:c∈X.fs;obtain⟨sl,q⟩:=slot c o (I.JJ x c e) hc RG ho<|I.du x c e;exact{_,q,hd};exact{o,keep c o (I.JJ x c e) hc RG ho<|I.du x c e,hd}
 refine{I.ok,I.os,hg,{λb o e n hb hx=>?_,λb o e n hb hx=>?_,λb o e n hx=>?_,λb o e hx=>?_,λb xs e=>gj b xs<|I.base.gj b xs e,λb o xs e=>fG b o xs<|I.base.fG b o xs e,λb ps e=>?_},?_,λx c e=>?_,?_,λx c e=>?_,λp hp=>?_,aH,I.len};exact keep b o (neL b o e) hb (VJ b o e hx) (I.base.keep b o e n hb hx)<|I.base.free b o e n hx;obtain⟨sl,e1⟩:=I.base.slot b o e n hb hx;obtain⟨sl',e2⟩:=slot b _ (neL b o e) hb (VJ b o e hx) e1<|I.base.free b o e n hx;exact⟨sl',e2⟩;obtain⟨o',e1⟩:=I.base.there b o e hx;exact free b o' (VJ b o e hx) e1<|I.base.free b o e n hx;obtain⟨o',e1⟩:=I.base.there b o e hx;exact there b o' (VJ b o e hx) e1;obtain⟨m1,e1⟩:=I.base.fH b ps e;obtain⟨m2,e2⟩:=fH b _ e1;exact{m1++m2,by rw[e2,Array.append_assoc]};obtain⟨m,hn,hl⟩:=I.loc;refine{m,ns m hn,λi x v e1 e2 e3=>?_};obtain⟨u,r,l⟩:=hl i x v e1 e2 e3;refine{u,r,?_};rcases l with l|⟨k,c,e,z⟩;exact .inl l;exact .inr {k,c,e,cellK x c e _ z};obtain⟨v,z⟩:=I.cell x c e;exact{v,cellK x c e v z};obtain⟨m,⟨o,_,_,ho,_⟩,_⟩:=I.loc;exact free _ o (λz=>(Jv _ z).2.1 rfl) ho I.free;obtain⟨v,o,ho,hd⟩:=I.cell x c e;exact free c o (λz=>(Jv c z).2.2.1 x c e rfl) ho<|I.du x c e;obtain⟨e,n,ne,nf,d⟩:=I.pin p hp;have RG:p.1∉ch:=λz=>(Jv p.1 z).2.2.2 p hp rfl;exact{keep p.1 p.2 ne nf RG e n,free p.1 p.2 RG e n,ne,nf,d}
theorem Inv.un{t':Nat}(I:Inv X pins σ H s)(u:Un X.fs [] H H' s.heap h')(aH:kB X.prog X.w H' h'):Inv X pins σ H' {s with heap:=h',toks:=t'}:=by obtain⟨m,⟨o,es,ep,ho,r⟩,_⟩:=id I.loc;obtain⟨sl,hL⟩:=u.any ho I.free (by simp);exact I.step (g':=s.gens) (d':=s.drawn) (ch:=[]) (λ_ z=>nomatch z) (λb o _ hb _ e n=>u.keep b o e n hb<|by simp) (λb o _ hb _ e n=>u.slot b o e n hb<|by simp) (λb o _ e n=>u.free b o e n<|by simp) (λb o _ e=>u.there b o e<|by simp) u.gj u.fG u.fH (λm' hm=>by obtain⟨o',VL,WD,AI,r'⟩:=hm;rw[ho]at AI;cases AI;exact{_,VL,WD,hL,r'}) aH I.bare
theorem Inv.call{g':Array GenState}{t':Nat}{d':Drawn}{ch:List Addr}(I:Inv X pins σ H s)(u:Un (lq X.stack) ch H H' s.heap h')(aH:kB X.prog X.w H' h')(hg:AllBare g') (Jv:∀b∈ch,(b∈X.ex\/X.dr.heap.objs.size<=b)/\b≠X.env.locals/\(∀x c,X.env.cells.lookup x=some c->c≠b)/\∀p∈X.pn++pins,p.1≠b): Inv X pins σ H' {s with heap:=h',gens:=g',drawn:=d',toks:=t'}:=by obtain⟨m,⟨o,es,ep,ho,r⟩,_⟩:=id I.loc;obtain⟨sl,hL⟩:=u.any ho I.free λz=>(Jv _ z).2.1 rfl;exact I.step (ch:=ch) Jv (λb o hL hb hc e n=>u.keep b o e n (λz=>(zg.mp<|I.nq b z).elim hL hb) hc) (λb o _ _ hc e n=>u.any e n hc) (λb o hc e n=>u.free b o e n hc) (λb o hc e=>u.there b o e hc) u.gj u.fG u.fH (λm' hm=>by obtain⟨o',VL,WD,AI,r'⟩:=hm;rw[ho]at AI;cases AI;exact{_,VL,WD,hL,r'}) aH hg
theorem Inv.turned{t':Nat}{it:Addr}(I:Inv X pins σ H s)(k:∀b o,b≠it->s.heap.get? b=some o->h'.get? b=some o)(hn:H it=none)(hL:it≠X.env.locals) (h1:it∈X.ex\/X.dr.heap.objs.size<=it) (h2:∀x c,X.env.cells.lookup x=some c->c≠it) (h3:∀p∈X.pn++pins,p.1≠it):Inv X pins σ H {s with heap:=h',toks:=t'}:=by
 have NB:∀b u,H b=some u->b≠it:=λb u e z=>by rw[z,hn]at e;cases e
 refine I.step (g':=s.gens) (d':=s.drawn) (ch:=[it]) (λb hb=>?_) (λb o _ _ hc e _=>k b o (λz=>hc<|by simp[z]) e) (λb o _ _ hc e _=>{o.slots,k b o (λz=>hc<|by simp[z]) e}) (λ_ _ _ _ n=>n) (λb o hc e=>{o,k b o (λz=>hc<|by simp[z]) e}) (λ_ _ e=>e) (λ_ _ _ e=>e) (λb ps e=>{#[],by rw[e];simp}) (λm hm=>?_) (λb u e=>?_) I.bare;have e:b=it:=by simpa using hb
 subst e;exact⟨h1,hL,h2,h3⟩;obtain⟨o,es,ep,ho,r⟩:=hm;exact{o,es,ep,k _ o (Ne.symm hL) ho,r};refine(I.aH b u e).lX (λc v hc q=>k c v ?_ q) (λ_ q=>q) λ_ _ q=>q;rcases hc with z|z;rw[z];exact NB b u e;exact NB c _ z
theorem Inv.tok(I:Inv X pins σ H s)(t:Nat):Inv X pins σ H {s with toks:=t}:=I.un (h':=s.heap) (t':=t) Un.refl I.aH
theorem Inv.kept(I:Inv X pins σ H s)(k:∀b u,s.heap.get? b=some u->h'.get? b=some u):Inv X pins σ H {s with heap:=h',toks:=t'}:=I.un (Un.kept k)<|I.aH.kept k
theorem Inv.laid{a:Addr}{o:HO}{t':Nat}(I:Inv X pins σ H s)(k:∀b u,s.heap.get? b=some u->h'.get? b=some u)(hp:s.heap.objs.size<=a)(new:aU X.prog X.w (upd H a o) h' a o): Inv X pins σ (upd H a o) {s with heap:=h',toks:=t'}:=I.un (Un.laid k hp<|I.aH.fresh hp)<|I.aH.laid k hp new
theorem Inv.write(I:Inv X pins σ H s)(mu:RC<|H x)(he:e=x\/H e=some (.own x))(k:∀b u,b≠e->s.heap.get? b=some u->h'.get? b=some u)(QR:∃u,h'.get? e=some u) (new:aU X.prog X.w (upd H x o) h' x o):Inv X pins σ (upd H x o) {s with heap:=h',toks:=t'}:=I.un (Un.write mu he k QR)<|I.aH.write mu he k QR new
theorem Inv.weak(I:Inv X pins σ H s)(hl:aq.length=σ.length)(w:∀(i:Nat) v,aq[i]?=some (some v)->σ[i]?=some (some v)):Inv X pins aq H s:={I.ok,I.os,I.bare,I.base,by obtain⟨m,hn,hl'⟩:=I.loc;exact{m,hn,λi x v e1 e2 e3=>hl' i x v e1 (w i v e2) e3},I.cell,I.free,I.du,I.pin,I.aH,hl.trans I.len}
theorem Inv.lY(I:Inv X pins σ H s)(h:∀p∈pins',s.heap.get? p.1=some p.2/\H p.1=none/\p.1≠X.env.locals/\p.1∉X.fs/\∀v,p.2.data≠.cell v):Inv X pins' σ H s:={I.ok,I.os,I.bare,I.base,I.loc,I.cell,I.free,I.du,λp hp=>(zO.mp hp).elim (λz=>I.pin p<|zU _ z)<|h p,I.aH,I.len}
theorem qp{N:List Str}(hN:N.Nodup){i j:Nat}{x:Str}(a:N[i]?=some x)(b:N[j]?=some x):i=j:=by obtain⟨h1,e1⟩:=zt.mp a;obtain⟨h2,e2⟩:=zt.mp b;exact(List.getElem_inj hN).mp<|e1.trans e2.symm
theorem tV{M:Model}{A:Around}{E:Value->Shared->Prop}{i:Nat}{x:Str}{v:V}{u:Value}{Q:Unit->Shared->Prop}(I:Inv X pins σ H s)(hN:X.N.Nodup)(hi:X.N[i]?=some x)(hx:Loc X.env.scope x)(r:RelV v u) (h:∀s',Inv X pins (σ.set i<|some v) H s'->(∃a,Heap.SameBut a s.heap s'.heap/\(a=X.env.locals\/X.env.cells.lookup x=some a))->Q () s') (hf:autoParam (X.fn x=true\/X.env.scope.names.lookup x=some .local) qQ6):wpAny M A (storeName X.env x u) Q E s:=by
 obtain⟨m,hn,hl⟩:=id I.loc;have FV:(X.env.scope.kind==.class||(X.env.scope.kind==.module&&X.env.locals != X.env.globals))=false:=by rw[I.ok.kind];rfl
 have JK:i<σ.length:=by rw[I.len];exact(zt.mp hi).1
 have JJ:=I.JJ;have tracked:∀{a:Addr}{h':Heap},(∃o,s.heap.get? a=some o/\H a=none)->Heap.SameBut a s.heap h'->kB X.prog X.w H h':=λ{a h'} ha hs b ob e=>by obtain⟨_,_,Mj⟩:=ha;refine(I.aH b ob e).lX (λc w' hc q=>(hs.2 c ?_).trans q) (λ_ q=>q) λ_ _ q=>q;rintro rfl;rcases hc with rfl|hc;rw[Mj]at e;cases e;rw[Mj]at hc;cases hc
 rcases hx with hk|hk;refine wpAny_storeName_local hk hn (λh' Jw hs=>?_) FV;obtain⟨oL,_,_,FH,_⟩:=id hn;refine h _ {I.ok,I.os,I.bare,{λb o e n hb hx=>?_,λb o e n hb hx=>?_,I.base.free,λb o e hx=>?_,I.base.gj,I.base.fG,I.base.fH},{_,Jw,λj y v' e1 e2 e3=>?_},λy c e=>?_,I.free,I.du,λp hp=>?_,tracked ⟨oL,FH,I.free⟩ hs,by simpa using I.len} {_,hs,.inl rfl};exact(hs.2 b<|zx<|zm (zq e) I.ok.above).trans<|I.base.keep b o e n hb hx;obtain⟨sl,e1⟩:=I.base.slot b o e n hb hx;exact{sl,(hs.2 b<|zx<|zm (zq e) I.ok.above).trans e1};obtain⟨o',e1⟩:=I.base.there b o e hx;exact{o',(hs.2 b<|zx<|zm (zq e) I.ok.above).trans e1};by_cases hj:j=i;subst hj;rw[hi]at e1;cases e1;rw[List.getElem?_set_self JK]at e2;cases e2;exact{u,r,.inl {hk,by simp}};rw[List.getElem?_set_ne<|Ne.symm hj]at e2;obtain⟨u',r',q⟩:=hl j y v' e1 e2 e3;refine{u',r',?_};rcases q with⟨k,e⟩|⟨k,c,e,z⟩;refine .inl {k,?_};have:y≠x:=λe=>hj<|qp hN e1<|e ▸ hi;simp[this,e];exact .inr {k,c,e,z.sameBut hs<|JJ y c e};obtain⟨w',z⟩:=I.cell y c e;exact{w',z.sameBut hs<|JJ y c e};obtain⟨e,n,ne,nf,d⟩:=I.pin p hp;exact{(hs.2 p.1 ne).trans e,n,ne,nf,d};have WE:X.fn x=true:=by rcases hf with z|z;exact z;rw[z]at hk;cases hk
 obtain⟨c,hc⟩:=I.ok.has x<|.inl hk;obtain⟨w',z⟩:=I.cell x c hc;refine wpAny_storeName_cell I.ok.kind hk hc z λh' FI hs=>?_;obtain⟨oc,VM,WG⟩:=id z;refine h {s with heap:=h'} {I.ok,I.os,I.bare,{λb o e n hb hx=>?_,λb o e n hb hx=>?_,I.base.free,λb o e hx=>?_,I.base.gj,I.base.fG,I.base.fH},{m,hn.sameBut hs<|Ne.symm<|JJ x c hc,λj y v' e1 e2 e3=>?_},λy c' e=>?_,I.free,I.du,λp hp=>?_,tracked {oc,VM,I.du x c hc} hs,by simpa using I.len} {c,hs,.inr hc};exact(hs.2 b<|zx<|zm (zq e)<|I.ok.Mi x c WE hc).trans<|I.base.keep b o e n hb hx;obtain⟨sl,e1⟩:=I.base.slot b o e n hb hx;exact{sl,(hs.2 b<|zx<|zm (zq e)<|I.ok.Mi x c WE hc).trans e1};obtain⟨o',e1⟩:=I.base.there b o e hx;exact{o',(hs.2 b<|zx<|zm (zq e)<|I.ok.Mi x c WE hc).trans e1};by_cases hj:j=i;subst hj;rw[hi]at e1;cases e1;rw[List.getElem?_set_self JK]at e2;cases e2;exact{u,r,.inr {.inl hk,c,hc,FI}};rw[List.getElem?_set_ne<|Ne.symm hj]at e2;obtain⟨u',r',q⟩:=hl j y v' e1 e2 e3;refine{u',r',?_};rcases q with q|⟨k,c',e,z'⟩;exact .inl q;refine .inr {k,c',e,z'.sameBut hs ?_};rintro rfl;exact hj<|qp hN e1<|I.ok.inj _ _ _ e hc ▸ hi;by_cases hcc:c'=c;subst hcc;exact{_,FI};obtain⟨w2,z2⟩:=I.cell y c' e;exact{w2,z2.sameBut hs hcc};obtain⟨e,n,ne,nf,d⟩:=I.pin p hp;refine{(hs.2 p.1 ?_).trans e,n,ne,nf,d};intro q;rw[q,VM]at e;have q':oc=p.2:=zV e;exact d w'<|by rw[<-q'];exact WG
theorem lZ(I:Inv X pins σ H s)(hN:X.N.Nodup)(hi:X.N[i]?=some x)(hx:Loc X.env.scope x)(r:RelV v u) (h:∀s',Inv X pins (σ.set i<|some v) H s'->Q () s') (hf:autoParam (X.fn x=true\/X.env.scope.names.lookup x=some .local) qQ6):wpAny M A (storeName X.env x u) Q E s:=tV I hN hi hx r (λs' I' _=>h s' I') hf
theorem Inv.FW(I:Inv X pins σ H s)(ho:s'.os=s.os)(u:Un (lq X.stack) ch H H' s.heap s'.heap)(aH:kB X.prog X.w H' s'.heap)(hg:AllBare s'.gens) (Jv:∀b∈ch,(b∈X.ex\/X.dr.heap.objs.size<=b)/\b≠X.env.locals/\(∀x c,X.env.cells.lookup x=some c->c≠b)/\∀p∈X.pn++pins,p.1≠b):Inv X pins σ H' s':=by obtain⟨h',g',d',t',o'⟩:=s';have e:o'=s.os:=ho;subst e;exact I.call (g':=g') (t':=t') (d':=d') u aH hg Jv
end
abbrev XK:=Value->Option Addr->Hp->Prop
abbrev St:=List<|Option V
abbrev VK:=V->Hp->Prop
abbrev TE:=St->Hp->VK->Prop
abbrev TT:=St->Hp->(Bool->Hp->Prop)->Prop
abbrev TA:=St->Hp->(List V->Hp->Prop)->Prop
structure Ends where
 nx:St->Hp->Prop
 rt:VK
 bk:St->Hp->Prop:=λ_ _=>False
 ct:St->Hp->Prop:=λ_ _=>False
abbrev TS:=Ends->St->Hp->Prop
def EP(X:Cx)(pins:List<|Addr×Obj)(σ:St)(Q:VK)(u:Value)(s':Shared):Prop:=∃v H',Inv X pins σ H' s'/\RelV v u/\Q v H'
def TP(X:Cx)(pins:List<|Addr×Obj)(σ:St)(Q:Bool->Hp->Prop)(b:Bool)(s':Shared):Prop:=∃H',Inv X pins σ H' s'/\Q b H'
def AP(X:Cx)(pins:List<|Addr×Obj)(σ:St)(Q:List V->Hp->Prop)(us:List Value)(s':Shared):Prop:=∃vs H',Inv X pins σ H' s'/\Vals vs us/\Q vs H'
def SP(X:Cx)(pins:List<|Addr×Obj)(D:Ends)(f:Flow)(s':Shared):Prop:=match f with|.next=>∃aq H',Inv X pins aq H' s'/\D.nx aq H'|.brk=>∃aq H',Inv X pins aq H' s'/\D.bk aq H'|.cont=>∃aq H',Inv X pins aq H' s'/\D.ct aq H'|.ret u=>∃v aq H',Inv X pins aq H' s'/\RelV v u/\D.rt v H'
def PE(X:Cx)(e:Expr)(t:TE):Prop:=∀(pins:List (Addr×Obj))(s:Shared)(σ:St)(H:Hp)(Q:VK),Inv X pins σ H s->t σ H Q->wpAny (model X.prog X.w) X.A (eval e X.env) (EP X pins σ Q) X.xe s
def PT(X:Cx)(e:Expr)(t:TT):Prop:=∀(pins:List (Addr×Obj))(s:Shared)(σ:St)(H:Hp)(Q:Bool->Hp->Prop),Inv X pins σ H s->t σ H Q->wpAny (model X.prog X.w) X.A (isTrue e X.env<|eval e X.env) (TP X pins σ Q) X.xe s
def PW(X:Cx)(e:Expr)(t:TT):Prop:=∀(whole:Sem Value)(pins:List (Addr×Obj))(s:Shared)(σ:St)(H:Hp)(Q:Bool->Hp->Prop),Inv X pins σ H s->t σ H Q->wpAny (model X.prog X.w) X.A (isTrue e X.env whole) (TP X pins σ Q) X.xe s
theorem PW.pt{t:TT}(h:PW X e t):PT X e t:=h _
def PA(X:Cx)(es:List Expr)(t:TA):Prop:=∀(pos:Pos)(pins:List (Addr×Obj))(s:Shared)(σ:St)(H:Hp)(Q:List V->Hp->Prop),Inv X pins σ H s->t σ H Q->wpAny (model X.prog X.w) X.A (spliced<|backTo pos<|starEach es X.env) (AP X pins σ Q) X.xe s
def PS(X:Cx)(st:Stmt)(t:TS):Prop:=∀(pins:List (Addr×Obj))(s:Shared)(σ:St)(H:Hp)(D:Ends),Inv X pins σ H s->t D σ H->wpAny (model X.prog X.w) X.A (exec st X.env) (SP X pins D) X.xe s
def AJ(X:Cx)(st:List Stmt)(t:TS):Prop:=∀(pins:List (Addr×Obj))(s:Shared)(σ:St)(H:Hp)(D:Ends),Inv X pins σ H s->t D σ H->wpAny (model X.prog X.w) X.A (execs st X.env) (SP X pins D) X.xe s
theorem bu{t:Sem α}(h:wpAny M A t Q E s)(hQ:∀a s,Q a s->Q' a s):wpAny M A t Q' E s:=yq h hQ λ_ _ x=>x
section
variable{X:Cx}
def WH(i:Nat):TE:=λσ H Q=>∃v,σ[i]?=some (some v)/\Q v H
def tC(v:V):TE:=λ_ H Q=>Q v H
theorem NC(hN:X.N[i]?=some x)(hv:Nz X.env.scope x)(hd:autoParam ((x==("__debug__": Str))=false) qQZ)(pW:autoParam ((x==("__classdict__": Str))=false) qQZ):PE X (.Name x pos) (WH i):=by intro pins s σ H Q I h;obtain⟨v,e,h⟩:=h;obtain⟨m,hn,hl⟩:=I.loc;obtain⟨u,r,l⟩:=hl i x v hN e hv;have fin:EP X pins σ Q u s:=⟨v,H,I,r,h⟩;rcases l with⟨hk,hm⟩|⟨hk,c,hc,CJ⟩;exact wpAny_Name (wpAny_loadName_local I.ok.kind hk hn hm fin) hd;rcases hk with hk|hk;exact wpAny_Name (wpAny_loadName_cell I.ok.kind hk hc CJ fin) hd;exact wpAny_Name (wpAny_loadName_free I.ok.kind hk hc CJ fin pW) hd
theorem ND:PE X (.Constant (.int i) j pos) (tC<|.int i):=λ_ _ _ H _ I h=>wpAny_Constant_int {.int i,H,I.tok _,{_,rfl},h}
theorem Ml:PE X (.Constant (.bool b) j pos) (tC<|.bl b):=λ_ _ _ H _ I h=>Constant_bool {.bl b,H,I,rfl,h}
theorem NF:PE X (.Constant .none j pos) (tC .av):=λ_ _ _ H _ I h=>Constant_none {.av,H,I,rfl,h}
theorem NG:PE X (.Constant (.str x) j pos) (tC<|.str x):=λ_ _ _ H _ I h=>Calls.Constant_str {.str x,H,I.tok _,{_,rfl},h}
def Gl(X:Cx)(x:Str):Prop:=X.env.kindOf x=some .globalImplicit
theorem iw(I:Inv X pins σ H s)(hg:Gl X x)(hm:X.mg x=some u)(h:Q u s) (hd:autoParam ((x==("__debug__": Str))=false) qQZ):wpAny (model X.prog X.w) X.A (eval (.Name x pos) X.env) Q E s:=Calls.Name_function_global I.ok.kind hg (Calls.loadGlobal_global (by rw[I.ok.glob];exact I.mod.glob.keeps I.bk) hm h) hd
theorem gF(I:Inv X pins σ H s)(hg:Gl X x)(hm:X.mg x=none)(hv:bootBuiltins x=some u)(h:Q u s) (hn:autoParam (x≠"__name__") qQZ) (hd:autoParam ((x==("__debug__": Str))=false) qQZ):wpAny (model X.prog X.w) X.A (eval (.Name x pos) X.env) Q E s:=by obtain⟨mb,h1,h2⟩:=I.mod.blt;exact Calls.Name_function_global I.ok.kind hg (Calls.loadGlobal_builtin (by rw[I.ok.glob];exact I.mod.glob.keeps I.bk) hm (by rw[I.ok.blt];exact h1.keeps I.bk) ((h2 x hn).trans hv) h) hd
theorem CK(hg:Gl X x)(hm:X.mg x=some u)(r:RelV v u)(hd:autoParam ((x==("__debug__": Str))=false) qQZ):PE X (.Name x pos) (tC v):=λ_ _ _ H _ I h=>iw I hg hm ⟨v,H,I,r,h⟩ hd
theorem JL(hg:Gl X x)(hm:X.mg x=none)(hv:bootBuiltins x=some u)(r:RelV v u)(hn:autoParam (x≠"__name__") qQZ)(hd:autoParam ((x==("__debug__": Str))=false) qQZ):PE X (.Name x pos) (tC v):=λ_ _ _ H _ I h=>gF I hg hm hv ⟨v,H,I,r,h⟩ hn hd
variable{a b:Expr}{ta tb:TE}{pos:Pos}
def tB(t:TE):TT:=λσ H Q=>t σ H λx H1=>∃c,x=.bl c/\Q c H1
theorem NH{t:TE}(h:PE X e t)(he:autoParam (∀whole,isTrue e X.env whole=(do let v <-whole;standAt e.pos;holding [v] (truthy v))) qQ0):PT X e (tB t):=by intro pins s σ H Q I hw;refine isTrue_plain (bu (h pins s σ H _ I hw) λv s1 ⟨x,H1,I1,r1,q1⟩=>?_)<|he _;obtain⟨d,rfl,q⟩:=q1;cases r1;exact yw ⟨H1,I1,q⟩
variable{tA VN:TT}{rest:List Expr}
def WI(t u:TT):TT:=λσ H Q=>t σ H λc H1=>if c=true then u σ H1 Q else Q false H1
def tOr(t u:TT):TT:=λσ H Q=>t σ H λc H1=>if c=true then Q true H1 else u σ H1 Q
def WJ(t:TT):TT:=λσ H Q=>t σ H λc H1=>Q (!c) H1
theorem pw_and1(ha:PT X a tA):PW X (.BoolOp .And [a] pos) tA:=by intro wh pins s σ H Q I h;refine isTrue_and<|bu (ha pins s σ H Q I h) λc s1 e=>?_;cases c with|true=>exact isTrue_and_nil e|false=>exact e
theorem pw_or1(ha:PT X a tA):PW X (.BoolOp .Or [a] pos) tA:=by intro wh pins s σ H Q I h;refine isTrue_or<|bu (ha pins s σ H Q I h) λc s1 e=>?_;cases c with|false=>exact isTrue_or_nil e|true=>exact e
theorem pw_and(ha:PT X a tA)(hb:PW X (.BoolOp .And (b::rest) pos) VN):PW X (.BoolOp .And (a::b::rest) pos) (WI tA VN):=by intro wh pins s σ H Q I h;refine isTrue_and<|bu (ha pins s σ H _ I h) λc s1 ⟨H1,I1,q1⟩=>?_;cases c with|true=>exact hb wh pins s1 σ H1 Q I1 q1|false=>exact⟨H1,I1,q1⟩
theorem pw_or(ha:PT X a tA)(hb:PW X (.BoolOp .Or (b::rest) pos) VN):PW X (.BoolOp .Or (a::b::rest) pos) (tOr tA VN):=by intro wh pins s σ H Q I h;refine isTrue_or<|bu (ha pins s σ H _ I h) λc s1 ⟨H1,I1,q1⟩=>?_;cases c with|true=>exact⟨H1,I1,q1⟩|false=>exact hb wh pins s1 σ H1 Q I1 q1
theorem NI(ha:PT X a tA):PT X (.UnaryOp .Not a pos) (WJ tA):=by intro pins s σ H Q I h;exact isTrue_not<|ha pins s σ H (λc H1=>Q (!c) H1) I h
def RH(ta tb:TE):TE:=λσ H Q=>ta σ H λx H1=>∃c,x=.bl c/\if c=true then tb σ H1 Q else Q (.bl false) H1
def WK(ta tb:TE):TE:=λσ H Q=>ta σ H λx H1=>∃c,x=.bl c/\if c=true then Q (.bl true) H1 else tb σ H1 Q
def RJ(ta:TE):TE:=λσ H Q=>ta σ H λx H1=>∃c,x=.bl c/\Q (.bl<|!c) H1
theorem NJ{t:TE}(h:PE X a t):PE X (.BoolOp op [a] pos) t:=λpins s σ H Q I hw=>BoolOp_one<|h pins s σ H Q I hw
theorem NK(ha:PE X a ta)(hb:PE X (.BoolOp .And (b::rest) pos) tb):PE X (.BoolOp .And (a::b::rest) pos) (RH ta tb):=by intro pins s σ H Q I h;refine BoolOp_and<|bu (ha pins s σ H _ I h) λv s1 ⟨x,H1,I1,r1,q1⟩=>?_;obtain⟨c,rfl,q1⟩:=q1;cases r1;refine yw ?_;cases c with|true=>exact hb pins s1 σ H1 Q I1 q1|false=>exact{.bl false,H1,I1,rfl,q1}
theorem RK(ha:PE X a ta)(hb:PE X (.BoolOp .Or (b::rest) pos) tb):PE X (.BoolOp .Or (a::b::rest) pos) (WK ta tb):=by intro pins s σ H Q I h;refine BoolOp_or<|bu (ha pins s σ H _ I h) λv s1 ⟨x,H1,I1,r1,q1⟩=>?_;obtain⟨c,rfl,q1⟩:=q1;cases r1;refine yw ?_;cases c with|false=>exact hb pins s1 σ H1 Q I1 q1|true=>exact{.bl true,H1,I1,rfl,q1}
theorem NL(ha:PE X a ta):PE X (.UnaryOp .Not a pos) (RJ ta):=by intro pins s σ H Q I h;refine UnaryOp_<|bu (ha pins s σ H _ I h) λv s1 ⟨x,H1,I1,r1,q1⟩=>?_;obtain⟨c,rfl,q1⟩:=q1;cases r1;exact not_of<|yw {.bl<|!c,H1,I1,rfl,q1}
def tIf(t:TT)(ta tb:TE):TE:=λσ H Q=>t σ H λc H1=>if c=true then ta σ H1 Q else tb σ H1 Q
theorem FX(hc:PT X c tA)(ha:PE X a ta)(hb:PE X b tb):PE X (.IfExp c a b pos) (tIf tA ta tb):=by intro pins s σ H Q I h;refine wpAny_IfExp<|bu (hc pins s σ H _ I h) λd s1 ⟨H1,I1,q1⟩=>?_;cases d with|true=>exact ha pins s1 σ H1 Q I1 q1|false=>exact hb pins s1 σ H1 Q I1 q1
end
def ji(K:Frag)(H:Hp)(a:Addr)(xs:List V):Prop:=Rd H a (.lst xs)\/∃(o:Obj)(au:Array Value)(n:Nat),K.lookup a=some o/\o.cls=.type "list"/\o.dict=none/\o.data=.seq au n/\au.size<=sizeLine/\Vals xs au.toList
def gp(K:Frag)(H:Hp)(a:Addr)(xs:List V):Prop:=Rd H a (.tup xs)\/∃(o:Obj)(au:Array Value)(n:Nat),K.lookup a=some o/\o.cls=.type "tuple"/\o.data=.seq au n/\au.size<=sizeLine/\Vals xs au.toList
noncomputable def WL:Value->Option V|.none=>some .av|.bool b=>some (.bl b)|.int i _=>some (.int i)|.str x _=>some (.str x)|.bytes b _=>some (.CI b)|.float b _=>some (.Nx b)|.ref a=>some (.ref a)|.type n=>some (.ty n)|_=>none
theorem RelV.abs(r:RelV x u):WL u=some x:=by cases x with|av=>(cases r;rfl)|bl _=>(cases r;rfl)|int _=>(obtain⟨t,rfl⟩:=r;rfl)|str _=>(obtain⟨t,rfl⟩:=r;rfl)|CI _=>(obtain⟨t,rfl⟩:=r;rfl)|Nx _=>(obtain⟨t,rfl⟩:=r;rfl)|ref _=>(cases r;rfl)|ty _=>cases r;rfl
theorem RelV.inj(r:RelV x u)(q:RelV y u):x=y:=zV<|r.abs.symm.trans q.abs
theorem Vals.inj:∀{xs ys:List V}{us:List Value},Vals xs us->Vals ys us->xs=ys|_,_,_,.nil,.nil=>rfl|_,_,_,.cons r t,.cons r' t'=>by rw[r.inj r',Vals.inj t t']
section
variable{X:Cx}{pins:List (Addr×Obj)}{σ:St}{H:Hp}{s:Shared}{a:Addr}{xs ys:List V}
theorem ji.of{K:Frag}(h:H a=some (.lst xs)):ji K H a xs:=.inl<|.inl h
theorem gp.of{K:Frag}(h:H a=some (.tup xs)):gp K H a xs:=.inl<|.inl h
theorem Inv.list(I:Inv X pins σ H s)(h:ji X.K H a xs):∃au:List Value,Vals xs au/\PlainL s.heap a au.toArray/\xs.length<=sizeLine:=by rcases h with h|⟨o,au,n,hk,hc,hd,hs,hz,r⟩;obtain⟨z,au,n,r,e⟩:=h.ok I.aH;exact{au,r,{_,n,e,rfl,rfl,rfl},z};refine{au.toList,r,{o,n,I.kC a o hk,hc,hd,by simpa using hs},?_};have e:=r.length;simp only[yn]at e;lia
theorem Inv.tuple(I:Inv X pins σ H s)(h:gp X.K H a xs):∃au:List Value,Vals xs au/\IsTup s.heap a au.toArray/\xs.length<=sizeLine:=by rcases h with h|⟨o,au,n,hk,hc,hs,hz,r⟩;obtain⟨z,au,r,p⟩:=h.ok I.aH;exact⟨au,r,p.tup,z⟩;refine{au.toList,r,{o,I.kC a o hk,hc,n,by simpa using hs},?_};have e:=r.length;simp only[yn]at e;lia
theorem Inv.wZ(I:Inv X pins σ H s)(h:ji X.K H a xs)(h':ji X.K H a ys):xs=ys:=by
 obtain⟨au,r,⟨o,n,e,_,_,d⟩,_⟩:=I.list h;obtain⟨its',r',⟨o',n',e',_,_,d'⟩,_⟩:=I.list h';rw[e]at e';cases e';rw[d]at d';injection d' with d1 _;have:au=its':=by simpa using congrArg Array.toList d1
 subst this;exact r.inj r'
theorem Inv.nr(I:Inv X pins σ H s)(h:gp X.K H a xs)(h':gp X.K H a ys):xs=ys:=by
 obtain⟨au,r,⟨o,e,_,n,d⟩,_⟩:=I.tuple h;obtain⟨its',r',⟨o',e',_,n',d'⟩,_⟩:=I.tuple h';rw[e]at e';cases e';rw[d]at d';injection d' with d1 _;have:au=its':=by simpa using congrArg Array.toList d1
 subst this;exact r.inj r'
end
noncomputable abbrev Cx.abJ(X:Cx)(E:Value->Shared->Prop):Cx:={X with xe:=E}
section
variable{X:Cx}{st:Stmt}{rest:List Stmt}{t u:TS}{e:Expr}{te:TE}{pos:Pos}
def RL:TS:=λD σ H=>D.nx σ H
def WM(t u:TS):TS:=λD σ H=>t {D with nx:=u D} σ H
theorem CL:AJ X [] RL:=λ_ _ σ H _ I h=>wpAny_execs_nil ⟨σ,H,I,h⟩
theorem FY(h1:PS X st t)(h2:AJ X rest u):AJ X (st::rest) (WM t u):=by intro pins s σ H D I h;refine wpAny_execs_cons<|bu (h1 pins s σ H {D with nx:=u D} I h) λf s1 q=>?_;cases f with|next=>(obtain⟨aq,H',I',q⟩:=q;exact h2 pins s1 aq H' D I' q)|ret v=>exact q|brk=>exact q|cont=>exact q
theorem JM(h1:PS X st t):AJ X [st] t:=by intro pins s σ H D I h;refine wpAny_execs_cons<|bu (h1 pins s σ H D I h) λf s1 q=>?_;cases f with|next=>exact wpAny_execs_nil q|ret v=>exact q|brk=>exact q|cont=>exact q
theorem Inv.quiet(I:Inv X pins σ H s):interactive X.env=false:=by simp[interactive,I.ok.kind]
def RM(te:TE):TS:=λD σ H=>te σ H λ_ H1=>D.nx σ H1
theorem JN(he:PE X e te)(hs:autoParam (swapsWith e none pos.line X.env=pure false) qQJ):PS X (.Expr e pos) (RM te):=by intro pins s σ H D I h;exact wpAny_Expr_any (bu (he pins s σ H _ I h) <| by rintro v s1 ⟨x,H1,I1,r1,q1⟩;exact⟨σ,H1,I1,q1⟩) I.quiet hs
def WN(te:TE):TS:=λD σ H=>te σ H D.rt
theorem NM(he:PE X e te):PS X (.Return (some e) pos) (WN te):=by intro pins s σ H D I h;exact wpAny_Return_some<|bu (he pins s σ H _ I h) <| by rintro v s1 ⟨x,H1,I1,r1,q1⟩;exact⟨x,σ,H1,I1,r1,q1⟩
def WO(c:TT)(t u:TS):TS:=λD σ H=>c σ H λb H1=>if b=true then t D σ H1 else u D σ H1
theorem RN(hc:PT X c tc)(ha:AJ X a t)(hb:AJ X b u):PS X (.If c a b pos) (WO tc t u):=by intro pins s σ H D I h;refine wpAny_If<|bu (hc pins s σ H _ I h) λd s1 ⟨H1,I1,q1⟩=>?_;cases d with|true=>exact ha pins s1 σ H1 D I1 q1|false=>exact hb pins s1 σ H1 D I1 q1
end
abbrev TG:=V->St->Hp->(St->Hp->Prop)->Prop
abbrev Jx:=List V->St->Hp->(St->Hp->Prop)->Prop
def PG(X:Cx)(target:Expr)(t:TG):Prop:=∀(pins:List (Addr×Obj))(s:Shared)(σ:St)(H:Hp)(v:V)(u:Value)(Q:St->Hp->Prop),Inv X pins σ H s->RelV v u->t v σ H Q->wpAny (model X.prog X.w) X.A (assign target X.env u) (λ_ s'=>∃aq H',Inv X pins aq H' s'/\Q aq H') X.xe s
def JO(X:Cx)(ts:List Expr)(t:Jx):Prop:=∀(pins:List (Addr×Obj))(s:Shared)(σ:St)(H:Hp)(vs:List V)(us:List Value)(Q:St->Hp->Prop),Inv X pins σ H s->Vals vs us->t vs σ H Q->wpAny (model X.prog X.w) X.A (assignInOrder ((assignEach ts X.env).map (·.2)) us) (λ_ s'=>∃aq H',Inv X pins aq H' s'/\Q aq H') X.xe s
abbrev NN:=V->V->V->Hp->(Hp->Prop)->Prop
def RO(X:Cx)(t:NN):Prop:=∀(pins:List (Addr×Obj))(s:Shared)(σ:St)(H:Hp)(o i v:V)(ov iv u:Value)(Q:Hp->Prop),Inv X pins σ H s->RelV o ov->RelV i iv->RelV v u->t o i v H Q->wpAny (model X.prog X.w) X.A (setItem ov iv u) (λ_ s'=>∃H',Inv X pins σ H' s'/\Q H') X.xe s
abbrev WQ:=V->V->Hp->VK->Prop
def PIp(X:Cx)(op:Operator)(t:WQ):Prop:=∀(pins:List (Addr×Obj))(s:Shared)(σ:St)(H:Hp)(x y:V)(v u:Value)(Q:VK),Inv X pins σ H s->RelV x v->RelV y u->t x y H Q->wpAny (model X.prog X.w) X.A (inplaceOp op v u) (EP X pins σ Q) X.xe s
section
variable{X:Cx}{pos:Pos}
def iV(i:Nat):TG:=λv σ H Q=>Q (σ.set i<|some v) H
theorem pX(hN:X.N.Nodup)(hi:X.N[i]?=some x)(hx:Loc X.env.scope x)(hf:autoParam (X.fn x=true\/X.env.scope.names.lookup x=some .local) qQ6):PG X (.Name x pos) (iV i):=by intro pins s σ H v u Q I r h;exact wpAny_assign_Name<|lZ I hN hi hx r (λs' I'=>{_,H,I',h}) hf
def JP:Jx:=λvs σ H Q=>vs=[]/\Q σ H
def qq(t:TG)(u:Jx):Jx:=λvs σ H Q=>∃v r,vs=v::r/\t v σ H λaq H'=>u r aq H' Q
theorem CM:JO X [] JP:=by intro pins s σ H vs us Q I r h;obtain⟨e,h⟩:=h;subst e;cases r;exact assignInOrder_nil ⟨σ,H,I,h⟩
theorem qr{t:TG}(h1:PG X e t)(h2:JO X es u) (hs:autoParam ((assignEach (e::es) X.env).map (·.2)=assign e X.env::(assignEach es X.env).map (·.2)) qQJ):JO X (e::es) (qq t u):=by intro pins s σ H vs us Q I r h;obtain⟨v,vr,e1,h⟩:=h;subst e1;cases r with|cons r rr=>rw[hs];refine assignInOrder_cons<|bu (h1 pins s σ H _ _ _ I r h) λ_ s1 ⟨uP,H1,I1,q1⟩=>?_;exact h2 pins s1 uP H1 _ _ Q I1 rr q1
def JQ(K:Frag)(n:Nat)(t:Jx):TG:=λv σ H Q=>∃a xs,v=.ref a/\gp K H a xs/\xs.length=n/\t xs σ H Q
theorem FZ{t:Jx}(hc:X.calm=true)(h:JO X es t) (hn:autoParam ((assignEach es X.env).length=n) qQJ) (lS:autoParam ((assignEach es X.env).findIdx? (·.1)=none) qQJ):PG X (.Tuple es k pos) (JQ X.K n t):=by intro pins s σ H v u Q I r hw;obtain⟨a,xs,e1,hq,hl,hw⟩:=hw;subst e1;cases r;obtain⟨au,rv,ht,hz⟩:=I.tuple hq;refine assign_Tuple_tuple (I.ok.hd hc) ht (by simp[hn,<-hl,rv.length]) lS λh' hx=>?_;have I1:Inv X pins σ H {s with heap:=h'}:=I.kept (t':=s.toks) λb o e=>hx b o (zx<|zq e) e;exact h pins _ σ H xs _ Q I1 (by simpa using rv) hw
def WR(to ti:TE)(t:NN):TG:=λv σ H Q=>to σ H λo H1=>ti σ H1 λi H2=>t o i v H2 λH3=>Q σ H3
theorem NO{t:NN}(ho:PE X o to)(hi:PE X i ti)(hs:RO X t)
  (ha:autoParam (∀v,assign (.Subscript o i pos) X.env v=(do
   let ov <-holding [v] (eval o X.env)
   let iv <-holding [v,ov] (eval i X.env)
   standAt pos
   holding [v,ov,iv] (setItem ov iv v)
   release [v,ov,iv] [])) qQ0):PG X (.Subscript o i pos) (WR to ti t):=by
 intro pins s σ H v u Q I r h
 rw[ha]
 refine za<|yg<|bu (ho pins s σ H _ I h) λov s1 ⟨x,H1,I1,r1,q1⟩=>?_
 refine za<|yg<|bu (hi pins s1 σ H1 _ I1 q1) λiv s2 ⟨y,H2,I2,r2,q2⟩=>?_
 refine za<|wpAny_standAt<|za<|yg<|bu (hs pins s2 σ H2 x y v ov iv u _ I2 r1 r2 r q2) λ_ s3 ⟨H3,I3,q3⟩=>?_
 exact wpAny_release ⟨σ,H3,I3,q3⟩
def NP(te:TE)(g:TG):TS:=λD σ H=>te σ H λx H1=>g x σ H1 D.nx
theorem F8(he:PE X e te)(hg:PG X tg g)(hs:autoParam (swapsWithSole [tg] e pos.line X.env=pure false) qQJ)(hw:autoParam (swappedStores [tg] e X.env=pure none) qQJ) (h1:autoParam ((assignEach [tg] X.env).map (·.2)=[assign tg X.env]) qQJ):PS X (.Assign [tg] e pos) (NP te g):=by intro pins s σ H D I h;refine wpAny_Assign_stores (bu (he pins s σ H _ I h) λv s1 ⟨x,H1,I1,r1,q1⟩=>?_) hs hw;rw[h1];exact bu (hg pins s1 σ H1 x v _ I1 r1 q1) λ_ s2 q=>q
theorem NQ(hN:X.N.Nodup)(hi:X.N[i]?=some x)(hx:Loc X.env.scope x)(he:PE X e te)(hs:autoParam (swapsWith e (some<|.Name x pos') pos.line X.env=pure false) qQJ)(hf:autoParam (X.fn x=true\/X.env.scope.names.lookup x=some .local) qQ6): PS X (.Assign [.Name x pos'] e pos) (NP te<|iV i):=by intro pins s σ H D I h;refine wpAny_Assign_Name (bu (he pins s σ H _ I h) λv s1 ⟨y,H1,I1,r1,q1⟩=>?_) hs;exact lZ I1 hN hi hx r1 (λs2 I2=>{_,H1,I2,q1}) hf
def WS(i:Nat)(te:TE)(ti:WQ):TS:=λD σ H=>∃x,σ[i]?=some (some x)/\te σ H λy H1=>ti x y H1 λz H2=>D.nx (σ.set i<|some z) H2
theorem NR(hN:X.N.Nodup)(hi:X.N[i]?=some x)(hx:Loc X.env.scope x)(he:PE X e te)(ho:PIp X op ti)(hf:autoParam (X.fn x=true\/X.env.scope.names.lookup x=some .local) qQ6): PS X (.AugAssign (.Name x pos') op e pos) (WS i te ti):=by
 intro pins s σ H D I h;obtain⟨v,e1,h⟩:=h;obtain⟨m,hn,hl⟩:=I.loc;have vis:Nz X.env.scope x:=by rcases hx with k|k;exact .inl k;exact .inr<|.inl k
 obtain⟨u,r,l⟩:=hl i x v hi e1 vis;refine wpAny_AugAssign_Name ?_;have go:wpAny (model X.prog X.w) X.A (eval e X.env) (λw bT=>wpAny (model X.prog X.w) X.A (inplaceOp op u w) (λr AK=>wpAny (model X.prog X.w) X.A (storeName X.env x r) (λ_=>SP X pins D .next) X.xe AK) X.xe bT) X.xe s:=by refine bu (he pins s σ H _ I h) λw s1 ⟨y,H1,I1,r1,q1⟩=>?_;refine bu (ho pins s1 σ H1 v y u w _ I1 r r1 q1) λz s2 ⟨zv,H2,I2,r2,q2⟩=>?_;exact lZ I2 hN hi hx r2 (λs3 I3=>{_,H2,I3,q2}) hf
 rcases l with⟨hk,hm⟩|⟨hk,c,hc,CJ⟩;exact wpAny_loadName_local I.ok.kind hk hn hm go;rcases hk with hk|hk;exact wpAny_loadName_cell I.ok.kind hk hc CJ go;rcases hx with k|k;have:X.env.scope.names.lookup x=some .free:=hk;rw[k]at this;cases this;have:X.env.scope.names.lookup x=some .free:=hk;rw[k]at this;cases this
def ipI(f:Int->Int->Int):WQ:=λx y H Q=>∃i j,x=.int i/\y=.int j/\Q (.int<|f i j) H
theorem NS:PIp X .Add (ipI λi j=>i+j):=by intro pins s σ H x y v u Q I r1 r2 h;obtain⟨i,j,e1,e2,q⟩:=h;subst e1;subst e2;obtain⟨t,rfl⟩:=r1;obtain⟨t',rfl⟩:=r2;exact iadd_int {.int _,H,I.tok _,{_,rfl},q}
def NT(c:TT)(tb:TS):TS:=λD σ H=>∃W:Nat->St->Hp->Prop,(∃m,W m σ H)/\∀m σ H,W m σ H->c σ H λb H1=>if b=true then ∃N:St->Hp->Prop,(∀aq H',N aq H'->∃m',m'<m/\W m' aq H')/\tb {D with nx:=N,ct:=N,bk:=D.nx} σ H1 else D.nx σ H1
theorem F9(hp:PassesOwn (model X.prog X.w) X.A X.env X.xe)(hc:PT X c tc)(hb:AJ X body tb):PS X (.While c body [] pos) (NT tc tb):=by intro pins s σ H D I h;obtain⟨W,⟨m0,w0⟩,turn⟩:=h;refine wpAny_While<|codeAny_whileLoop (λn s'=>∃aq H',Inv X pins aq H' s'/\W n aq H') ?_ m0 ⟨σ,H,I,w0⟩;rintro n s1 ⟨uP,H1,I1,w1⟩;refine wpAny_passesOwn hp<|bu (hc pins s1 uP H1 _ I1<|turn n uP H1 w1) λb s2 ⟨H2,I2,q2⟩=>?_;cases b with|true=>(obtain⟨N,hN,q2⟩:=q2;rw[if_pos rfl];refine wpAny_passesOwn hp<|bu (hb pins s2 uP H2 _ I2 q2) λf s3 q3=>?_;cases f with|next=>(obtain⟨ir,H3,I3,n3⟩:=q3;obtain⟨m',hm,w3⟩:=hN ir H3 n3;exact⟨m',hm,ir,H3,I3,w3⟩)|cont=>(obtain⟨ir,H3,I3,n3⟩:=q3;obtain⟨m',hm,w3⟩:=hN ir H3 n3;exact⟨m',hm,ir,H3,I3,w3⟩)|brk=>exact q3|ret v=>exact q3)|false=>rw[if_neg zd];exact wpAny_execs_nil ⟨uP,H2,I2,q2⟩
end
structure It where
 go:Nat->Hp->Prop
 RP:Nat->Hp->V->Hp->Prop
 stop:Nat->Hp->Prop
def sO(X:Cx)(pins:List<|Addr×Obj)(H:Hp)(b:Addr):Prop:=H b=none/\b≠X.env.locals/\b∉X.fs/\(b∈X.ex\/X.dr.heap.objs.size<=b)/\(∀x c,X.env.cells.lookup x=some c->c≠b)/\∀p∈X.pn++pins,p.1≠b
theorem Inv.pA(I:Inv X pins σ H s)(hb:s.heap.objs.size<=b)(hn:H' b=none):sO X pins H' b:=by refine{hn,yr<|zm I.lt hb,I.RF hb,.inr<|zK I.sz hb,λx c e z=>?_,λp hp z=>?_};obtain⟨v,q⟩:=I.cell x c e;exact absurd (zm q.lt<|by rw[z];exact hb)<|yC _;exact absurd (zm (zq (I.pin p hp).1)<|by rw[z];exact hb)<|yC _
structure Turn(P:Program)(w:World)(K:Frag)(tg:Expr)(J:It)(fp:List Addr)(it:Addr)(tn:Nat->Heap->Prop):Prop where
 mem:it∈fp
 obj:∀i h,tn i h->∀b∈fp,∃o,h.get? b=some o/\∀v,o.data≠.cell v
 keep:∀i h h',tn i h->(∀b∈fp,∀o,h.get? b=some o->h'.get? b=some o)->tn i h'
 item:∀(X:Cx),X.prog=P->X.w=w->X.K=K->X.calm=true->∀(i:Nat)(pins:List (Addr×Obj))(s:Shared)(σ:St)(H:Hp)(E:Value->Shared->Prop),Inv X pins σ H s->(∀b∈fp,sO X pins H b)->tn i s.heap->J.go i H ->
  wpAny (model P w) X.A (pyNext<|.ref it) (λr s1=>∃u,r=some u /\
   wpAny (model P w) X.A (letOwnedTupleGo tg (.ref it) u) (λ_ s2=>∃x H',Inv X pins σ H' s2/\RelV x u/\J.RP i H x H'/\tn (i+1) s2.heap/\∀b∈fp,H' b=none) E s1) E s
 done:∀(X:Cx),X.prog=P->X.w=w->X.K=K->X.calm=true->∀(i:Nat)(pins:List (Addr×Obj))(s:Shared)(σ:St)(H:Hp)(E:Value->Shared->Prop),Inv X pins σ H s->(∀b∈fp,sO X pins H b)->tn i s.heap->J.stop i H ->
  wpAny (model P w) X.A (pyNext<|.ref it) (λr s1=>r=none/\Inv X pins σ H s1) E s
 self:∀(A:Around)(i:Nat)(s:Shared)(Q:Value->Shared->Prop)(E:Value->Shared->Prop),tn i s.heap->Q (.ref it) s->wpAny (model P w) A (pyIter<|.ref it) Q E s
abbrev TI:=St->Hp->(It->Hp->Prop)->Prop
def WT(X:Cx)(pins:List<|Addr×Obj)(σ:St)(tg:Expr)(R:It->Hp->Prop)(VO:Value)(s2:Shared):Prop:=∃(it:Addr)(fp:List Addr)(tn:Nat->Heap->Prop)(J:It)(H':Hp),VO=.ref it/\Inv X pins σ H' s2/\Turn X.prog X.w X.K tg J fp it tn/\tn 0 s2.heap/\(∀b∈fp,sO X pins H' b)/\R J H'
def PI(X:Cx)(tg iter:Expr)(wi:TI):Prop:=∀(pins:List (Addr×Obj))(s:Shared)(σ:St)(H:Hp)(R:It->Hp->Prop),Inv X pins σ H s->wi σ H R->wpAny (model X.prog X.w) X.A (eval iter X.env) (λv s1=>wpAny (model X.prog X.w) X.A (pyIter v) (WT X pins σ tg R) X.xe s1) X.xe s
theorem tW(ho:s.heap.get? it=some o)(hc:o.cls=.type n)(hd:o.data=.fields vs) (hn:["enumerate","zip","dict_itemiterator","dict_reverseitemiterator","odict_iterator","itertools.zip_longest","itertools.pairwise"].contains n=false) (hQ:Q () s):wpAny M A (letOwnedTupleGo tg (.ref it) u) Q E s:=by
 unfold letOwnedTupleGo
 cases tg<;>first
  |exact zf hQ
  | (cases u<;>first
    |exact zf hQ
    | (refine za (wpAny_load ho ?_)
       rw[hc,hd]
       show wpAny M A (if (["enumerate","zip","dict_itemiterator","dict_reverseitemiterator","odict_iterator","itertools.zip_longest","itertools.pairwise"].contains n&&vs[0]?==some (rawInt _))=true then _ else _) Q E s
       rw[if_neg<|by intro h;rw[hn,zW]at h;cases h]
       exact zf hQ))
def Itl(K:Frag)(a:Addr):It:={λi H=>∃xs x,ji K H a xs/\xs[i]?=some x,λi H x H'=>H'=H/\∀xs,ji K H a xs->xs[i]?=some x,λi H=>∃xs,ji K H a xs/\xs.length<=i}
def Itt(K:Frag)(a:Addr):It:={λi H=>∃xs x,gp K H a xs/\xs[i]?=some x,λi H x H'=>H'=H/\∀xs,gp K H a xs->xs[i]?=some x,λi H=>∃xs,gp K H a xs/\xs.length<=i}
noncomputable def VP(lo:Int)(n:Nat):It:={λi _=>i<n,λi H x H'=>H'=H/\x=.int (lo+i),λi _=>n<=i}
theorem D_{P:Program}{w:World}{K:Frag}{tg:Expr}(a it:Addr):Turn P w K tg (Itl K a) [it] it (λi h=>h.IsListIter it a i) where
 mem:=by simp
 obj:=λi h st b hb=>by
  have e:b=it:=by simpa using hb
  subst e
  obtain⟨o,e,c,d⟩:=st
  exact{o,e,λv z=>by rw[d]at z;cases z}
 keep:=λi h h' st k=>st.at λo e=>k it (by simp) o e
 item:=by
  intro X hP hw hK hc i pins s σ H E I hf st hg
  subst hP hw hK
  obtain⟨xs,x,hq,hx⟩:=hg
  obtain⟨au,rv,p,hz⟩:=I.list hq
  obtain⟨u,hu,ru⟩:=rv.get hx
  obtain⟨f0,f1,f2,f3,f4,f5⟩:=hf it<|by simp
  refine wpAny_pyNext_list_item st p.isList (x:=u) (by simpa using hu) λh' fb sb=>?_
  have I1:Inv X pins σ H {s with heap:=h'}:=I.turned (t':=s.toks) (λb o hb e=>(sb.2 b hb).trans e) f0 f1 f3 f4 f5
  obtain⟨o,e,c,d⟩:=id fb
  exact{u,rfl,tW (s:={s with heap:=h'}) e c d (by decide) {x,H,I1,ru,{rfl,λys hy=>by rw[I.wZ hy hq];exact hx},fb,λb hb=>(hf b hb).1}}
 done:=by
  intro X hP hw hK hc i pins s σ H E I hf st hg
  subst hP hw hK
  obtain⟨xs,hq,hx⟩:=hg
  obtain⟨au,rv,p,hz⟩:=I.list hq
  obtain⟨f0,f1,f2,f3,f4,f5⟩:=hf it<|by simp
  have hl:=rv.length
  exact wpAny_pyNext_list_end (I.ok.hd hc) st p.isList (by simp;lia) λh' eb=>{rfl,I.turned (t':=s.toks) (λb o hb e=>eb b o hb e) f0 f1 f3 f4 f5}
 self:=λ_ _ _ _ _ st h=>wpAny_pyIter_listiter st h
theorem AL{P:Program}{w:World}{K:Frag}{tg:Expr}(a it:Addr):Turn P w K tg (Itt K a) [it] it (λi h=>h.IsTupleIter it a i) where
 mem:=by simp
 obj:=λi h st b hb=>by
  have e:b=it:=by simpa using hb
  subst e
  obtain⟨o,e,c,d⟩:=st
  exact{o,e,λv z=>by rw[d]at z;cases z}
 keep:=λi h h' st k=>st.at λo e=>k it (by simp) o e
 item:=by
  intro X hP hw hK hc i pins s σ H E I hf st hg
  subst hP hw hK
  obtain⟨xs,x,hq,hx⟩:=hg
  obtain⟨au,rv,p,hz⟩:=I.tuple hq
  obtain⟨u,hu,ru⟩:=rv.get hx
  obtain⟨f0,f1,f2,f3,f4,f5⟩:=hf it<|by simp
  refine wpAny_pyNext_tuple_item st (show s.heap.IsTuple a au.toArray from p) (x:=u) (by simpa using hu) λh' fb sb=>?_
  have I1:Inv X pins σ H {s with heap:=h'}:=I.turned (t':=s.toks) (λb o hb e=>(sb.2 b hb).trans e) f0 f1 f3 f4 f5
  obtain⟨o,e,c,d⟩:=id fb
  exact{u,rfl,tW (s:={s with heap:=h'}) e c d (by decide) {x,H,I1,ru,{rfl,λys hy=>by rw[I.nr hy hq];exact hx},fb,λb hb=>(hf b hb).1}}
 done:=by
  intro X hP hw hK hc i pins s σ H E I hf st hg
  subst hP hw hK
  obtain⟨xs,hq,hx⟩:=hg
  obtain⟨au,rv,p,hz⟩:=I.tuple hq
  obtain⟨f0,f1,f2,f3,f4,f5⟩:=hf it<|by simp
  have hl:=rv.length
  exact wpAny_pyNext_tuple_end (I.ok.hd hc) st (show s.heap.IsTuple a au.toArray from p) (by simp;lia) λh' eb=>{rfl,I.turned (t':=s.toks) (λb o hb e=>eb b o hb e) f0 f1 f3 f4 f5}
 self:=λ_ _ _ _ _ st h=>wpAny_pyIter_tupleiter st h
theorem AM{P:Program}{w:World}{K:Frag}{tg:Expr}(it:Addr)(lo:Int)(n:Nat):Turn P w K tg (VP lo n) [it] it (λi h=>IsRangeIter h it (lo+(i:Nat)*1) ((n:Int)-(i:Nat)) 1) where
 mem:=by simp
 obj:=λi h st b hb=>by
  have e:b=it:=by simpa using hb
  subst e
  exact⟨_,st,λv z=>by
   have z':Data.fields _=Data.cell v:=z
   cases z'⟩
 keep:=λi h h' st k=>k it (by simp) _ st
 item:=by
  intro X hP hw hK hc i pins s σ H E I hf st hg
  subst hP hw hK
  obtain⟨f0,f1,f2,f3,f4,f5⟩:=hf it<|by simp
  have W:=Walks.range (prog:=X.prog) (w:=X.w) (I.ok.hd hc) it lo 1 n
  refine W.item i s _ _ hg st λv h' tk hv fb kk=>?_
  obtain⟨t,rfl⟩:=hv
  have I1:Inv X pins σ H {s with heap:=h',toks:=tk}:=I.turned (λb o hb e=>kk b o (by simpa using hb) e) f0 f1 f3 f4 f5
  refine{_,rfl,tW (s:={s with heap:=h',toks:=tk}) (n:="range_iterator") fb rfl rfl (by decide) {.int<|lo+i,H,I1,{t,?_},⟨rfl,rfl⟩,fb,λb hb=>(hf b hb).1}}
  rw[Int.mul_one]
 done:=by
  intro X hP hw hK hc i pins s σ H E I hf st hg
  subst hP hw hK
  obtain⟨f0,f1,f2,f3,f4,f5⟩:=hf it<|by simp
  exact wpAny_pyNext_range_end (I.ok.hd hc) st (by have:n<=i:=hg;lia) λh' eb=>{rfl,I.turned (t':=s.toks) (λb o hb e=>eb b o hb e) f0 f1 f3 f4 f5}
 self:=λ_ _ _ _ _ st h=>wpAny_pyIter_rangeiter st h
section
variable{X:Cx}{tg:Expr}
def RQ(K:Frag)(tl:TE):TI:=λσ H R=>tl σ H λx H1=>∃a,x=.ref a/\(∃xs,ji K H1 a xs)/\R (Itl K a) H1
def WU(K:Frag)(tl:TE):TI:=λσ H R=>tl σ H λx H1=>∃a,x=.ref a/\(∃xs,gp K H1 a xs)/\R (Itt K a) H1
theorem JR{l:Expr}{tl:TE}(hl:PE X l tl):PI X tg l (RQ X.K tl):=by
 intro pins s σ H R I h;refine bu (hl pins s σ H _ I h) λv s1 ⟨x,H1,I1,r1,q1⟩=>?_;obtain⟨a,e,⟨xs,hq⟩,q⟩:=q1;subst e;cases r1;obtain⟨au,rv,p,hz⟩:=I1.list hq;refine wpAny_pyIter_list p.isList ?_;refine{s1.heap.objs.size,[s1.heap.objs.size],_,_,H1,rfl,I1.kept (t':=s1.toks) λb o e=>zb _ e,D_ a _,{_,zi _ rfl,rfl,rfl},λb hb=>?_,q};have e:b=s1.heap.objs.size:=by simpa using hb
 subst e;exact I1.pA (zl _)<|I1.aH.fresh<|zl _
theorem NU{l:Expr}{tl:TE}(hl:PE X l tl):PI X tg l (WU X.K tl):=by
 intro pins s σ H R I h;refine bu (hl pins s σ H _ I h) λv s1 ⟨x,H1,I1,r1,q1⟩=>?_;obtain⟨a,e,⟨xs,hq⟩,q⟩:=q1;subst e;cases r1;obtain⟨au,rv,p,hz⟩:=I1.tuple hq;refine wpAny_pyIter_tuple (show s1.heap.IsTuple a au.toArray from p) ?_;refine{s1.heap.objs.size,[s1.heap.objs.size],_,_,H1,rfl,I1.kept (t':=s1.toks) λb o e=>zb _ e,AL a _,{_,zi _ rfl,rfl,rfl},λb hb=>?_,q};have e:b=s1.heap.objs.size:=by simpa using hb
 subst e;exact I1.pA (zl _)<|I1.aH.fresh<|zl _
theorem F_{pins:List<|Addr×Obj}{σ:St}{H:Hp}{s:Shared}{R:It->Hp->Prop}{E:Value->Shared->Prop}{lo hi:Int}{t u v:Tok}{tk:Nat}(I:Inv X pins σ H s)(h1:-(2^62)<=lo)(h2:lo<2^62)(h3:-(2^62)<=hi)(h4:hi<2^62) (q:R (VP lo (hi-lo).toNat) H):wpAny (model X.prog X.w) X.A (pyIter<|.ref s.heap.objs.size) (WT X pins σ tg R) E {s with heap:=s.heap.push {cls:=.type "range",data:=.fields #[.int lo t,.int hi u,.int 1 v]},toks:=tk}:=by
 refine wpAny_pyIter_range (IsRange.new ..) (small_one h1 h2 h3 h4) ?_;have I1:Inv X pins σ H {s with heap:=s.heap.push {cls:=.type "range",data:=.fields #[.int lo t,.int hi u,.int 1 v]},toks:=tk}:=I.kept λb o e=>zb _ e;refine{(s.heap.push {cls:=.type "range",data:=.fields #[.int lo t,.int hi u,.int 1 v]}).objs.size,[(s.heap.push {cls:=.type "range",data:=.fields #[.int lo t,.int hi u,.int 1 v]}).objs.size],_,_,H,rfl,I1.kept (t':=tk) λb o e=>zb _ e,AM _ lo (hi-lo).toNat,?_,λb hb=>?_,q};have e1:lo+((0:Nat):Int)*1=lo:=by simp
 have e2:(((hi-lo).toNat:Nat):Int)-((0:Nat):Int)=Builtin.Range.rangeSize lo hi 1:=by rw[rangeSize_one];split<;>lia
 show IsRangeIter _ _ (lo+((0:Nat):Int)*1) ((((hi-lo).toNat:Nat):Int)-((0:Nat):Int)) 1;rw[e1,e2];exact zi _ rfl;have e:b=(s.heap.push {cls:=.type "range",data:=.fields #[.int lo t,.int hi u,.int 1 v]}).objs.size:=by simpa using hb
 subst e;exact I1.pA (zl _)<|I1.aH.fresh<|zl _
def RS(ta:TA):TI:=λσ H R=>ta σ H λvs H1=>∃j:Int,vs=[.int j]/\-(2^62)<=j/\j<2^62/\R (VP 0 j.toNat) H1
theorem Ea{a:Expr}{ta:TA}{p pos:Pos}(hg:Gl X "range")(hm:X.mg "range"= none)(ha:PA X [a] ta)(hs:autoParam (starEach [a] X.env=[(false,eval a X.env)]) qQJ):PI X tg (.Call (.Name "range" p) [a] [] pos) (RS ta):=by intro pins s σ H R I h;refine Call_<|gF I hg hm boot_range<|PyProof.Rows.callWith_type1 (bu (ha pos pins s σ H _ I h) λus s1 ⟨vs,H1,I1,r1,q1⟩=>?_) hs rfl;obtain⟨j,e,q1,q2,q⟩:=q1;subst e;cases r1 with|cons r rr=>cases rr;obtain⟨t,rfl⟩:=r;exact call_range_1<|F_ I1 (by lia) (by lia) q1 q2<|by simpa using q
def WV(wi:TI)(g:TG)(tb:TS):TS:=λD σ H=>wi σ H λJ H1=>∃W:Nat->Nat->St->Hp->Prop,(∃m,W 0 m σ H1)/\∀i m σ H,W i m σ H->(J.stop i H/\D.nx σ H)\/(J.go i H/\∃N:St->Hp->Prop,(∀aq H',N aq H'->∃m',m'<m/\W (i+1) m' aq H')/\∀x H',J.RP i H x H'->g x σ H' λCO H2=>tb {D with nx:=N,ct:=N,bk:=D.nx} CO H2)
noncomputable def qt(fp:List Addr)(h:Heap):List (Addr×Obj):=fp.filterMap λb=>(h.get? b).map λo=>(b,o)
theorem iy(hb:b∈fp)(e:h.get? b=some o):(b,o)∈qt fp h:=List.mem_filterMap.mpr {b,hb,by rw[e];rfl}
theorem Eb(hp:p∈qt fp h):p.1∈fp/\h.get? p.1=some p.2:=by obtain⟨b,hb,e⟩:=List.mem_filterMap.mp hp;cases q:h.get? b with|none=>(rw[q]at e;cases e)|some o=>rw[q]at e;have e':(b,o)=p:=zV e;subst e';exact⟨hb,q⟩
theorem Inv.pinned(I:Inv X pins σ H s)(hf:∀b∈fp,sO X pins H b)(ho:∀b∈fp,∃o,s.heap.get? b=some o/\∀v,o.data≠.cell v):Inv X (pins++qt fp s.heap) σ H s:=I.lY λp hp=>(zO.mp hp).elim (λz=>I.pin p<|zC _ z) λz=>by obtain⟨hb,e⟩:=Eb z;obtain⟨f0,f1,f2,_⟩:=hf p.1 hb;obtain⟨o,e',d⟩:=ho p.1 hb;rw[e]at e';cases e';exact⟨e,f0,f1,f2,d⟩
theorem Inv.qu(I:Inv X (pins++pl) σ H s):Inv X pins σ H s:=I.lY λp hp=>I.pin p<|zC _<|zU _ hp
theorem NV(hp:PassesOwn (model X.prog X.w) X.A X.env X.xe)(hc:X.calm=true)(hi:PI X tg iter wi)(hg:PG X tg g)(hb:AJ X body tb) (hs:autoParam (∀x,foldedSetIterable iter X.env x=pure x) qQ0):PS X (.For tg iter body [] pos) (WV wi g tb):=by intro pins s σ H D I h;refine wpAny_For (bu (hi pins s σ H _ I h) λv s1 h1=>bu h1 λVO s2 h2=>?_) hs;obtain⟨it,fp,tn,J,H2,e,I2,T,Ga,f2,W,⟨m0,w0⟩,turn⟩:=h2;subst e;have NW:∀{H':Hp},(∀b∈fp,H' b=none)->∀b∈fp,sO X pins H' b:=λhn b hb=>{hn b hb,(f2 b hb).2};refine codeAny_forLoop_any (λn s'=>∃i aq H',Inv X pins aq H' s'/\tn i s'.heap/\(∀b∈fp,H' b=none)/\W i n aq H') ?_ m0 {0,σ,H2,I2,Ga,λb hb=>(f2 b hb).1,w0};rintro n s3 ⟨i,ir,H3,I3,Mm,RT,w3⟩;rcases turn i n ir H3 w3 with⟨stop,qn⟩|⟨go,N,hN,step⟩;refine wpAny_passesOwn hp<|bu (T.done X rfl rfl rfl hc i pins s3 ir H3 X.xe I3 (NW RT) Mm stop) λr s4 ⟨hr,I4⟩=>?_;subst hr;exact wpAny_execs_nil ⟨ir,H3,I4,qn⟩;{refine wpAny_passesOwn hp<|bu (T.item X rfl rfl rfl hc i pins s3 ir H3 X.xe I3 (NW RT) Mm go) λr s4 ⟨u,hr,h4⟩=>?_;subst hr;refine wpAny_passesOwn hp<|bu h4 λ_ s5 ⟨x,H5,I5,r5,y5,Jy,fr5⟩=>?_;have WW:=I5.pinned (NW fr5)<|T.obj _ _ Jy;refine wpAny_passesOwn hp<|bu (hg _ s5 ir H5 x u _ WW r5<|step x H5 y5) λ_ s6 ⟨RU,H6,I6,q6⟩=>?_;refine wpAny_passesOwn hp<|bu (hb _ s6 RU H6 _ I6 q6) λf s7 q7=>?_;have again:∀{Gb:St}{H7:Hp},Inv X (pins++qt fp s5.heap) Gb H7 s7->N Gb H7->∃m,m<n/\∃i aq H',Inv X pins aq H' s7/\tn i s7.heap/\(∀b∈fp,H' b=none)/\W i m aq H':=λ{Gb H7} I7 n7=>(by obtain⟨m',hm,w7⟩:=hN Gb H7 n7;refine{m',hm,i+1,Gb,H7,I7.qu,T.keep _ _ _ Jy λb hb o e=>(I7.pin (b,o)<|zC _<|zC _<|iy hb e).1,λb hb=>?_,w7};obtain⟨o,e,d⟩:=T.obj _ _ Jy b hb;exact(I7.pin (b,o)<|zC _<|zC _<|iy hb e).2.1);cases f with|next=>(obtain⟨Gb,H7,I7,n7⟩:=q7;exact again I7 n7)|cont=>(obtain⟨Gb,H7,I7,n7⟩:=q7;exact again I7 n7)|brk=>(obtain⟨Gb,H7,I7,q7⟩:=q7;exact⟨Gb,H7,I7.qu,q7⟩)|ret v=>obtain⟨x7,Gb,H7,I7,r7,q7⟩:=q7;exact⟨x7,Gb,H7,I7.qu,r7,q7⟩}
end
abbrev R2:=V->V->Hp->VK->Prop
def gR(X:Cx)(f:Value->Value->Sem Value)(r:R2):Prop:=∀(pins:List (Addr×Obj))(s:Shared)(σ:St)(H:Hp)(x y:V)(v u:Value)(Q:VK),Inv X pins σ H s->RelV x v->RelV y u->r x y H Q->wpAny (model X.prog X.w) X.A (f v u) (EP X pins σ Q) X.xe s
def WX(X:Cx)(f:Value->Sem Value)(r:V->Hp->VK->Prop):Prop:=∀(pins:List (Addr×Obj))(s:Shared)(σ:St)(H:Hp)(x:V)(v:Value)(Q:VK),Inv X pins σ H s->RelV x v->r x H Q->wpAny (model X.prog X.w) X.A (f v) (EP X pins σ Q) X.xe s
def dw(X:Cx)(f:Value)(r:List V->Hp->VK->Prop):Prop:=∀(pins:List (Addr×Obj))(s:Shared)(σ:St)(H:Hp)(xs:List V)(us:List Value)(Q:VK),Inv X pins σ H s->Vals xs us->r xs H Q->wpAny (model X.prog X.w) X.A (call f us) (EP X pins σ Q) X.xe s
def QT(r:R2)(ta tb:TE):TE:=λσ H Q=>ta σ H λx H1=>tb σ H1 λy H2=>r x y H2 Q
def tUn(r:V->Hp->VK->Prop)(ta:TE):TE:=λσ H Q=>ta σ H λx H1=>r x H1 Q
def rI(C:Int->Int->Prop)(g:Int->Int->V):R2:=λx y H Q=>∃i j,x=.int i/\y=.int j/\C i j/\Q (g i j) H
def JS(g:Int->Int->V):R2:=λx y H Q=>∃i j,x=.int i/\y=.int j/\Q (g i j) H
def rU(g:Int->V):V->Hp->VK->Prop:=λx H Q=>∃i,x=.int i/\Q (g i) H
section
variable{X:Cx}{a b:Expr}{ta tb:TE}{pos:Pos}
theorem NX(ha:PE X a ta)(hb:PE X b tb){pins:List<|Addr×Obj}{s:Shared}{σ:St}{H:Hp}{R:V->V->Hp->Prop}(I:Inv X pins σ H s) (h:ta σ H λx H1=>tb σ H1 λy H2=>R x y H2) {Q:Value->Shared->Prop}{f:Value->Value->Sem Value} (hf:∀v u s2 x y H2,Inv X pins σ H2 s2->RelV x v->RelV y u->R x y H2->wpAny (model X.prog X.w) X.A (f v u) Q X.xe s2): wpAny (model X.prog X.w) X.A (eval a X.env) (λv aT=>wpAny (model X.prog X.w) X.A (eval b X.env) (λu bT=>wpAny (model X.prog X.w) X.A (f v u) Q X.xe bT) X.xe aT) X.xe s:=by refine bu (ha pins s σ H _ I h) λv s1 ⟨x,H1,I1,r1,q1⟩=>?_;refine bu (hb pins s1 σ H1 _ I1 q1) λu s2 ⟨y,H2,I2,r2,q2⟩=>?_;exact hf v u s2 x y H2 I2 r1 r2 q2
theorem RV{op:Operator}{r:R2}(ho:gR X (binaryOp op) r)(ha:PE X a ta)(hb:PE X b tb):PE X (.BinOp a op b pos) (QT r ta tb):=by intro pins s σ H Q I h;exact wpAny_BinOp<|NX ha hb I h λv u s2 x y H2 I2 rx ry q=>ho pins s2 σ H2 x y v u Q I2 rx ry q
theorem RW(ho:WX X (unaryOp op) r)(ha:PE X a ta):PE X (.UnaryOp op a pos) (tUn r ta):=by intro pins s σ H Q I h;exact UnaryOp_<|bu (ha pins s σ H _ I h) <| by rintro v s1 ⟨x,H1,I1,r1,q1⟩;exact ho pins s1 σ H1 x v Q I1 r1 q1
theorem VQ{f:Value->Value->Sem Value}{C:Int->Int->Prop}{g:Int->Int->Int} (rule:∀(i j:Int)(t u:Tok)(s:Shared)(Q:Value->Shared->Prop)(E:Value->Shared->Prop),C i j->Q (.int (g i j) s.toks) {s with toks:=s.toks+1}->wpAny (model X.prog X.w) X.A (f (.int i t)<|.int j u) Q E s): gR X f (rI C λi j=>.int<|g i j):=by intro pins s σ H x y v u Q I rx ry h;obtain⟨i,j,rfl,rfl,hc,q⟩:=h;obtain⟨t,rfl⟩:=rx;obtain⟨t',rfl⟩:=ry;exact rule i j t t' s _ _ hc {.int<|g i j,H,I.tok _,{_,rfl},q}
theorem RX{f:Value->Value->Sem Value}{g:Int->Int->Int} (rule:∀(i j:Int)(t u:Tok)(s:Shared)(Q:Value->Shared->Prop)(E:Value->Shared->Prop),Q (.int (g i j) s.toks) {s with toks:=s.toks+1}->wpAny (model X.prog X.w) X.A (f (.int i t)<|.int j u) Q E s): gR X f (JS λi j=>.int<|g i j):=by intro pins s σ H x y v u Q I rx ry h;obtain⟨i,j,rfl,rfl,q⟩:=h;obtain⟨t,rfl⟩:=rx;obtain⟨t',rfl⟩:=ry;exact rule i j t t' s _ _ {.int<|g i j,H,I.tok _,{_,rfl},q}
theorem JT{f:Value->Value->Sem Value}{g:Int->Int->Bool} (rule:∀(i j:Int)(t u:Tok)(s:Shared)(Q:Value->Shared->Prop)(E:Value->Shared->Prop),Q (.bool<|g i j) s->wpAny (model X.prog X.w) X.A (f (.int i t)<|.int j u) Q E s): gR X f (JS λi j=>.bl<|g i j):=by intro pins s σ H x y v u Q I rx ry h;obtain⟨i,j,rfl,rfl,q⟩:=h;obtain⟨t,rfl⟩:=rx;obtain⟨t',rfl⟩:=ry;exact rule i j t t' s _ _ {.bl<|g i j,H,I,rfl,q}
def RY(i j:Int):Prop:=0<=j/\j<=1000000/\i.natAbs<2^64
def JU(i j:Int):Prop:=(-(2^64)<i/\i<2^64)\/(-(2^64)<j/\j<2^64)
theorem JU.ok{i j:Int}(h:JU i j):IntMulOk i j:=by rcases h with⟨h1,h2⟩|⟨h1,h2⟩;exact .of_left<|intBits_le_64 h1 h2;exact .of_right<|intBits_le_64 h1 h2
theorem Ge:gR X (binaryOp .Add) (JS λi j=>.int<|i+j):=RX λ_ _ _ _ _ _ _ q=>add_int q
theorem NY:gR X (binaryOp .Sub) (JS λi j=>.int<|i-j):=RX λ_ _ _ _ _ _ _ q=>sub_int q
theorem NZ:gR X (binaryOp .Mult) (rI JU λi j=>.int<|i*j):=VQ λ_ _ _ _ _ _ _ hc q=>mul_int q hc.ok
theorem N1:gR X (binaryOp .Mod) (rI (λ_ j=>0<j) λi j=>.int<|i%j):=VQ λi j _ _ _ _ _ hc q=>by have h1:(0:Int)<j:=hc;exact mod_int' (by lia)<|by rw[Int.fmod_eq_emod_of_nonneg i<|by lia];exact q
theorem N2:gR X (binaryOp .Pow) (rI RY λi j=>.int<|i^j.toNat):=VQ λ_ _ _ _ _ _ _ hc q=>pow_int_small hc.1 hc.2.1 hc.2.2 q
theorem unI{f:Value->Sem Value}{g:Int->Int} (rule:∀(i:Int)(t:Tok)(s:Shared)(Q:Value->Shared->Prop)(E:Value->Shared->Prop),Q (.int (g i) s.toks) {s with toks:=s.toks+1}->wpAny (model X.prog X.w) X.A (f<|.int i t) Q E s): WX X f (rU λi=>.int<|g i):=by intro pins s σ H x v Q I rx h;obtain⟨i,rfl,q⟩:=h;obtain⟨t,rfl⟩:=rx;exact rule i t s _ _ {.int<|g i,H,I.tok _,{_,rfl},q}
theorem N3:WX X (unaryOp .USub) (rU λi=>.int (-i)):=unI λ_ _ _ _ _ q=>neg_int q
end
noncomputable def RZ:V->V->Bool|.av,.av=>true|.av,.int _=>true|.int _,.av=>true|.av,.bl _=>true|.bl _,.av=>true|.av,.str _=>true|.str _,.av=>true|.int _,.int _=>true|.bl _,.bl _=>true|.str _,.str _=>true|.CI _,.CI _=>true|.int _,.str _=>true|.str _,.int _=>true|.bl _,.str _=>true|.str _,.bl _=>true|_,_=>false
def rEq:R2:=λx y H Q=>RZ x y=true/\Q (.bl<|decide<|x=y) H
def rNe:R2:=λx y H Q=>RZ x y=true/\Q (.bl<|!decide (x=y)) H
theorem CP:decide (V.int i=V.int j)=(i==j):=by rw[yN];simp
theorem Gf:decide (V.bl i=V.bl j)=(i==j):=by rw[yN];simp
theorem CQ:decide (V.str i=V.str j)=(i==j):=by rw[yN];simp
theorem CT:decide (V.CI i=V.CI j)=(i.toList==j.toList):=by rw[yN];cases i;cases j;simp
section
variable{X:Cx}{a b c:Expr}{ta tb tc:TE}{pos:Pos}
theorem aK(I:Inv X pins σ H s)(q:Q (.bl k) H)(e:k=k'):EP X pins σ Q (.bool k') s:=by subst e;exact{.bl k,H,I,rfl,q}
theorem Mn:gR X (compareOp .Eq) rEq:=by intro pins s σ H x y v u Q I rx ry h;obtain⟨hs,q⟩:=h;cases x with|av=>(cases rx;cases y with|av=>(cases ry;exact PySem.EqNone.eq_none_none<|aK I q<|by simp)|bl j=>(cases ry;exact PySem.EqNone.eq_none_bool<|aK I q<|by simp)|int j=>(obtain⟨t',rfl⟩:=ry;exact PySem.EqNone.eq_none_int<|aK I q<|by simp)|str j=>(obtain⟨t',rfl⟩:=ry;exact PySem.EqNone.eq_none_str<|aK I q<|by simp)|_=>exact absurd (show false=true from hs) zd)|bl i=>(cases rx;cases y with|av=>(cases ry;exact PySem.EqNone.eq_bool_none<|aK I q<|by simp)|bl j=>(cases ry;exact eq_bool<|aK I q Gf)|str j=>(obtain⟨t',rfl⟩:=ry;exact PySem.EqMixed.eq_bool_str<|aK I q<|by simp)|_=>exact absurd (show false=true from hs) zd)|int i=>(obtain⟨t,rfl⟩:=rx;cases y with|av=>(cases ry;exact PySem.EqNone.eq_int_none<|aK I q<|by simp)|int j=>(obtain⟨t',rfl⟩:=ry;exact eq_int<|aK I q CP)|str j=>(obtain⟨t',rfl⟩:=ry;exact PySem.EqMixed.eq_int_str<|aK I q<|by simp)|_=>exact absurd (show false=true from hs) zd)|str i=>(obtain⟨t,rfl⟩:=rx;cases y with|av=>(cases ry;exact PySem.EqNone.eq_str_none<|aK I q<|by simp)|bl j=>(cases ry;exact PySem.EqMixed.eq_str_bool<|aK I q<|by simp)|int j=>(obtain⟨t',rfl⟩:=ry;exact PySem.EqMixed.eq_str_int<|aK I q<|by simp)|str j=>(obtain⟨t',rfl⟩:=ry;exact eq_str<|aK I q CQ)|_=>exact absurd (show false=true from hs) zd)|CI i=>(obtain⟨t,rfl⟩:=rx;cases y with|CI j=>(obtain⟨t',rfl⟩:=ry;exact PySem.W.eq_bytes<|aK I q CT)|_=>exact absurd (show false=true from hs) zd)|_=>cases y<;>exact absurd (show false=true from hs) zd
theorem Mp:gR X (compareOp .NotEq) rNe:=by intro pins s σ H x y v u Q I rx ry h;obtain⟨hs,q⟩:=h;cases x with|av=>(cases rx;cases y with|av=>(cases ry;exact PySem.EqNone.ne_none_none<|aK I q<|by simp)|bl j=>(cases ry;exact PySem.EqNone.ne_none_bool<|aK I q<|by simp)|int j=>(obtain⟨t',rfl⟩:=ry;exact PySem.EqNone.ne_none_int<|aK I q<|by simp)|str j=>(obtain⟨t',rfl⟩:=ry;exact PySem.EqNone.ne_none_str<|aK I q<|by simp)|_=>exact absurd (show false=true from hs) zd)|bl i=>(cases rx;cases y with|av=>(cases ry;exact PySem.EqNone.ne_bool_none<|aK I q<|by simp)|bl j=>(cases ry;exact ne_bool<|aK I q<|congrArg not Gf)|str j=>(obtain⟨t',rfl⟩:=ry;exact PySem.EqMixed.ne_bool_str<|aK I q<|by simp)|_=>exact absurd (show false=true from hs) zd)|int i=>(obtain⟨t,rfl⟩:=rx;cases y with|av=>(cases ry;exact PySem.EqNone.ne_int_none<|aK I q<|by simp)|int j=>(obtain⟨t',rfl⟩:=ry;exact ne_int<|aK I q<|congrArg not CP)|str j=>(obtain⟨t',rfl⟩:=ry;exact PySem.EqMixed.ne_int_str<|aK I q<|by simp)|_=>exact absurd (show false=true from hs) zd)|str i=>(obtain⟨t,rfl⟩:=rx;cases y with|av=>(cases ry;exact PySem.EqNone.ne_str_none<|aK I q<|by simp)|bl j=>(cases ry;exact PySem.EqMixed.ne_str_bool<|aK I q<|by simp)|int j=>(obtain⟨t',rfl⟩:=ry;exact PySem.EqMixed.ne_str_int<|aK I q<|by simp)|str j=>(obtain⟨t',rfl⟩:=ry;exact ne_str<|aK I q<|congrArg not CQ)|_=>exact absurd (show false=true from hs) zd)|CI i=>(obtain⟨t,rfl⟩:=rx;cases y with|CI j=>(obtain⟨t',rfl⟩:=ry;exact PySem.W.ne_bytes<|aK I q<|congrArg not CT)|_=>exact absurd (show false=true from hs) zd)|_=>cases y<;>exact absurd (show false=true from hs) zd
theorem R1:gR X (compareOp .Lt) (JS λi j=>.bl<|decide<|i<j):=JT λ_ _ _ _ _ _ _ q=>lt_int q
theorem R3:gR X (compareOp .LtE) (JS λi j=>.bl<|decide<|i<=j):=JT λ_ _ _ _ _ _ _ q=>le_int q
theorem R4:gR X (compareOp .Gt) (JS λi j=>.bl<|decide<|j<i):=JT λ_ _ _ _ _ _ _ q=>gt_int q
theorem R5:gR X (compareOp .GtE) (JS λi j=>.bl<|decide<|j<=i):=JT λ_ _ _ _ _ _ _ q=>ge_int q
theorem Ec:gR X (compareOp .Lt) (λx y H Q=>∃i j,x=.str i/\y=.str j/\Q (.bl<|decide<|i.cps.toList<j.cps.toList) H):=by intro pins s σ H x y v u Q I rx ry h;obtain⟨i,j,rfl,rfl,q⟩:=h;obtain⟨t,rfl⟩:=rx;obtain⟨t',rfl⟩:=ry;exact lt_str<|aK I q rfl
theorem Ed:gR X (compareOp .In) (λx y H Q=>∃i j,x=.str i/\y=.str j/\Q (.bl<|!(Builtin.Str.occurrences j i 0 j.length 1).isEmpty) H):=by intro pins s σ H x y v u Q I rx ry h;obtain⟨i,j,rfl,rfl,q⟩:=h;obtain⟨t,rfl⟩:=rx;obtain⟨t',rfl⟩:=ry;exact in_str<|aK I q rfl
theorem N4:gR X (compareOp .Is) (λx y H Q=>y=.av/\Q (.bl<|decide<|x=.av) H):=by intro pins s σ H x y v u Q I rx ry h;obtain⟨rfl,q⟩:=h;cases ry;refine is_none_gen<|aK I q ?_;cases x<;>first| (cases rx;rfl)| (obtain⟨t,rfl⟩:=rx;rfl)
theorem JV:gR X (compareOp .IsNot) (λx y H Q=>y=.av/\Q (.bl<|!decide (x=.av)) H):=by intro pins s σ H x y v u Q I rx ry h;obtain⟨rfl,q⟩:=h;cases ry;refine isnot_none_gen<|aK I q ?_;cases x<;>first| (cases rx;rfl)| (obtain⟨t,rfl⟩:=rx;rfl)
theorem WY(b:Expr)(h:autoParam (op≠.In) qQZ)(h2:autoParam (op≠.NotIn) qQZ):behindInMarks op b=false:=by
 have e1:(op==CmpOp.In)=false:=by cases op<;>first|rfl|exact absurd rfl h
 have e2:(op==CmpOp.NotIn)=false:=by cases op<;>first|rfl|exact absurd rfl h2
 cases b<;>simp[behindInMarks,e1,e2]
theorem CU{op:CmpOp}{r:R2}(ho:gR X (compareOp op) r)(ha:PE X a ta)(hb:PE X b tb)(hm:behindInMarks op b=false):PE X (.Compare a [op] [b] pos) (QT r ta tb):=by intro pins s σ H Q I h;exact wpAny_Compare1 (NX ha hb I h λv u s2 x y H2 I2 rx ry q=>ho pins s2 σ H2 x y v u Q I2 rx ry q) hm
def Gg(t:TE):TT:=λσ H Q=>t σ H λx H'=>∃k,x=.bl k/\Q k H'
theorem JW{op:CmpOp}{r:R2}(ho:gR X (compareOp op) r)(ha:PE X a ta)(hb:PE X b tb)(hm:behindInMarks op b=false):PT X (.Compare a [op] [b] pos) (Gg<|QT r ta tb):=by intro pins s σ H Q I h;refine wpAny_isTrue_Compare1 (bu (ha pins s σ H _ I h) λv s1 ⟨x,H1,I1,r1,q1⟩=>bu (hb pins s1 σ H1 _ I1 q1) λu s2 ⟨y,H2,I2,r2,q2⟩=>bu (ho pins s2 σ H2 x y v u _ I2 r1 r2 q2) λc s3 ⟨z,H3,I3,r3,k,e,q3⟩=>?_) hm;subst e;cases r3;exact yw ⟨H3,I3,q3⟩
def AN(r r':R2)(ta tb tc:TE):TE:=λσ H Q=>ta σ H λx H1=>tb σ H1 λy H2=>r x y H2 λz H3=>∃k,z=.bl k/\(if k=true then tc σ H3 λw' H4=>r' y w' H4 Q else Q (.bl false) H3)
theorem Gi{op Ee:CmpOp}{r r':R2}(ho:gR X (compareOp op) r)(AI:gR X (compareOp Ee) r')(ha:PE X a ta)(hb:PE X b tb)(hc:PE X c tc) (hm:autoParam (lastMarks [op,Ee] [b,c]=false) qQ2):PE X (.Compare a [op,Ee] [b,c] pos) (AN r r' ta tb tc):=by intro pins s σ H Q I h;refine Compare_chain (bu (ha pins s σ H _ I h) λv s1 ⟨x,H1,I1,r1,q1⟩=>chain_link<|bu (hb pins s1 σ H1 _ I1 q1) λu s2 ⟨y,H2,I2,r2,q2⟩=>bu (ho pins s2 σ H2 x y v u _ I2 r1 r2 q2) λd s3 ⟨z,H3,I3,r3,k,e,q3⟩=>?_) hm;subst e;cases r3;refine yw ?_;cases k with|false=>exact ite_ff {.bl false,H3,I3,rfl,q3}|true=>exact ite_tt<|chain_last<|bu (hc pins s3 σ H3 _ I3 q3) λw' s4 ⟨z',H4,I4,r4,q4⟩=>AI pins s4 σ H4 y z' u w' Q I4 r2 r4 q4
theorem Gj{op Ee:CmpOp}{r r':R2}(ho:gR X (compareOp op) r)(AI:gR X (compareOp Ee) r')(ha:PE X a ta)(hb:PE X b tb)(hc:PE X c tc) (hm:autoParam (lastMarks [op,Ee] [b,c]=false) qQ2):PT X (.Compare a [op,Ee] [b,c] pos) (Gg<|AN r r' ta tb tc):=by intro pins s σ H Q I h;refine isTrue_chain (bu (ha pins s σ H _ I h) λv s1 ⟨x,H1,I1,r1,q1⟩=>test_link<|bu (hb pins s1 σ H1 _ I1 q1) λu s2 ⟨y,H2,I2,r2,q2⟩=>bu (ho pins s2 σ H2 x y v u _ I2 r1 r2 q2) λd s3 ⟨z,H3,I3,r3,k,e,q3⟩=>?_) hm;subst e;cases r3;refine yw ?_;cases k with|false=>(obtain⟨k',e',q'⟩:=q3;cases e';exact ite_ff ⟨H3,I3,q'⟩)|true=>refine ite_tt<|test_last<|bu (hc pins s3 σ H3 _ I3 q3) λw' s4 ⟨z',H4,I4,r4,q4⟩=>bu (AI pins s4 σ H4 y z' u w' _ I4 r2 r4 q4) λd' s5 ⟨z2,H5,I5,r5,k2,e2,q5⟩=>?_;subst e2;cases r5;exact yw ⟨H5,I5,q5⟩
theorem qv:(sizeLine:Nat)<2^63:=by rw[zZ];decide
theorem qw:gR X (binaryOp .Add) (λx y H Q=>∃i j,x=.str i/\y=.str j/\i.length+j.length<=sizeLine/\Q (.str<|i++j) H):=by intro pins s σ H x y v u Q I rx ry h;obtain⟨i,j,rfl,rfl,hz,q⟩:=h;obtain⟨t,rfl⟩:=rx;obtain⟨t',rfl⟩:=ry;exact add_str (λt' tk=>{.str<|i++j,H,I.tok _,{_,rfl},q}) hz
theorem vals1(r:Vals [x] us):∃u,us=[u]/\RelV x u:=by cases r with|cons r1 r2=>cases r2;exact{_,rfl,r1}
theorem vals2(r:Vals [x,y] us):∃u w',us=[u,w']/\RelV x u/\RelV y w':=by cases r with|cons r1 r2=>cases r2 with|cons r3 r4=>cases r4;exact{_,_,rfl,r1,r3}
theorem Ef(hc:X.calm=true):dw X (.builtin "max") (λxs H Q=>∃i j,xs=[.int i,.int j]/\Q (.int<|if j>i then j else i) H):=by intro pins s σ H xs us Q I r h;obtain⟨i,j,rfl,q⟩:=h;obtain⟨u,w',rfl,⟨t,rfl⟩,⟨t',rfl⟩⟩:=vals2 r;refine max_two_ints (I.ok.hd hc) λh' tk k=>{_,H,I.kept k,?_,q};by_cases hj:j>i;rw[if_pos hj,if_pos hj];exact{_,rfl};rw[if_neg hj,if_neg hj];exact{_,rfl}
theorem Eg(hc:X.calm=true):dw X (.builtin "min") (λxs H Q=>∃i j,xs=[.int i,.int j]/\Q (.int<|if j<i then j else i) H):=by intro pins s σ H xs us Q I r h;obtain⟨i,j,rfl,q⟩:=h;obtain⟨u,w',rfl,⟨t,rfl⟩,⟨t',rfl⟩⟩:=vals2 r;refine min_two_ints (I.ok.hd hc) λh' tk k=>{_,H,I.kept k,?_,q};by_cases hj:j<i;rw[if_pos hj,if_pos hj];exact{_,rfl};rw[if_neg hj,if_neg hj];exact{_,rfl}
theorem tX:dw X (.type "int") (λxs H Q=>(∃i,xs=[.int i]/\Q (.int i) H)\/∃k,xs=[.bl k]/\Q (.int<|if k then 1 else 0) H):=by intro pins s σ H xs us Q I r h;rcases h with⟨i,rfl,q⟩|⟨k,rfl,q⟩;obtain⟨u,rfl,t,rfl⟩:=vals1 r;exact call_int_int {.int i,H,I,{_,rfl},q};obtain⟨u,rfl,r1⟩:=vals1 r;cases r1;exact call_int_bool {.int<|if k then 1 else 0,H,I.tok _,{_,rfl},q}
def WZ(K:Frag)(x:V)(H:Hp)(n:Nat):Prop:=match x with|.str y=>y.length<=sizeLine/\n=y.length|.CI y=>y.size<=sizeLine/\n=y.size|.ref p=>(∃xs,ji K H p xs/\n=xs.length)\/∃xs,gp K H p xs/\n=xs.length|_=>False
theorem jk:dw X (.builtin "len") (λxs H Q=>∃x n,xs=[x]/\WZ X.K x H n/\Q (.int n) H):=by intro pins s σ H xs us Q I r h;obtain⟨x,n,rfl,e,q⟩:=h;obtain⟨u,rfl,rx⟩:=vals1 r;have hl:=qv;have hs:sizeLine=16777216:=zZ;cases x with|str y=>(obtain⟨t,rfl⟩:=rx;obtain⟨hy,e'⟩:y.length<=sizeLine/\n=y.length:=e;subst e';exact len_str (by lia) {.int _,H,I.tok _,{_,rfl},q})|CI y=>(obtain⟨t,rfl⟩:=rx;obtain⟨hy,e'⟩:y.size<=sizeLine/\n=y.size:=e;subst e';exact PySem.W.len_bytes (by lia) {.int _,H,I.tok _,{_,rfl},q})|ref p=>(cases rx;have e':(∃xs,ji X.K H p xs/\n=xs.length)\/∃xs,gp X.K H p xs/\n=xs.length:=e;rcases e' with⟨xs,hx,e'⟩|⟨xs,hx,e'⟩;subst e';obtain⟨au,r',pl,hz⟩:=I.list hx;have hlen:=r'.length;exact Calls.call_len_list pl.isList (by simp only[zk];lia) {.int xs.length,H,I.tok _,{_,by simp only[zk];rw[hlen]},q};subst e';obtain⟨au,r',pl,hz⟩:=I.tuple hx;have hlen:=r'.length;exact len_tuple pl (by simp only[zk];lia) {.int xs.length,H,I.tok _,{_,by simp only[zk];rw[hlen]},q})|_=>exact(show False from e).elim
end
structure AO(h:Heap)(x dx C:Addr)(mA:Str->Option Value):Prop where
 obj:h.get? x=some (instObj C dx)
 ns:h.Ns1 dx mA
 ne:dx≠x
theorem Eh{h:Heap}{dx:Addr}{mA:Str->Option Value}(n:h.Ns1 dx mA):∃od,h.get? dx=some od/\∀name,lookIn name od=some (mA name):=by
 obtain⟨o,es,ep,ho,hd,hk,_,hm⟩:=n;refine{o,ho,λname=>?_};have e:=hm name;unfold nsFind findBy at e;rw[<-Array.find?_toList]at e;unfold lookIn;rw[hd];dsimp only;split;rename_i y q;rw[q]at e;exact congrArg some e;rename_i q;rw[q]at e;have a:es.toList.any (·.refKey)=false:=by rw[List.any_eq_false];intro y hy;obtain⟨z,t,N5⟩:=hk y<|Array.mem_toList_iff.mp hy;simp[DictEntry.refKey,N5]
 have a':¬es.toList.any (·.refKey)=true:=by rw[a];exact zd
 rw[if_neg a'];exact congrArg some e
theorem AO.look(I:AO h x dx C mA):∃od,PySem.W.InstAt h x (instObj C dx) C (some od)/\∀name,lookIn name od=some (mA name):=
 let ⟨od,ho,hl⟩:=Eh I.ns
 ⟨od,⟨I.obj,rfl,rfl,ho⟩,hl⟩
section
variable{prog:Program}{w:World}{A:Around}{E:Value->Shared->Prop}{s:Shared}{K:Frag}{x dx C f:Addr}{mA:Str->Option Value}{name:Str}{v:Value}
theorem get_map(X:K.In s.heap)(I:AO s.heap x dx C mA)(hg:plainGet K C name=true)(hh:hasDictIn K C=true) (ha:findIn K (.ref C) name=some none) (hv:mA name=some v) (VR:handedIn v=true) (h:Q v {s with toks:=s.toks+1}): wpAny (model prog w) A (getAttr (.ref x) name expr) Q E s:=by obtain⟨od,J,hl⟩:=I.look;exact PySem.W.get_value X J (plainGet_of hg).1 (PySem.W.findObj_own hh ha rfl<|by rw[hl,hv]) VR h
theorem Gk(X:K.In s.heap)(I:AO s.heap x dx C mA)(hg:plainGet K C name=true) (hf:findIn K (.ref C) name=some (some<|.ref f)) (ht:isFn K (.ref f)=true) (hv:mA name=none) (h:Q (.ref f,[.ref x]) s): wpAny (model prog w) A (getMethod (.ref x) name pl) Q E s:=by obtain⟨od,J,hl⟩:=I.look;exact PySem.W.method_fn X J (plainGet_of hg).1 (plainGet_of hg).2 hf (beq_iff_eq.mp ht) (by show(lookIn name od).map (·.isSome)=some false;rw[hl,hv];rfl) h
theorem JX(X:K.In s.heap)(I:AO s.heap x dx C mA) (hs:findIn K (.ref C) "__setattr__"= some (some<|.builtin "object.__setattr__")) (hp:plainOver K C=true) (ht:takerIn K C name=some none) (hh:hasDictIn K C=true) (hw:PySem.Within mA ns) (hsz:ns.length<=sizeLine) (h:∀h',AO h' x dx C (λy=>if y=name then some v else mA y)->Heap.SameBut dx s.heap h'->Q () {s with heap:=h',toks:=s.toks+2}): wpAny (model prog w) A (setAttr (.ref x) name v) Q E s:=by obtain⟨od,J,hl⟩:=I.look;refine PySem.W.set_plain X J hs<|PySem.W.osa_open (s:={s with toks:=s.toks+1}) (r:=none) X J hp ht λb=>?_;obtain⟨cd,hc,tU⟩:=PySem.W.any_some hh;have hx:s.heap.get? x=some {.ref C,some dx,.plain,#[]}:=I.obj;refine za<|zf<|za<|za<|wpAny_loadPart hx<|za<|PySem.W.Looks.here (s:={s with toks:=s.toks+1}) (PySem.W.looks_clsIn X hc) ?_;rw[tU];refine zf (a:=some dx)<|za<|zf<|za ?_;refine wpAny_nsSet1 (s:={s with toks:=s.toks+1}) I.ns λh' Mq uQ=>?_;obtain⟨oD,esD,epD,hoD,hdD,hcD⟩:=Mq.count<|PySem.Within.cons name v hw;refine za<|wpAny_lookBehind hoD (by rw[hdD];exact pastItsLine_dict<|zK hcD<|by rw[zD];lia) ?_;exact zf<|h _ {(uQ.2 _<|Ne.symm I.ne).trans I.obj,Mq,I.ne} uQ
theorem Gm(X:K.In s.heap)(hm:makesIn K C=true) (hi:findIn K (.ref C) "__init__"= some (some<|.ref f)) (hf:PySem.W.typeIn K (.ref f)=some (.type "function")) (h:codeAny (model prog w) (A.under<|.builtin "type.__call__" {.ref C::vs,kw}) (.call (.ref f) {.ref (s.heap.objs.size+1)::vs,kw}) (PySem.W.InitBack (s.heap.objs.size+1) R) {s with heap:=(s.heap.push emptyDict).push<|instObj C s.heap.objs.size}): codeAny (model prog w) A (.call (.ref C) ⟨vs,kw⟩) R s:=by obtain⟨hh,g,d,t,os⟩:=s;exact PySem.W.make_core (PySem.W.makes_of X hm) (looks_findIn X hi) (λself=>PySem.W.bind_fn X self hf) (.inl rfl) h
end
noncomputable def putF(f:Str)(v:V):List (Str×V)->List (Str×V)|[]=>[(f,v)]| (g,x)::r=>if g=f then (g,v)::r else (g,x)::putF f v r
theorem oB(f g:Str)(v:V):∀fs:List (Str×V),(putF f v fs).lookup g=if g=f then some v else fs.lookup g|[]=>by show List.lookup g [(f,v)]=_;by_cases h:g=f;have hb:(g==f)=true:=beq_iff_eq.mpr h;simp only[List.lookup,hb,if_pos h];have hb:(g==f)=false:=beq_eq_false_iff_ne.mpr h;simp only[List.lookup,hb,if_neg h]| (k,x)::r=>by have ih:=oB f g v r;rw[show putF f v ((k,x)::r)=(if k=f then (k,v)::r else (k,x)::putF f v r) from rfl];by_cases hk:k=f;rw[if_pos hk];by_cases h:g=k;have hb:(g==k)=true:=beq_iff_eq.mpr h;simp only[List.lookup,hb,if_pos<|h.trans hk];have hb:(g==k)=false:=beq_eq_false_iff_ne.mpr h;simp only[List.lookup,hb,if_neg (λe:g=f=>h<|e.trans hk.symm)];rw[if_neg hk];by_cases h:g=k;have hb:(g==k)=true:=beq_iff_eq.mpr h;simp only[List.lookup,hb,if_neg (λe:g=f=>hk<|h.symm.trans e)];have hb:(g==k)=false:=beq_eq_false_iff_ne.mpr h;simp only[List.lookup,hb];exact ih
theorem nv(f:Str)(v:V):∀fs:List (Str×V),f∈(putF f v fs).map (·.1)/\∀g,g∈fs.map (·.1)->g∈(putF f v fs).map (·.1)|[]=>{by simp[putF],λg h=>by simp at h}| (k,x)::r=>by obtain⟨i1,i2⟩:=nv f v r;rw[show putF f v ((k,x)::r)=(if k=f then (k,v)::r else (k,x)::putF f v r) from rfl];by_cases hk:k=f;rw[if_pos hk];subst hk;exact{by simp,λg h=>by simpa using h};rw[if_neg hk];refine{?_,λg h=>?_};rw[zQ];exact zj _ i1;rw[zQ]at h⊢;rcases zg.mp h with e|e;exact zg.mpr<|.inl e;exact zj _<|i2 g e
theorem oE(f:Str)(v:V):∀fs:List (Str×V),(putF f v fs).length<=fs.length+1|[]=>by simp[putF]| (k,x)::r=>by have ih:=oE f v r;rw[show putF f v ((k,x)::r)=(if k=f then (k,v)::r else (k,x)::putF f v r) from rfl];by_cases hk:k=f;rw[if_pos hk,zD,zD];lia;rw[if_neg hk,zD,zD];lia
theorem gf.some_of(r:gf (some v) o):∃u,o=some u/\RelV v u:=by cases o with|none=>exact(show False from r).elim|some u=>exact⟨u,rfl,r⟩
theorem gf.none_of(r:gf none o):o=none:=by cases o with|none=>rfl|some u=>exact(show False from r).elim
theorem Ei(r:RelV v u):handedIn u=true:=by cases v with|av=>(cases (show u=Value.none from r);rfl)|bl b=>(cases (show u=Value.bool b from r);rfl)|int i=>(obtain⟨t,e⟩:=(show ∃t,u=Value.int i t from r);cases e;rfl)|str x=>(obtain⟨t,e⟩:=(show ∃t,u=Value.str x t from r);cases e;rfl)|CI b=>(obtain⟨t,e⟩:=(show ∃t,u=Value.bytes b t from r);cases e;rfl)|Nx b=>(obtain⟨t,e⟩:=(show ∃t,u=Value.float b t from r);cases e;rfl)|ref a=>(cases (show u=Value.ref a from r);rfl)|ty n=>cases (show u=Value.type n from r);rfl
section
variable{P:Program}{w:World}{H:Hp}{h:Heap}{a C dx:Addr}{fs:List (Str×V)}
theorem pY(aH:kB P w H h)(e:H a=some (.ins C dx fs)):∃mA,AO h a dx C mA/\(∀f,gf (fs.lookup f)<|mA f)/\PySem.Within mA (fs.map (·.1))/\fs.length<=1000/\H dx=some (.own a):=by obtain⟨d,z,ne,ob,mA,n,r,q⟩:=(show aU P w H h a (.ins C dx fs) from aH a _ e);exact{mA,⟨ob,n,ne⟩,r,q,z,d}
end
structure qx(K:Frag)(C:Addr):Prop where
 pg:plainGet K C Str.empty=true
 hd:hasDictIn K C=true
 po:plainOver K C=true
 sa:findIn K (.ref C) "__setattr__"= some (some<|.builtin "object.__setattr__")
theorem qx.get{K:Frag}{C:Addr}(c:qx K C)(f:Str):plainGet K C f=true:=c.pg
def jl(K:Frag)(C:Addr)(f:Str):Prop:=findIn K (.ref C) f=some none
theorem jl.R6{K:Frag}{C:Addr}{f:Str}(n:jl K C f):takerIn K C f=some none:=by unfold takerIn;rw[show findIn K (.ref C) f=some none from n];rfl
structure Con(K:Frag)(C:Addr)(f:Str)(v:V)(u:Value):Prop where
 at_:findIn K (.ref C) f=some (some u)
 rel:RelV v u
 get:specialIn K u "__get__"= some none
 cp:PySem.W.copiedNames.contains f=false
structure Meth(K:Frag)(C:Addr)(m:Str)(f:Addr):Prop where
 at_:findIn K (.ref C) m=some (some<|.ref f)
 fn:isFn K (.ref f)=true
 kp:keepIn K (.ref f)=true
section
variable{X:Cx}{pins:List (Addr×Obj)}{σ:St}{H:Hp}{s:Shared}{a C dx:Addr}{fs:List (Str×V)}{f:Str}{v:V}{A:Around}{E:Value->Shared->Prop}
theorem AQ(I:Inv X pins σ H s)(e:H a=some (.ins C dx fs))(c:qx X.K C)(n:jl X.K C f)(l:fs.lookup f=some v) (h:∀u s',Inv X pins σ H s'->RelV v u->Q u s'):wpAny (model X.prog X.w) A (getAttr (.ref a) f b) Q E s:=by obtain⟨mA,O,r,_,_,_⟩:=pY I.aH e;obtain⟨u,hu,ru⟩:=gf.some_of (v:=v) (o:=mA f) (by rw[<-l];exact r f);exact get_map I.kC O (c.get f) c.hd n hu (Ei ru)<|h u _ (I.tok _) ru
theorem qy(I:Inv X pins σ H s)(e:H a=some (.ins C dx fs))(c:qx X.K C)(k:Meth X.K C m g)(l:fs.lookup m=none) (h:Q (.ref g,[.ref a]) s):wpAny (model X.prog X.w) A (getMethod (.ref a) m pl) Q E s:=by obtain⟨mA,O,r,_,_,_⟩:=pY I.aH e;have hn:mA m=none:=gf.none_of (by rw[<-l];exact r m);exact Gk I.kC O (c.get m) k.at_ k.fn hn h
theorem AR(I:Inv X pins σ H s)(e:H a=some (.ins C dx fs))(c:qx X.K C)(n:jl X.K C f)(hl:fs.length<1000)(ry:RelV y u) (h:∀s',Inv X pins σ (upd H a<|.ins C dx<|putF f y fs) s'->Q () s'):wpAny (model X.prog X.w) A (setAttr (.ref a) f u) Q E s:=by
 obtain⟨mA,O,r,wi,_,ho⟩:=pY I.aH e;have hz:(fs.map (·.1)).length<=sizeLine:=by rw[zc,zZ];lia
 refine JX I.kC O c.sa c.po n.R6 c.hd wi hz λh' O' sb=>h _ ?_;have hd:∃o,h'.get? dx=some o:=by obtain⟨o,_,_,e',_⟩:=O'.ns;exact⟨o,e'⟩
 refine I.write (x:=a) (e:=dx) (by rw[e];exact True.intro) (.inr ho) (λb q hb z=>(sb.2 b hb).trans z) hd ?_;refine{by rw[ao O.ne];exact ho,?_,O.ne,O'.obj,_,O'.ns,λg=>?_,λg hg=>?_};have:=oE f y fs;lia;show gf ((putF f y fs).lookup g) (if g=f then some u else mA g);rw[oB];by_cases q:g=f;rw[if_pos q,if_pos q];exact ry;rw[if_neg q,if_neg q];exact r g;by_cases q:g=f;rw[q];exact(nv f y fs).1;refine(nv f y fs).2 g<|wi g λz=>hg ?_;show(if g=f then some u else mA g)=none;rw[if_neg q];exact z
theorem Inv.made(I:Inv X pins σ H s):Inv X pins σ (upd (upd H s.heap.objs.size<|.own<|s.heap.objs.size+1) (s.heap.objs.size+1)<|.ins C s.heap.objs.size []) {s with heap:=(s.heap.push emptyDict).push<|instObj C s.heap.objs.size}:=by
 have e1:(s.heap.push emptyDict).get? s.heap.objs.size=some emptyDict:=zi s.heap rfl;have e2:((s.heap.push emptyDict).push<|instObj C s.heap.objs.size).get? (s.heap.objs.size+1)=some (instObj C s.heap.objs.size):=by have:=zi (s.heap.push emptyDict) (o:=instObj C s.heap.objs.size) rfl;rwa [yd]at this
 have e3:(s.heap.push emptyDict).Ns s.heap.objs.size (λ_=>none):={emptyDict,#[],_,e1,rfl,(λe he=>absurd he<|by simp),λ_=>rfl};have I1:=I.laid (a:=s.heap.objs.size) (o:=.own<|s.heap.objs.size+1) (h':=s.heap.push emptyDict) (t':=s.toks) (λb u q=>zb _ q) (zl _) {_,e1};refine I1.laid (a:=s.heap.objs.size+1) (o:=.ins C s.heap.objs.size []) (t':=s.toks) (λb u q=>zb _ q) (Nat.le_of_eq<|yd _ _) ?_;have ne:s.heap.objs.size≠s.heap.objs.size+1:=zx<|Nat.lt_succ_self _;refine{by rw[ao ne,aD],yh _,ne,e2,λ_=>none,(Heap.Ns1.of_empty e3).at λo q=>zb _ q,λ_=>True.intro,λy hy=>absurd rfl hy}
theorem JY(hb:attributeBase e f env (eval e env)=eval e env) (h:wpAny (model prog w) A (eval e env) (λo aT=>wpAny (model prog w) A (getAttr o f true) Q E aT) E s):wpAny (model prog w) A (eval (.Attribute e f pos) env) Q E s:=Attribute_any_ h<|by rw[arm_eval_Attribute,hb]
end
def W0(K:Frag)(ta:TE)(f:Str):TE:=λσ H Q=>ta σ H λx H1=>∃a C dx fs v,x=.ref a/\H1 a=some (.ins C dx fs)/\qx K C/\jl K C f/\fs.lookup f=some v/\Q v H1
def W2(K:Frag)(ta tv:TE)(f:Str):TS:=λD σ H=>tv σ H λy H1=>ta σ H1 λx H2=>∃a C dx fs,x=.ref a/\H2 a=some (.ins C dx fs)/\qx K C/\jl K C f/\fs.length<1000/\D.nx σ (upd H2 a<|.ins C dx<|putF f y fs)
section
variable{X:Cx}{o e value:Expr}{f:Str}{pos pos':Pos}{ta tv:TE}
theorem N6(he:PE X e ta)(hb:attributeBase e f X.env (eval e X.env)=eval e X.env):PE X (.Attribute e f pos) (W0 X.K ta f):=by intro pins s σ H Q I h;refine JY hb<|bu (he pins s σ H _ I h) λu s1 ⟨x,H1,I1,rx,a,C,dx,fs,v,ex,ea,c,n,l,q⟩=>?_;subst ex;obtain rfl:u=Value.ref a:=rx;exact AQ I1 ea c n l λu' s2 I2 ru=>⟨v,H1,I2,ru,q⟩
theorem N7(ha:PE X o ta)(hv:PE X value tv)(hs:swapsWith value (some<|.Attribute o f pos') pos.line X.env=pure false):PS X (.Assign [.Attribute o f pos'] value pos) (W2 X.K ta tv f):=by intro pins s σ H D I h;refine plainObj_wpAny_Assign_Attribute (bu (hv pins s σ H _ I h) λu s1 ⟨y,H1,I1,ry,q⟩=>bu (ha pins s1 σ H1 _ I1 q) λov s2 ⟨x,H2,I2,rx,a,C,dx,fs,ex,ea,c,n,l,q2⟩=>?_) hs;subst ex;obtain rfl:ov=Value.ref a:=rx;exact AR I2 ea c n l ry λs3 I3=>{σ,_,I3,q2}
end
section
variable{X:Cx}{pins:List (Addr×Obj)}{σ:St}{H:Hp}{s:Shared}{A:Around}{E Q:Value->Shared->Prop}{c:Value}{b:Bool}
inductive ny (K:Frag) (H:Hp):V->Value->Prop where
 |av:ny K H .av (.type "NoneType")
 |bl (x:Bool):ny K H (.bl x) (.type "bool")
 |int (i:Int):ny K H (.int i) (.type "int")
 |str (x:Str):ny K H (.str x) (.type "str")
 |Nx (x:UInt64):ny K H (.Nx x) (.type "float")
 |lst {a:Addr}{xs:List V} (e:H a=some (.lst xs)):ny K H (.ref a) (.type "list")
 |lj {a:Addr}{o:Obj}{xs:List V} (e:H a=some (.lj o<|.lst xs)):ny K H (.ref a) (.type "list")
 |tup {a:Addr}{xs:List V} (e:H a=some (.tup xs)):ny K H (.ref a) (.type "tuple")
 |dK {a:Addr}{kvs:List<|Key×V} (e:H a=some (.dK kvs)):ny K H (.ref a) (.type "dict")
 |dT {a:Addr}{kvs:List<|List Key×V} (e:H a=some (.dT kvs)):ny K H (.ref a) (.type "dict")
 |ins {a C dx:Addr}{fs:List<|Str×V} (e:H a=some (.ins C dx fs)) (cl:qx K C) (ha:findIn K (.ref C) "__class__"= some (some<|.builtin "object.__class__"))
   (hn:specialIn K (.builtin "object.__class__") "__get__"= some (some<|.builtin "getset_descriptor.__get__")) (htk:PySem.W.takesIn K (.builtin "object.__class__")=some true)
   (hm:mroIn K C (.type "object")=some true):ny K H (.ref a) (.ref C)
theorem Ej{u t:Value}(I:Inv X pins σ H s)(rx:RelV x u)(ty:ny X.K H x t)(e:kitOne X.K t c=some b)(h:∀tk,Q (.bool b) {s with toks:=tk}): wpAny (model X.prog X.w) A (call (.builtin "isinstance") [u,c]) Q E s:=by cases ty with|av=>(cases (show u=Value.none from rx);exact kia_one PySem.W.kitx_none I.kC True.intro e (λz=>nomatch z) h)|bl y=>(cases (show u=Value.bool y from rx);exact kia_one PySem.W.kitx_bool I.kC True.intro e (λz=>nomatch z) h)|int i=>(obtain⟨t,q⟩:=(show ∃t,u=Value.int i t from rx);cases q;exact kia_one PySem.W.kitx_int I.kC True.intro e (λz=>nomatch z) h)|str y=>(obtain⟨t,q⟩:=(show ∃t,u=Value.str y t from rx);cases q;exact kia_one PySem.W.kitx_str I.kC True.intro e (λz=>nomatch z) h)|Nx y=>(obtain⟨t,q⟩:=(show ∃t,u=Value.float y t from rx);cases q;exact kia_one PySem.W.kitx_float I.kC True.intro e (λz=>nomatch z) h)|@lst a xs ea=>(cases (show u=Value.ref a from rx);obtain⟨_,_,n,_,h1⟩:=(show aU X.prog X.w H s.heap a (.lst xs) from I.aH a _ ea);exact kia_one kitx_list I.kC {_,h1,rfl} e (λz=>nomatch z) h)|@lj a ob xs ea=>(cases (show u=Value.ref a from rx);obtain⟨_,_,_,n,_,h1⟩:=(show aU X.prog X.w H s.heap a (.lj ob<|.lst xs) from I.aH a _ ea);exact kia_one kitx_list I.kC {_,h1,rfl} e (λz=>nomatch z) h)|@tup a xs ea=>(cases (show u=Value.ref a from rx);obtain⟨_,_,_,p⟩:=(show aU X.prog X.w H s.heap a (.tup xs) from I.aH a _ ea);obtain⟨o,h1,h2,_⟩:=p;exact kia_one PySem.W.kitx_tuple I.kC ⟨o,h1,h2⟩ e (λz=>nomatch z) h)|@dK a kvs ea=>(cases (show u=Value.ref a from rx);obtain⟨_,_,vs,_,p⟩:=(show aU X.prog X.w H s.heap a (.dK kvs) from I.aH a _ ea);obtain⟨o,es,ep,h1,h2,_⟩:=p;exact kia_one PySem.W.kitx_dict I.kC ⟨o,h1,h2.1⟩ e (λz=>nomatch z) h)|@dT a kvs ea=>exact False.elim (show aU X.prog X.w H s.heap a (.dT kvs) from I.aH a _ ea)|@ins a C dx fs ea cl ha hn htk hm=>cases (show u=Value.ref a from rx);obtain⟨mA,O,_⟩:=pY I.aH ea;obtain⟨od,J,_⟩:=O.look;exact kia_one (PySem.W.kitx_own (cl.get _) cl.hd ha hn htk hm) I.kC J e (λz=>nomatch z) h
end
structure bB(k:Nat)(A:Around):Prop where
 hd:A.handled=none
 dp:A.depth+3*k+5<recursionLimit
 un:A.units+16*k+200<cLine
theorem bB.mono(r:bB k A)(h:j<=k):bB j A:={r.hd,by have:=r.dp;lia,by have:=r.un;lia}
theorem bB.deeper(r:bB (k+1) A)(env:Env):bB k (A.deeper env):={r.hd,by have:=r.dp;show A.depth+1+3*k+5<_;lia,by have:=r.un;show A.units+3+16*k+200<_;lia}
theorem bB.in1(r:bB (k+1) A):bB k A.in1:={r.hd,by have:=r.dp;show A.depth+3*k+5<_;lia,by have:=r.un;show A.units+1+16*k+200<_;lia}
theorem AS{A:Around}{C:Addr}{us:List Value}{kw:List<|Str×Value} : (A.under<|.builtin "type.__call__" {.ref C::us,kw}).depth=A.depth+1:=by first|rfl|simp[Around.under,Code.weight,Code.isCreation,Code.isGuard,Code.isCaller,Code.frames,Code.isFrame,guardIds]
theorem AU{A:Around}{C:Addr}{us:List Value}{kw:List<|Str×Value} : (A.under<|.builtin "type.__call__" {.ref C::us,kw}).units=A.units+1:=by first|rfl|simp[Around.under,Code.cUnits,Code.frames,Code.isFrame]
theorem bB.make(r:bB (k+1) A)(C:Addr)(us:List Value)(kw:List<|Str×Value):bB k (A.under<|.builtin "type.__call__" {.ref C::us,kw}):={r.hd,by have:=r.dp;rw[AS];lia,by have:=r.un;rw[AU];lia}
theorem bB.depth(r:bB k A):A.depth<recursionLimit:=by have:=r.dp;lia
theorem bB.units(r:bB k A):A.units+64<cLine:=by have:=r.un;lia
def W4:TA:=λ_ H Q=>Q [] H
def Mr(ta:TE)(tr:TA):TA:=λσ H Q=>ta σ H λx H1=>tr σ H1 λxs H2=>Q (x::xs) H2
section
variable{X:Cx}{e:Expr}{es:List Expr}{te:TE}{t:TA}{pos:Pos}
theorem AV:PA X [] W4:=λ_ _ _ _ H Q I h=>Calls.spliced_nil {[],H,I,.nil,h}
theorem JZ(ha:PE X e te)(hr:PA X es t)(hs:autoParam (starEach (e::es) X.env=(false,eval e X.env)::starEach es X.env) qQJ):PA X (e::es) (Mr te t):=by intro pos pins s σ H Q I h;rw[hs];show wpAny _ _ (spliced<|(false,eval e X.env)::backTo pos (starEach es X.env)) _ _ s;refine yE<|bu (ha pins s σ H _ I h) λu s1 ⟨x,H1,I1,r1,q1⟩=>?_;exact bu (hr pos pins s1 σ H1 _ I1 q1) <| by rintro us s2 ⟨xs,H2,I2,r2,q2⟩;exact{x::xs,H2,I2,.cons r1 r2,q2}
def W5(t:TA):TE:=λσ H Q=>t σ H λxs H1=>xs.length<=sizeLine/\∀p,H1 p=none->Q (.ref p) (upd H1 p<|.tup xs)
def W6(t:TA):TE:=λσ H Q=>t σ H λxs H1=>xs.length<=sizeLine/\∀p,H1 p=none->Q (.ref p) (upd H1 p<|.lst xs)
theorem N8{x1}(h:PA X es t):PE X (.Tuple es x1 pos) (W5 t):=by intro pins s σ H Q I hq;refine wpAny_Tuple_spliced<|bu (h pos pins s σ H _ I hq) λus s1 ⟨xs,H1,I1,r,z,q⟩=>{by rw[<-r.length];exact z,?_};have hf:H1 s1.heap.objs.size=none:=I1.aH.fresh<|zl _;refine{.ref s1.heap.objs.size,upd H1 s1.heap.objs.size<|.tup xs,I1.laid (t':=s1.toks) (λb u e=>zb _ e) (zl _) ?_,rfl,q _ hf};exact{z,us,r,{_,zi _ rfl,rfl,rfl,_,rfl}}
theorem N9(h:PA X es t):PE X (.List es pos) (W6 t):=by intro pins s σ H Q I hq;refine wpAny_List_spliced<|bu (h pos pins s σ H _ I hq) λus s1 ⟨xs,H1,I1,r,z,q⟩=>{by rw[<-r.length];exact z,?_};have hf:H1 s1.heap.objs.size=none:=I1.aH.fresh<|zl _;refine{.ref s1.heap.objs.size,upd H1 s1.heap.objs.size<|.lst xs,I1.laid (t':=s1.toks) (λb u e=>zb _ e) (zl _) ?_,rfl,q _ hf};exact{z,us,0,r,zi _ rfl}
end
abbrev Sp:=List V->Hp->VK->XK->Prop
abbrev AW:=List Env->Hp->Shared->XK->Value->Shared->Prop
structure uR(P:Program)(w:World)(K:Frag)(mg:Str->Option Value)(base:Heap)(A:Around)(outer:List Env)(s:Shared)(H:Hp):Prop where
 frames:A.frames=some outer
 mod:Mod K mg base
 bs:∀b o,base.get? b=some o->s.heap.get? b=some o/\H b=none
 AG:base.objs.size<=s.heap.objs.size
 ja:s.heap.FunFrames base outer
 D8:∀b∈lq outer,H b=none
 aH:kB P w H s.heap
 bare:AllBare s.gens
def CE(outer:List Env)(P:Program)(w:World)(H:Hp)(s:Shared)(Q:VK)(u:Value)(s':Shared):Prop:=∃v H',s'.os=s.os/\AllBare s'.gens/\Un (lq outer) [] H H' s.heap s'.heap/\kB P w H' s'.heap/\RelV v u/\Q v H'
def CR(CX:AW)(outer:List Env)(P:Program)(w:World)(H:Hp)(s:Shared)(Q:VK)(E:XK)(r:Result)(s':Shared):Prop:=match r with|.ok (.ret u)=>CE outer P w H s Q u s'|.ok _=>False|.error e=>CX outer H s E e s'
structure bK(P:Program)(w:World)(K:Frag)(mg:Str->Option Value)(base:Heap)(CX:AW)(k:Nat)(f:Addr)(fd:FuncData)(ps:List Str)(sp:Sp):Prop where
 len:∀vs H Q E,sp vs H Q E->vs.length=ps.length
 run:∀(A:Around)(outer:List Env)(s:Shared)(H:Hp)(args:Args)(us:List Value)(vs:List V)(Q:VK)(E:XK),bB k A->uR P w K mg base A outer s H->BindsTo s fd args (ps.zip us)->Vals vs us->sp vs H Q E ->
  codeAny (model P w) A (.call (.ref f) args) (CR CX outer P w H s Q E) s
theorem bK.mono{P:Program}{w:World}{K:Frag}{mg:Str->Option Value}{base:Heap}{CX:AW}{j k:Nat}{f:Addr}{fd:FuncData}{ps:List Str}{sp:Sp}(F:bK P w K mg base CX j f fd ps sp)(h:j<=k): bK P w K mg base CX k f fd ps sp:={F.len,λA outer s H args us vs Q E hr=>F.run A outer s H args us vs Q E<|hr.mono h}
theorem bK.imp{P:Program}{w:World}{K:Frag}{mg:Str->Option Value}{base:Heap}{CX:AW}{k:Nat}{f:Addr}{fd:FuncData}{ps:List Str}{sp VS:Sp}(F:bK P w K mg base CX k f fd ps sp) (h:∀vs H Q E,VS vs H Q E->sp vs H Q E):bK P w K mg base CX k f fd ps VS:={λvs H Q E q=>F.len vs H Q E<|h _ _ _ _ q,λA outer s H args us vs Q E hr he hb hv hs=>F.run A outer s H args us vs Q E hr he hb hv<|h _ _ _ _ hs}
theorem uR.make{P:Program}{w:World}{K:Frag}{mg:Str->Option Value}{base:Heap}{A:Around}{outer:List Env}{s:Shared}{H:Hp}(e:uR P w K mg base A outer s H)(C:Addr)(us:List Value)(kw:List<|Str×Value): uR P w K mg base (A.under<|.builtin "type.__call__" {.ref C::us,kw}) outer s H:={by first|exact e.frames|(simpa [Around.under,Code.envs,Code.isFrame,pushEnvs]using e.frames),e.mod,e.bs,e.AG,e.ja,e.D8,e.aH,e.bare}
section
variable{X:Cx}{pins:List (Addr×Obj)}{σ:St}{H:Hp}{s s':Shared}
theorem Inv.N_(I:Inv X pins σ H s):uR X.prog X.w X.K X.mg X.base X.A X.stack s H:={I.ok.frames,I.ok.mod,I.bs,zK I.ok.AG I.sz,I.stack,I.pV,I.aH,I.bare}
theorem Inv.after(I:Inv X pins σ H s)(h:CE X.stack X.prog X.w H s Q u s'):EP X pins σ Q u s':=by obtain⟨v,H',os,bare,un,aH,r,q⟩:=h;obtain⟨hh,g,d,t,R7⟩:=s';obtain rfl:R7=s.os:=os;exact{v,H',I.call (h':=hh) (g':=g) (d':=d) (t':=t) (ch:=[]) un aH bare λb z=>absurd z<|by simp,r,q}
end
def Binds(K:Frag)(fd:FuncData)(ps:List Str)(ds:List Value):Prop:=∀(s:Shared)(us:List Value),K.In s.heap->(us++ds).length=ps.length->BindsTo s fd {us,[]} (ps.zip<|us++ds)
theorem Binds.all{K:Frag}{fd:FuncData}{ps:List Str}(h:∀us:List Value,us.length=ps.length->bindArgs fd {us,[]}=pure (ps.zip us)):Binds K fd ps []:=λs us _ hl=>by rw[ye]at hl⊢;exact .of_eq<|h us hl
def Passes(CX:AW)(X:Cx)(E:XK):Prop:=∀(pins:List (Addr×Obj))(σ:St)(H:Hp)(s:Shared)(e:Value)(s':Shared),Inv X pins σ H s->CX X.stack H s E e s'->X.xe e s'
section
variable{f C:Addr}
structure Mk(K:Frag)(C f:Addr):Prop where
 makes:makesIn K C=true
 init:findIn K (.ref C) "__init__"= some (some<|.ref f)
 fn:isFn K (.ref f)=true
 kp:keepIn K (.ref C)=true
end
section
variable{fd:FuncData}{ps ks:List Str}
structure W7(K:Frag)(fd:FuncData)(ps ks:List Str)(g:List Value->List Value->List Value)(gV:List V->List V->List V):Prop where
 to:∀(s:Shared)(us ws:List Value),K.In s.heap->(g us ws).length=ps.length->BindsTo s fd {us,ks.zip ws} (ps.zip<|g us ws)
 rel:∀{vs:List V}{us:List Value}{zs:List V}{ws:List Value},Vals vs us->Vals zs ws->Vals (gV vs zs) (g us ws)
variable{g:List Value->List Value->List Value}{gV:List V->List V->List V}
end
structure eR(N P:List Str)(sc:Scope):Prop where
 kind:sc.kind=.function
 co:sc.isCoroutine=false
 gen:sc.isGenerator=false
 nd:N.Nodup
 pre:N.take P.length=P
 par:∀x∈P,sc.names.lookup x=some .local\/sc.names.lookup x=some .cell
 Oa:∀y∈sc.names,y.2≠.free
theorem tY{kindOf:Str->Option NameKind}{x:Str} : ∀{binds:List (Str×Value)}{m:Str->Option Value},(∀v,(x,v)∉binds)->bindL kindOf binds m x=m x
 |[],_,_=>rfl
 | (n,v)::r,m,h=>by
  unfold bindL;rw[tY λw hw=>h w<|zj _ hw];split;have:x≠n:=by rintro rfl;exact h v zy
  simp[this];rfl
theorem tZ{kindOf:Str->Option NameKind}{x:Str} : ∀{binds:List (Str×Value)}{m:Str->Option Value},(∀v,(x,v)∉binds)->bindC kindOf binds m x=m x
 |[],_,_=>rfl
 | (n,v)::r,m,h=>by
  unfold bindC;rw[tZ λw hw=>h w<|zj _ hw];split;rfl;have:x≠n:=by rintro rfl;exact h v zy
  simp[this]
theorem t5{kindOf:Str->Option NameKind}{x:Str}{v:Value} : ∀{P:List Str}{vs:List Value}{i:Nat}{m:Str->Option Value},P.Nodup->P[i]?=some x->vs[i]?=some v->kindOf x=some .local->bindL kindOf (P.zip vs) m x=some v|[],_,_,_,_,h,_,_=>by simp at h|_::_,[],_,_,_,_,h,_=>by simp at h|p::P,w::vs,0,m,nd,h1,h2,hk=>by simp at h1 h2;subst h1;subst h2;show bindL kindOf ((p,w)::P.zip vs) m p=_;unfold bindL;rw[tY λv hv=>(yt.mp nd).1 (List.of_mem_zip hv).1,if_pos hk];simp|p::P,w::vs,i+1,m,nd,h1,h2,hk=>by show bindL kindOf ((p,w)::P.zip vs) m x=_;unfold bindL;exact t5 (i:=i) (yt.mp nd).2 (by simpa using h1) (by simpa using h2) hk
theorem t6{kindOf:Str->Option NameKind}{x:Str}{v:Value} : ∀{P:List Str}{vs:List Value}{i:Nat}{m:Str->Option Value},P.Nodup->P[i]?=some x->vs[i]?=some v->kindOf x≠some .local->bindC kindOf (P.zip vs) m x=some v|[],_,_,_,_,h,_,_=>by simp at h|_::_,[],_,_,_,_,h,_=>by simp at h|p::P,w::vs,0,m,nd,h1,h2,hk=>by simp at h1 h2;subst h1;subst h2;show bindC kindOf ((p,w)::P.zip vs) m p=_;unfold bindC;rw[tZ λv hv=>(yt.mp nd).1 (List.of_mem_zip hv).1,if_neg hk];simp|p::P,w::vs,i+1,m,nd,h1,h2,hk=>by show bindC kindOf ((p,w)::P.zip vs) m x=_;unfold bindC;exact t6 (i:=i) (yt.mp nd).2 (by simpa using h1) (by simpa using h2) hk
noncomputable def start(N:List Str)(vs:List V):St:=vs.map some++List.replicate (N.length-vs.length) none
def iz(CX:AW)(P:Program)(w:World)(K:Frag)(mg:Str->Option Value)(base:Heap)(N:List Str)(qual:Str)(scope:Scope)(f:Addr)(cd:Value)(A:Around)(outer:List Env)(s:Shared)(H:Hp)(E:XK):Cx where
 prog:=P
 w:=w
 K:=K
 mg:=mg
 base:=base
 A:=A.deeper<|envOfC qual scope s.heap.objs.size f cd
 N:=N
 dr:=s
 uO:=H
 env:=envOfC qual scope s.heap.objs.size f cd
 outer:=outer
 stack:=envOfC qual scope s.heap.objs.size f cd::outer
 ex:=[]
 calm:=true
 fn:=λ_=>true
 pn:=[]
 xe:=λe s'=>wpAny (model P w) (A.deeper<|envOfC qual scope s.heap.objs.size f cd) (leaving (envOfC qual scope s.heap.objs.size f cd) e) (λ_ AX=>CX outer H s E e AX) (λe' AX=>CX outer H s E e' AX) s'
theorem w4{sc:Scope}{n:Nat}{x:Str}(h:sc.names.lookup x=some .cell):∃c,(cellsFrom n sc.names []).lookup x=some c:=by have q:=cellsFrom_some sc.names n []<|.inl h;exact Option.isSome_iff_exists.mp q
theorem t9{CX:AW}{P:Program}{w:World}{K:Frag}{mg:Str->Option Value}{base:Heap}{N ps:List Str}{qual:Str}{scope:Scope}{f:Addr}{cd:Value}{A:Around}{outer:List Env}{s s1:Shared}{H:Hp}{E:XK}{us:List Value}{vs:List V} (S:eR N ps scope) (hd:A.handled=none) (e0:uR P w K mg base A outer s H) (hl:vs.length=ps.length) (r:Vals vs us) (x:InCallC s s.heap.objs.size (bindL (envOfC qual scope s.heap.objs.size f cd).kindOf (ps.zip us) λ_=>none) (cellsFrom (s.heap.objs.size+1) scope.names []) (bindC (envOfC qual scope s.heap.objs.size f cd).kindOf (ps.zip us) λ_=>none) s1): Inv (iz CX P w K mg base N qual scope f cd A outer s H E) [] (start N vs) H s1:=by
 have eE:ps.length<=N.length:=by have:=congrArg List.length S.pre;rw[yf]at this;lia
 obtain⟨h1,tk,rfl,hk⟩:=x.done;have J1:∀b:Addr,b∉(iz CX P w K mg base N qual scope f cd A outer s H E).ex:=λb z=>absurd (show b∈([]:List Addr) from z) (by simp);refine{{e0.mod,S.kind,rfl,rfl,zl _,λy z c h1 h2=>?_,λy hy=>?_,λy c _ h=>?_,λ_=>hd,Around.frames_deeper e0.frames,.inr ⟨rfl,rfl⟩,λb z=>absurd z<|J1 b,e0.bs,e0.AG,λb _ _=>J1 b,λb z=>absurd z<|J1 b,e0.ja,e0.D8},rfl,e0.bare,Un.kept hk,{_,x.toInCall.ns,λi y v h1 h2 h3=>?_},λy c h=>{_,x.cell y c h},e0.aH.fresh<|zl _,λy c h=>?_,λp hp=>absurd (show p∈([]:List (Addr×Obj)) from hp)<|by simp,e0.aH.kept hk,?_};exact name_of_addr x.apart (yj h1)<|yj h2;have hy:scope.names.lookup y=some .cell\/scope.names.lookup y=some .free:=hy;rcases hy with hy|hy;exact w4 hy;exact absurd rfl<|S.Oa _<|yj hy;exact yM<|x.above y c<|yj h;have hi:i<vs.length:=by unfold start at h2;by_cases hi:i<vs.length;exact hi;rw[List.getElem?_append_right<|by simpa using hi]at h2;rw[List.getElem?_replicate]at h2;split at h2<;>cases h2
 have ha:vs[i]?=some v:=by unfold start at h2;rw[List.getElem?_append_left<|by simpa using hi,zu]at h2;cases e:vs[i]? with|none=>(rw[e]at h2;cases h2)|some a=>rw[e]at h2;cases h2;rfl
 obtain⟨u,hu,rv⟩:=r.get ha;have hp:ps[i]?=some y:=by rw[<-S.pre,List.getElem?_take_of_lt<|by lia];exact h1
 have ndP:ps.Nodup:=by rw[<-S.pre];exact S.nd.sublist<|List.take_sublist _ _
 refine{u,rv,?_};rcases S.par y (zI hp) with k|k;exact .inl {k,t5 ndP hp hu k};obtain⟨c,e⟩:=w4 (n:=s.heap.objs.size+1) k;refine .inr {.inl k,c,e,?_};have q:=x.cell y c e;rw[t6 ndP hp hu<|by show scope.names.lookup y≠_;rw[k];decide]at q;exact q;exact e0.aH.fresh<|yM<|x.above y c<|yj h;unfold start;show _=N.length;rw[zp,zc,yi];lia
theorem Ms{CX:AW}{P:Program}{w:World}{K:Frag}{mg:Str->Option Value}{base:Heap}{k:Nat}{f:Addr}{name qual:Str}{params:Arguments}{body:List Stmt}{scope:Scope}{dV kV doc pm eV ct oc:Value}{an od:Option Addr} {Mt:Array<|Option Value}{N ps:List Str}{sp:Sp} (lk:K.lookup f=some {oc,od,.func<|fnOf name qual params body scope dV kV doc pm an eV ct,Mt}) (pW:codeIn K eV qual=true) (S:eR N ps scope) (len:∀vs H Q E,sp vs H Q E->vs.length=ps.length) (gT:∀(A:Around)(outer:List Env)(s:Shared)(H:Hp)(vs:List V)(Q:VK)(E:XK),bB k (A.deeper<|envOfC qual scope s.heap.objs.size f eV)->sp vs H Q E->∃t,AJ (iz CX P w K mg base N qual scope f eV A outer s H E) body t/\t {nx:=λ_ H'=>Q .av H',rt:=Q} (start N vs) H): bK P w K mg base CX (k+1) f (fnOf name qual params body scope dV kV doc pm an eV ct) ps sp:=by
 refine{len,λA outer s H args us vs Q E hr e0 hb r Mu=>?_};have hl:=len _ _ _ _ Mu;have KX:K.In s.heap:=e0.mod.Mh.keeps λb o e=>(e0.bs b o e).1;have lim:s.heap.NoLimit:=e0.mod.nolimit.keeps λb o e=>(e0.bs b o e).1;have Gn:∀y∈ps.zip us,scope.names.lookup y.1=some .local\/(scope.names.lookup y.1=some .cell/\((cellsFrom (s.heap.objs.size+1) scope.names []).lookup y.1).isSome=true):=by rintro⟨n,v⟩ hy;rcases S.par n (List.of_mem_zip hy).1 with q|q;exact .inl q;exact .inr {q,cellsFrom_some _ _ _<|.inl q}
 refine codeAny_call_function hr.depth (KX _ _ lk) rfl S.co S.gen rfl (codeRec_of KX pW)<|hb _ _ _ _ ?_;refine wpAny_newFunctionEnv_cells S.kind Gn λenv he s1 x=>?_;subst he;refine{lim.keeps x.toInCall.keep,codeAny_func ?_};obtain⟨t,ht,hq⟩:=gT A outer s H vs Q E (hr.deeper _) Mu;have I:Inv (iz CX P w K mg base N qual scope f eV A outer s H E) [] (start N vs) H s1:=t9 S hr.hd e0 hl r x;refine yq (ht [] s1 (start N vs) H _ I hq) (λfl s' hs=>?_) λe s' hs=>hs;have fin:∀{aq:St}{H':Hp}{v:V}{u:Value},Inv (iz CX P w K mg base N qual scope f eV A outer s H E) [] aq H' s'->RelV v u->Q v H'->CE outer P w H s Q u s':=λ{aq H' v u} J rv q=>⟨v,H',J.os,J.bare,J.base,J.aH,rv,q⟩;cases fl with|ret u=>(obtain⟨v,aq,H',J,rv,q⟩:=hs;exact fin J rv q)|next=>(obtain⟨aq,H',J,q⟩:=hs;exact fin (v:=V.av) (u:=Value.none) J rfl q)|brk=>(obtain⟨_,_,_,q⟩:=hs;exact False.elim q)|cont=>obtain⟨_,_,_,q⟩:=hs;exact False.elim q
section
variable{X:Cx}{x:Str}{p pos:Pos}{e:Expr}{es:List Expr}{t:TA}{id T:String}{r:List V->Hp->VK->Prop}
def W8(r:List V->Hp->VK->Prop)(t:TA):TE:=λσ H Q=>t σ H λvs H1=>r vs H1 Q
theorem qA(hc:dw X (.builtin id) r)(hg:Gl X x)(hm:X.mg x=none)(hv:bootBuiltins x=some (.builtin id))(ha:PA X (e::es) t)(hn:autoParam (x≠"__name__") qQZ)(jb:autoParam ((x==("__debug__": Str))=false) qQZ) (he:autoParam (starEach (e::es) X.env=(false,eval e X.env)::starEach es X.env) qQJ) (eE:autoParam ((backTo pos<|starEach es X.env).any (·.1)=false) qQJ):PE X (.Call (.Name x p) (e::es) [] pos) (W8 r t):=by intro pins s σ H Q I h;refine yF<|gF I hg hm hv ?_ hn jb;exact PyProof.Rows.callWith_builtin1 (bu (ha pos pins s σ H _ I h) <| by rintro us s1 ⟨vs,H1,I1,r1,q1⟩;exact hc pins s1 σ H1 vs us Q I1 r1 q1) he eE
theorem t_(hc:dw X (.type T) r)(hg:Gl X x)(hm:X.mg x=none)(hv:bootBuiltins x=some (.type T))(ha:PA X (e::es) t)(hn:autoParam (x≠"__name__") qQZ)(jb:autoParam ((x==("__debug__": Str))=false) qQZ) (he:autoParam (starEach (e::es) X.env=(false,eval e X.env)::starEach es X.env) qQJ) (eE:autoParam ((backTo pos<|starEach es X.env).any (·.1)=false) qQJ):PE X (.Call (.Name x p) (e::es) [] pos) (W8 r t):=by intro pins s σ H Q I h;refine yF<|gF I hg hm hv ?_ hn jb;exact PyProof.Rows.callWith_type1 (bu (ha pos pins s σ H _ I h) <| by rintro us s1 ⟨vs,H1,I1,r1,q1⟩;exact hc pins s1 σ H1 vs us Q I1 r1 q1) he eE
end
end L2
namespace HT
open PySem PyProof.Rows
section
variable{prog:Program}{w:World}{A:Around}{E:Value->Shared->Prop}{s:Shared}
theorem cat_tup{t b:Addr}(ht:IsTup s.heap t vs.toArray)(hb:IsTup s.heap b ws.toArray)(hv:vs≠[]) (h1:ws=[]->Q (.ref t) s) (h2:ws≠[]->Q (.ref s.heap.objs.size) {s with heap:=s.heap.push {cls:=.type "tuple",data:=.seq (vs++ws).toArray}}) (hsz:vs.length+ws.length<=sizeLine):wpAny (model prog w) A (binaryOp .Add (.ref t)<|.ref b) Q E s:=by
 obtain⟨⟨cls,dd,data,sl⟩,ho,hc,n,hd⟩:=id ht;obtain⟨⟨W9,VT,data2,w5⟩,Ob,J2,n2,hd2⟩:=id hb;simp only at hc hd J2 hd2;subst hc hd J2 hd2;have e:vs.toArray++ws.toArray=(vs++ws).toArray:=by simp
 by_cases hw:ws=[];exact concat_meets {_,ho,rfl} {_,Ob,rfl} noFill_tuple_add seq_tuple_add PySem.F.slot_tuple_add PySem.F.entry_tuple_add (PySem.F.args_tuple_add_2 _ _) (tuple_addW1 t b vs.toArray ws.toArray n n2 dd VT sl w5 (by simpa using hv)<|by simp[hw]) {ho,Ob,h1 hw};refine concat_meets {_,ho,rfl} {_,Ob,rfl} noFill_tuple_add seq_tuple_add PySem.F.slot_tuple_add PySem.F.entry_tuple_add (PySem.F.args_tuple_add_2 _ _) (tuple_addW2 t b vs.toArray ws.toArray n n2 dd VT sl w5 (by simpa using hv) (by simpa using hw)<|by rw[zk,zk];exact hsz) {ho,Ob,?_};rw[e];exact h2 hw
noncomputable def sIx(n d:Nat):Option Int->Nat|none=>d|some v=>if v<0 then (v+(n:Int)).toNat else min v.toNat n
theorem sIx_none(n d:Nat):sIx n d none=d:=rfl
theorem sIx_nat(n d k:Nat):sIx n d (some (k:Int))=min k n:=by show(if (k:Int)<0 then ((k:Int)+(n:Int)).toNat else min (k:Int).toNat n)=min k n;rw[if_neg<|by lia,Int.toNat_natCast]
theorem sIx_le(n d:Nat)(hd:d<=n)(o:Option Int):sIx n d o<=n:=by cases o with|none=>exact hd|some v=>show(if v<0 then (v+(n:Int)).toNat else min v.toNat n)<=n;by_cases hv:v<0;rw[if_pos hv];lia;rw[if_neg hv];exact Nat.min_le_right _ _
theorem clip_eq(v:Int)(n d:Nat):(if v<0 then max (v+(n:Int)) 0 else min v (n:Int))=((sIx n d (some v):Nat):Int):=by show(if v<0 then max (v+(n:Int)) 0 else min v (n:Int))=(((if v<0 then (v+(n:Int)).toNat else min v.toNat n):Nat):Int);by_cases hv:v<0;simp only[if_pos hv];lia;simp only[if_neg hv];lia
theorem adjust_gen(lo hi:Option Int)(n:Nat):Builtin.Slice.sliceAdjust lo hi 1 (n:Int)=(((sIx n 0 lo:Nat):Int),((sIx n n hi:Nat):Int)):=by
 have h1:¬((1:Int)<0):=by lia
 unfold Builtin.Slice.sliceAdjust;simp only[h1,if_false];refine Prod.ext ?_ ?_;cases lo with|none=>rfl|some v=>exact clip_eq v n 0
 cases hi with|none=>rfl|some v=>exact clip_eq v n n
theorem places_gen(i j:Nat):Builtin.Slice.slicePlaces (i:Int) (j:Int) 1=j-i:=by
 unfold Builtin.Slice.slicePlaces;have h1:(1:Int)>0:=by lia
 simp only[h1,if_true,Int.ediv_one];split<;>lia
theorem slicePart_(p:IsPart v o)(h:Q o s):wpAny (model prog w) A (Builtin.Slice.slicePartIndex v) Q E s:=by cases p with|none=>exact slicePart_none h|int i t=>exact slicePart_int h
theorem sliceApplied_gen{sl:Addr}{vl vu:Value}{lo hi:Option Int}{n:Nat}{Q:Int×Int×Nat->Shared->Prop}(hs:s.heap.IsSliceOf sl vl vu .none)(pl:IsPart vl lo)(pu:IsPart vu hi) (h:Q (((sIx n 0 lo:Nat):Int),1,sIx n n hi-sIx n 0 lo) s):wpAny (model prog w) A (Builtin.Slice.sliceApplied (.ref sl)<|pure (n:Int)) Q E s:=by obtain⟨os,Oc,VU,R8⟩:=id hs;unfold Builtin.Slice.sliceApplied Builtin.Slice.sliceFields;refine za<|za<|ya Oc R8 (x:=vl) rfl<|za<|ya Oc R8 (x:=vu) rfl<|za<|ya Oc R8 (x:=.none) rfl<|zf ?_;refine za<|slicePart_none ?_;show wpAny _ _ (if ((1:Int)==0)=true then _ else _) _ _ s;rw[if_neg<|by decide];refine za<|slicePart_ pl<|za<|slicePart_ pu<|za<|zf ?_;show wpAny _ _ (match Builtin.Slice.sliceAdjust lo hi 1 (n:Int) with|(lo,hi)=>pure (lo,(1:Int),Builtin.Slice.slicePlaces lo hi 1)) _ _ s;rw[adjust_gen lo hi n];show wpAny _ _ (pure (((sIx n 0 lo:Nat):Int),(1:Int),Builtin.Slice.slicePlaces ((sIx n 0 lo:Nat):Int) ((sIx n n hi:Nat):Int) 1)) _ _ s;rw[places_gen];exact zf h
theorem pick_gen(xs:Array Value)(i k:Nat):((List.range k).filterMap λ(m:Nat)=>xs[((i:Int)+(m:Int)*1).toNat]?).toArray=((xs.toList.drop i).take k).toArray:=by
 have e:(λ(m:Nat)=>xs[((i:Int)+(m:Int)*1).toNat]?)=λm=>xs[i+m]?:=by funext m;have:((i:Int)+(m:Int)*1).toNat=i+m:=(by lia);rw[this]
 rw[e];have:=pick_run xs i k;rw[List.filterMap_map]at this;have e2:((λx=>xs[x]?) ∘ λx=>i+x)=λm=>xs[i+m]?:=rfl;rw[e2]at this;rw[this]
theorem getItem_tuple_cut{t sl:Addr}{items:Array Value}{vl vu:Value}{lo hi:Option Int}{Q:Value->Shared->Prop}(ht:IsTup s.heap t items)(hs:s.heap.IsSliceOf sl vl vu .none)(pl:IsPart vl lo)(pu:IsPart vu hi) (hw:¬(sIx items.size 0 lo=0/\sIx items.size items.size hi=items.size)) (h:Q (.ref s.heap.objs.size) {s with heap:=s.heap.push {cls:=.type "tuple",data:=.seq ((items.toList.drop<|sIx items.size 0 lo).take<|sIx items.size items.size hi-sIx items.size 0 lo).toArray}}) (hsz:items.size<=sizeLine):wpAny (model prog w) A (getItem (.ref t)<|.ref sl) Q E s:=by
 have CV:sizeOk (.seq ((items.toList.drop<|sIx items.size 0 lo).take<|sIx items.size items.size hi-sIx items.size 0 lo).toArray):=by show((items.toList.drop<|sIx items.size 0 lo).take<|sIx items.size items.size hi-sIx items.size 0 lo).toArray.size<=sizeLine;rw[zk,yf,yK,yn];lia
 have hj:sIx items.size items.size hi<=items.size:=sIx_le _ _ (zl _) hi;obtain⟨os,Oc,VU,R8⟩:=id hs;have W_:s.TypeIs (.ref sl) "slice":=⟨os,Oc,VU⟩;unfold getItem;try with_reducible refine yg ?_
 first|refine za (zf ?_)|skip
 refine za<|wpAny_sequenceKey ht.typeIs (by decide) ?_;refine za<|yp (name:=Str.ofString "__getitem__") ht.typeIs PyProof.Rows.slot_tuple_getitem<|yA PyProof.Rows.slot_tuple_getitem ht.typeIs entry_tuple_getitem ?_<|args_tuple_getitem _ _;show wpAny _ _ (Builtin.Tuple.tupleItemsOf (.ref t) >>=_) _ _ s;refine za<|tupleItemsOf_ ht ?_;refine za<|wpAny_typeOf W_ ?_;rw[if_pos<|by decide];refine za<|sliceApplied_gen hs pl pu ?_;have R9:¬((((sIx items.size 0 lo:Nat):Int)==0&&(1:Int)==1&&(sIx items.size items.size hi-sIx items.size 0 lo)==items.size)=true):=by intro q;rw[zR,zR]at q;have q1:((sIx items.size 0 lo:Nat):Int)=0:=eq_of_beq q.1.1;have q2:sIx items.size items.size hi-sIx items.size 0 lo=items.size:=eq_of_beq q.2;exact hw {by lia,by lia}
 show wpAny _ _ (if (((sIx items.size 0 lo:Nat):Int)==0&&(1:Int)==1&&(sIx items.size items.size hi-sIx items.size 0 lo)==items.size)=true then _ else _) _ _ s;rw[if_neg R9,pick_gen];first|exact za (m:=Builtin.Tuple.tupleExact _) (ym (zf !⟨zf h⟩) CV)|exact za (m:=Builtin.Tuple.tupleExact _) (ym (za<|zf<|zf !⟨zf h⟩) CV)|exact za (za (m:=Builtin.Tuple.tupleExact _)<|ym (zf<|zf !⟨zf h⟩) CV)|exact za (za (m:=Builtin.Tuple.tupleExact _)<|ym (zf !⟨zf h⟩) CV)
end
end HT
namespace L2
open PySem PySem.Spec PyProof.Rows
abbrev TO:=St->Hp->(Option Int->Hp->Prop)->Prop
def PO(X:Cx)(e:Option Expr)(t:TO):Prop:=∀(pins:List (Addr×Obj))(s:Shared)(σ:St)(H:Hp)(Q:Option Int->Hp->Prop),Inv X pins σ H s->t σ H Q->wpAny (model X.prog X.w) X.A (evalPart e X.env) (λu s'=>∃o H',Inv X pins σ H' s'/\IsPart u o/\Q o H') X.xe s
def J3:TO:=λ_ H Q=>Q none H
def R_(t:TE):TO:=λσ H Q=>t σ H λx H1=>∃i,x=.int i/\Q (some i) H1
section
variable{X:Cx}{e:Expr}{te:TE}{lo hi:Option Expr}{tl th:TO}{pos p2:Pos}
theorem J4:PO X none J3:=by intro pins s σ H Q I h;rw[evalPart_none];exact zf {none,H,I,.none,h}
theorem J5(h:PE X e te):PO X (some e) (R_ te):=by intro pins s σ H Q I hw;rw[evalPart_some];refine bu (h pins s σ H _ I hw) λu s1 ⟨x,H1,I1,r1,q1⟩=>?_;obtain⟨i,rfl,q⟩:=q1;obtain⟨t,rfl⟩:=r1;exact{some i,H1,I1,.int i t,q}
def QU(X:Cx)(r:V->Option Int->Option Int->Hp->VK->Prop):Prop:=∀(pins:List (Addr×Obj))(s:Shared)(σ:St)(H:Hp)(x:V)(v vl vu:Value)(lo hi:Option Int)(sl:Addr)(Q:VK),Inv X pins σ H s->RelV x v->s.heap.IsSliceOf sl vl vu .none->IsPart vl lo->IsPart vu hi->r x lo hi H Q->∃T id,typeLookup (.type T) "__getitem__"= pure (some<|.builtin id)/\s.TypeIs v T/\wpAny (model X.prog X.w) X.A (getItem v<|.ref sl) (EP X pins σ Q) X.xe s
def tSl(r:V->Option Int->Option Int->Hp->VK->Prop)(te:TE)(tl th:TO):TE:=λσ H Q=>te σ H λx H1=>tl σ H1 λl H2=>th σ H2 λu H3=>r x l u H3 Q
theorem w6{r:V->Option Int->Option Int->Hp->VK->Prop}(hr:QU X r)(he:PE X e te)(hl:PO X lo tl)(hu:PO X hi th):PE X (.Subscript e (.Slice lo hi none p2) pos) (tSl r te tl th):=by intro pins s σ H Q I h;refine Subscript_<|bu (he pins s σ H _ I h) λv s1 ⟨x,H1,I1,r1,q1⟩=>?_;refine wpAny_Slice<|bu (hl pins s1 σ H1 _ I1 q1) λvl s2 ⟨l,H2,I2,pl,q2⟩=>bu (hu pins s2 σ H2 _ I2 q2) λvu s3 ⟨u,H3,I3,pu,q3⟩=>?_;rw[evalPart_none];refine zf ?_;have I4:Inv X pins σ H3 {s3 with heap:=s3.heap.push {cls:=.type "slice",data:=.fields #[vl,vu,.none]}}:=I3.kept (t':=s3.toks) λb ob q=>zb _ q;obtain⟨T,id,hT,ht,hg⟩:=hr pins {s3 with heap:=s3.heap.push {cls:=.type "slice",data:=.fields #[vl,vu,.none]}} σ H3 x v vl vu l u s3.heap.objs.size Q I4 r1 (Heap.IsSliceOf.new ..) pl pu q3;show wpAny (model X.prog X.w) X.A (subscriptTail e (.Slice lo hi none p2) v<|.ref s3.heap.objs.size) (EP X pins σ Q) X.xe {s3 with heap:=s3.heap.push {cls:=.type "slice",data:=.fields #[vl,vu,.none]}};exact tail_any (ops:=[.ref s3.heap.objs.size,v]) ht hT hg<|by with_unfolding_all rfl
noncomputable def w9(xs:List V)(lo hi:Option Int):List V:=(xs.drop<|HT.sIx xs.length 0 lo).take<|HT.sIx xs.length xs.length hi-HT.sIx xs.length 0 lo
theorem oF(xs:List V)(lo hi:Option Int):(w9 xs lo hi).length<=xs.length:=by unfold w9;rw[yf,yK];lia
def Xa(K:Frag):V->Option Int->Option Int->Hp->VK->Prop:=λx lo hi H Q=>∃a xs,x=.ref a/\gp K H a xs/\¬(HT.sIx xs.length 0 lo=0/\HT.sIx xs.length xs.length hi=xs.length)/\∀p,H p=none->Q (.ref p) (upd H p<|.tup<|w9 xs lo hi)
theorem Od:QU X (Xa X.K):=by
 intro pins s σ H x v vl vu lo hi sl Q I rx hs pl pu h;obtain⟨a,xs,rfl,hx,hw,q⟩:=h;cases rx;obtain⟨au,r,ht,hz⟩:=I.tuple hx;have hlen:au.toArray.size=xs.length:=by rw[zk];exact r.length.symm
 refine{"tuple",_,PyProof.Rows.slot_tuple_getitem.lookup,ht.typeIs,?_};refine HT.getItem_tuple_cut ht hs pl pu (by rw[hlen];exact hw) ?_ (by rw[hlen];exact hz);rw[hlen];refine{.ref s.heap.objs.size,_,I.laid (t':=s.toks) (o:=.tup<|w9 xs lo hi) (λb ob q=>zb _ q) (zl _) ?_,rfl,q _<|I.aH.fresh<|zl _};exact{zK (oF xs lo hi) hz,_,(r.drop<|HT.sIx xs.length 0 lo).take<|HT.sIx xs.length xs.length hi-HT.sIx xs.length 0 lo,fF.new _ _}
def Sa(K:Frag):R2:=λx y H Q=>∃a b xs ys,x=.ref a/\y=.ref b/\gp K H a xs/\gp K H b ys/\xs≠[]/\xs.length+ys.length<=sizeLine/\(ys=[]->Q (.ref a) H)/\(ys≠[]->∀p,H p=none->Q (.ref p) (upd H p<|.tup<|xs++ys))
theorem Vals.pZ(r:Vals xs us):us=[]↔xs=[]:=by cases r with|nil=>simp|cons _ _=>simp
theorem J6:gR X (binaryOp .Add) (Sa X.K):=by intro pins s σ H x y v u Q I rx ry h;obtain⟨a,b,xs,ys,rfl,rfl,ha,hb,hx,hz,q1,q2⟩:=h;cases rx;cases ry;obtain⟨au,r1,p1,_⟩:=I.tuple ha;obtain⟨l6,r2,p2,_⟩:=I.tuple hb;refine HT.cat_tup p1 p2 (λz=>hx<|r1.pZ.mp z) (λz=>{.ref a,H,I,rfl,q1<|r2.pZ.mp z}) (λz=>?_) (by rw[<-r1.length,<-r2.length];exact hz);refine{.ref s.heap.objs.size,_,I.laid (t':=s.toks) (o:=.tup<|xs++ys) (λb ob q=>zb _ q) (zl _) ?_,rfl,q2 (λw=>z<|r2.pZ.mpr w) _<|I.aH.fresh<|zl _};exact{by rw[zp];exact hz,_,r1.append r2,fF.new _ _}
end
noncomputable def Gq(n:Nat)(i:Int):Option Nat:=if 0<=i then (if i<n then some i.toNat else none) else if -(n:Int)<=i then some (i+n).toNat else none
noncomputable def j9{α:Type}(xs:List α)(i:Int):Option α:=(Gq xs.length i).bind λj=>xs[j]?
theorem CW(h:Gq n i=some j):seqIndex? i n=some j/\j<n/\-(n:Int)<=i/\i<n:=by unfold Gq at h;by_cases h0:0<=i;rw[if_pos h0]at h;by_cases h1:i<n;rw[if_pos h1]at h;have e:i.toNat=j:=zV h;exact{by rw[seqIndex_of h0 h1,e],by lia,by lia,h1};rw[if_neg h1]at h;cases h;rw[if_neg h0]at h;by_cases h1:-(n:Int)<=i;rw[if_pos h1]at h;have e:(i+n).toNat=j:=zV h;exact{by rw[seqIndex_neg (by lia) h1,e],by lia,h1,by lia};rw[if_neg h1]at h;cases h
theorem uS(h:j9 xs i=some v):∃j,seqIndex? i xs.length=some j/\xs[j]?=some v/\j<xs.length/\-(xs.length:Int)<=i/\i<xs.length:=by unfold j9 at h;cases e:Gq xs.length i with|none=>(rw[e]at h;cases h)|some j=>rw[e]at h;obtain⟨h1,h2,h3,h4⟩:=CW e;exact⟨j,h1,h,h2,h3,h4⟩
theorem eS{α:Type}{xs:List α}{j:Nat}{v:α}(h:xs[j]?=some v):j9 xs (j:Int)=some v:=by
 have hj:j<xs.length:=(zt.mp h).1;have e:Gq xs.length (j:Int)=some j:=by unfold Gq;rw[if_pos<|by lia,if_pos<|by lia];simp
 unfold j9;rw[e];exact h
def CY(b:Expr):Prop:=∀o i,subscripted b false o i=operate [o,i] (getItem o i)
def Sb(X:Cx)(r:R2):Prop:=∀(value slice:Expr)(pins:List (Addr×Obj))(s:Shared)(σ:St)(H:Hp)(x y:V)(v u:Value)(Q:VK),Inv X pins σ H s->RelV x v->RelV y u->r x y H Q->subscripted slice false v u=operate [v,u] (getItem v u)->wpAny (model X.prog X.w) X.A (subscriptTail value slice v u) (EP X pins σ Q) X.xe s
def QV(X:Cx)(id:String)(r:V->List V->Hp->VK->Prop):Prop:=∀(pins:List (Addr×Obj))(s:Shared)(σ:St)(H:Hp)(x:V)(xs:List V)(v:Value)(us:List Value)(Q:VK),Inv X pins σ H s->RelV x v->Vals xs us->r x xs H Q->wpAny (model X.prog X.w) X.A (call (.builtin id)<|v::us) (EP X pins σ Q) X.xe s
section
variable{X:Cx}{a b:Expr}{ta tb:TE}{pos:Pos}
theorem Sd(hr:Sb X r)(ha:PE X a ta)(hb:PE X b tb)(hs:CY b):PE X (.Subscript a b pos) (QT r ta tb):=by intro pins s σ H Q I h;exact Subscript_<|NX ha hb I h λv u s2 x y H2 I2 rx ry q=>hr a b pins s2 σ H2 x y v u Q I2 rx ry q<|hs _ _
def Xb(K:Frag):R2:=λx y H Q=>∃p xs i v,x=.ref p/\y=.int i/\ji K H p xs/\j9 xs i=some v/\Q v H
def Xc(K:Frag):R2:=λx y H Q=>∃p xs i v,x=.ref p/\y=.int i/\gp K H p xs/\j9 xs i=some v/\Q v H
def Xd:R2:=λx y H Q=>∃z i c,x=.str z/\y=.int i/\z.length<=sizeLine/\j9 z.cps.toList i=some c/\Q (.str ⟨#[c]⟩) H
theorem CZ:Sb X (Xb X.K):=by
 intro value slice pins s σ H x y v u Q I rx ry h hs;obtain⟨p,xs,i,z,rfl,rfl,hq,he,q⟩:=h;cases rx;obtain⟨t,rfl⟩:=ry;obtain⟨au,r,pl,hz⟩:=I.list hq;obtain⟨j,h1,h2,h3,h4,h5⟩:=uS he;obtain⟨w,ew,nz⟩:=r.get h2;have hl:=r.length;have hn:=qv;have fin:EP X pins σ Q w s:=⟨z,H,I,nz,q⟩;by_cases h0:0<=i;have hj:i.toNat=j:=by rw[seqIndex_of h0 h5]at h1;exact zV h1
 exact item_listR pl.isList h0 (by lia) (by rw[hj];simpa using ew) fin hs;have hj:(i+(au.toArray.size:Int)).toNat=j:=by rw[seqIndex_neg (by lia) h4]at h1;rw[zk,<-hl];exact zV h1
 exact subscriptTail_builtinR (x:=w) pl.isList.typeIs slot_list_getitem.lookup (wpAny_getItem_list_neg (Q:=λr s'=>r=w/\EP X pins σ Q r s') pl.isList (by lia) (by rw[zk]<;>lia) (by lia) (by rw[hj];simpa using ew) ⟨rfl,fin⟩) hs
theorem Gr:Sb X (Xc X.K):=by intro value slice pins s σ H x y v u Q I rx ry h hs;obtain⟨p,xs,i,z,rfl,rfl,hq,he,q⟩:=h;cases rx;obtain⟨t,rfl⟩:=ry;obtain⟨au,r,pl,hz⟩:=I.tuple hq;obtain⟨j,h1,h2,h3,h4,h5⟩:=uS he;obtain⟨w,ew,nz⟩:=r.get h2;have hl:=r.length;have hn:=qv;have fin:EP X pins σ Q w s:=⟨z,H,I,nz,q⟩;exact subscriptTail_builtinR (x:=w) pl.typeIs slot_tuple_getitem.lookup (getItem_tuple (j:=j) (Q:=λr s'=>r=w/\EP X pins σ Q r s') pl (by lia) (by lia) (by rw[zk,<-hl];exact h1) (by simpa using ew) ⟨rfl,fin⟩) hs
theorem Oe:Sb X Xd:=by
 intro value slice pins s σ H x y v u Q I rx ry h hs;obtain⟨z,i,c,rfl,rfl,hz,he,q⟩:=h;obtain⟨t,rfl⟩:=rx;obtain⟨t',rfl⟩:=ry;obtain⟨j,h1,h2,h3,h4,h5⟩:=uS he;have hl:z.cps.toList.length=z.length:=by simp[Str.length]
 rw[hl]at h1 h4 h5;have hn:=qv;exact tail_any (typeIs_str s z t) slot_str_getitem.lookup (getItem_str (c:=c) (by have e1:decide (i < -(2^63:Int))=false:=zw (by lia);have e2:decide (i>=2^63)=false:=zw (by lia);rw[e1,e2,Bool.or_false]) (by rw[h1];simpa using h2) {.str ⟨#[c]⟩,H,I.tok _,{_,rfl},q}) hs
theorem AY(au:List Value)(n j:Nat)(u:Value):Obj.mapSeq (·.setIfInBounds j u) {cls:=.type "list",data:=.seq au.toArray n}={cls:=.type "list",data:=.seq (au.set j u).toArray n}:=by simp[Obj.mapSeq]
theorem Inv.lst(I:Inv X pins σ H s)(h:H p=some (.lst xs)): ∃(au:List Value)(n:Nat),Vals xs au/\s.heap.get? p=some {cls:=.type "list",data:=.seq au.toArray n}/\xs.length<=sizeLine:=by obtain⟨z,au,n,r,e⟩:=I.aH p _ h;exact⟨au,n,r,e,z⟩
theorem Inv.Of{pins:List<|Addr×Obj}{σ:St}{H:Hp}{s:Shared}{p:Addr}{xs ys:List V}{au its':List Value}{n n':Nat}{f:Obj->Obj}(I:Inv X pins σ H s)(h:H p=some (.lst xs)) (ho:s.heap.get? p=some {cls:=.type "list",data:=.seq au.toArray n}) (hf:f {cls:=.type "list",data:=.seq au.toArray n}={cls:=.type "list",data:=.seq its'.toArray n'}) (r:Vals ys its') (hz:ys.length<=sizeLine) (t:Nat): Inv X pins σ (upd H p<|.lst ys) {s with heap:=s.heap.update p f,toks:=t}:=by
 have e:(s.heap.update p f).get? p=some {cls:=.type "list",data:=.seq its'.toArray n'}:=by rw[yx f ho<|by rw[hf]<;>rfl,hf]
 refine I.write (x:=p) (e:=p) (by rw[h];trivial) (.inl rfl) (λb u hb q=>(yu _ _<|Ne.symm hb).trans q) {_,e} ?_;exact⟨hz,its',n',r,e⟩
def Se:V->V->V->Hp->(Hp->Prop)->Prop:=λo i v H Q=>∃p xs k j,o=.ref p/\i=.int k/\H p=some (.lst xs)/\Gq xs.length k=some j/\Q (upd H p<|.lst<|xs.set j v)
theorem set_list:RO X Se:=by
 intro pins s σ H o i v ov iv u Q I ro ri rv h;obtain⟨p,xs,k,j,rfl,rfl,hp,hj,q⟩:=h;cases ro;obtain⟨t,rfl⟩:=ri;obtain⟨au,n,r,ho,hz⟩:=I.lst hp;obtain⟨h1,h2,h3,h4⟩:=CW hj;have hl:=r.length;have hn:=qv;have I':Inv X pins σ (upd H p<|.lst<|xs.set j v) {s with heap:=s.heap.update p (Obj.mapSeq (·.setIfInBounds j u))}:=I.Of hp ho (AY au n j u) (r.set rv j) (by rw[List.length_set];exact hz) s.toks;by_cases h0:0<=k;have hk:k.toNat=j:=by rw[seqIndex_of h0 h4]at h1;exact zV h1
 exact PySem.W.ki_setAt ho h0 (by lia) (by rw[zk,<-hl];exact h4) (by rw[hk];exact{_,I',q});have hk:(k+(au.toArray.size:Int)).toNat=j:=by rw[seqIndex_neg (by lia) h3]at h1;rw[zk,<-hl];exact zV h1
 exact PySem.W.ki_setBack ho (by lia) (by rw[zk,<-hl];exact h3) (by lia)<|by rw[hk];exact{_,I',q}
theorem uT(lo hi:Option Int)(n:Nat):(sliceBounds lo hi none n).1=((HT.sIx n 0 lo:Nat):Int)/\(sliceBounds lo hi none n).2.1=((HT.sIx n n hi:Nat):Int)/\(sliceBounds lo hi none n).2.2=1:=by
 refine{?_,?_,rfl};cases lo with|none=>simp[sliceBounds,HT.sIx]|some i=>simp only[sliceBounds,HT.sIx,Option.getD_none,show(1:Int)>0 by decide,if_true];by_cases h:i<0;simp only[h,if_true]<;>lia;simp only[h,if_false]<;>lia
 cases hi with|none=>simp[sliceBounds,HT.sIx]|some i=>simp only[sliceBounds,HT.sIx,Option.getD_none,show(1:Int)>0 by decide,if_true];by_cases h:i<0;simp only[h,if_true]<;>lia;simp only[h,if_false]<;>lia
theorem sP(au:List Value)(lo hi:Option Int):slicePick au.toArray lo hi none=((au.drop<|HT.sIx au.length 0 lo).take<|HT.sIx au.length au.length hi-HT.sIx au.length 0 lo).toArray:=by obtain⟨h1,h2,h3⟩:=uT lo hi au.toArray.size;unfold slicePick;rw[h1,h2,h3];simp only[sliceRange_one,pick_run,zk]<;>rfl
def Xe(K:Frag):V->Option Int->Option Int->Hp->VK->Prop:=λx lo hi H Q=>∃a xs,x=.ref a/\ji K H a xs/\∀p,H p=none->Q (.ref p) (upd H p<|.lst<|w9 xs lo hi)
theorem C3:QU X (Xe X.K):=by intro pins s σ H x v vl vu lo hi sl Q I rx hs pl pu h;obtain⟨a,xs,rfl,hx,q⟩:=h;cases rx;obtain⟨au,r,ht,hz⟩:=I.list hx;have hlen:=r.length;refine{"list",_,slot_list_getitem.lookup,ht.isList.typeIs,?_};refine wpAny_getItem_list_slice ht.isList hs pl pu .none (by simp) ?_ (by rw[zk]<;>lia);rw[sP,<-hlen];refine{.ref s.heap.objs.size,_,I.laid (t':=s.toks) (o:=.lst<|w9 xs lo hi) (λb ob q=>zb _ q) (zl _) ?_,rfl,q _<|I.aH.fresh<|zl _};exact{zK (oF xs lo hi) hz,_,0,(r.drop<|HT.sIx xs.length 0 lo).take<|HT.sIx xs.length xs.length hi-HT.sIx xs.length 0 lo,zi _ rfl}
noncomputable def gU:V->Bool|.av=>true|.bl _=>true|.int _=>true|.str _=>true|_=>false
noncomputable def eqV:V->V->Bool|.av,.av=>true|.bl a,.bl b=>a==b|.bl a,.int b=>((if a then 1 else 0)==b)|.int a,.bl b=>(a==(if b then 1 else 0))|.int a,.int b=>a==b|.str a,.str b=>a==b|_,_=>false
theorem Oh(ry:RelV y u)(rx:RelV x v)(fy:gU y=true)(fx:gU x=true):SeqAt.EqAt A s u v (eqV y x):=by cases y with|av=>(cases ry;cases x with|av=>(cases rx;exact SeqAt.EqAt.same _)|bl b=>(cases rx;exact SeqAt.EqAt.none_bool b)|int b=>(obtain⟨t,rfl⟩:=rx;exact SeqAt.EqAt.none_int b t)|str b=>(obtain⟨t,rfl⟩:=rx;exact SeqAt.EqAt.none_str b t)|_=>exact absurd (show false=true from fx) zd)|bl a=>(cases ry;cases x with|av=>(cases rx;exact SeqAt.EqAt.bool_none a)|bl b=>(cases rx;exact SeqAt.EqAt.bool_bool a b)|int b=>(obtain⟨t,rfl⟩:=rx;exact SeqAt.EqAt.bool_int a b t)|str b=>(obtain⟨t,rfl⟩:=rx;exact SeqAt.EqAt.bool_str a b t)|_=>exact absurd (show false=true from fx) zd)|int a=>(obtain⟨t',rfl⟩:=ry;cases x with|av=>(cases rx;exact SeqAt.EqAt.int_none a t')|bl b=>(cases rx;exact SeqAt.EqAt.int_bool a t' b)|int b=>(obtain⟨t,rfl⟩:=rx;exact SeqAt.EqAt.int_int a t' b t)|str b=>(obtain⟨t,rfl⟩:=rx;exact SeqAt.EqAt.int_str a t' b t)|_=>exact absurd (show false=true from fx) zd)|str a=>(obtain⟨t',rfl⟩:=ry;cases x with|av=>(cases rx;exact SeqAt.EqAt.str_none a t')|bl b=>(cases rx;exact SeqAt.EqAt.str_bool a t' b)|int b=>(obtain⟨t,rfl⟩:=rx;exact SeqAt.EqAt.str_int a t' b t)|str b=>(obtain⟨t,rfl⟩:=rx;exact SeqAt.EqAt.str_str a t' b t)|_=>exact absurd (show false=true from fx) zd)|_=>exact absurd (show false=true from fy) zd
noncomputable def Gs(x:V)(u:Value):Bool:=match u with|.none=>eqV .av x|.bool b=>eqV (.bl b) x|.int i _=>eqV (.int i) x|.str z _=>eqV (.str z) x|_=>false
theorem AZ(r:RelV y u)(f:gU y=true):Gs x u=eqV y x:=by cases y with|av=>(cases r;rfl)|bl b=>(cases r;rfl)|int i=>(obtain⟨t,rfl⟩:=r;rfl)|str z=>(obtain⟨t,rfl⟩:=r;rfl)|_=>exact absurd (show false=true from f) zd
theorem uU:∀{xs:List V}{us:List Value},Vals xs us->xs.all gU=true->us.any (Gs x)=xs.any λy=>eqV y x|_,_,.nil,_=>rfl|y::xs,u::us,.cons r t,f=>by rw[List.all_cons,zR]at f;rw[yP,yP,AZ r f.1,uU t f.2]
theorem l7(rx:RelV x v)(fx:gU x=true):∀{xs:List V}{us:List Value},Vals xs us->xs.all gU=true->∀u∈us,SeqAt.EqAt A s u v (Gs x u)|_,_,.nil,_=>(λu hu=>by cases hu)|y::xs,u::us,.cons r t,f=>λu' hu=>by rw[List.all_cons,zR]at f;rcases zg.mp hu with rfl|hu;rw[AZ r f.1];exact Oh r rx f.1 fx;exact l7 rx fx t f.2 u' hu
noncomputable def Gu(x:V)(xs:List V):Bool:=xs.any λy=>eqV y x
def rIn(K:Frag)(neg:Bool):R2:=λx y H Q=>∃p xs,y=.ref p/\(ji K H p xs\/gp K H p xs)/\gU x=true/\xs.all gU=true/\Q (.bl<|if neg then !Gu x xs else Gu x xs) H
theorem nA:gR X (compareOp .In) (rIn X.K false):=by intro pins s σ H x y v u Q I rx ry h;obtain⟨p,xs,rfl,hq,fx,fs,q⟩:=h;cases ry;rcases hq with hq|hq;obtain⟨au,r,pl,hz⟩:=I.list hq;refine SeqAt.in_listAt (Gs x) pl.isList (λw hw=>l7 rx fx r fs w<|by simpa using hw) {.bl _,H,I,rfl,?_};rw[show au.toArray.any (Gs x)=au.any (Gs x) by simp,uU r fs];exact q;obtain⟨au,r,pl,hz⟩:=I.tuple hq;refine SeqAt.in_tupleAt (Gs x) pl (λw hw=>l7 rx fx r fs w<|by simpa using hw) {.bl _,H,I,rfl,?_};rw[show au.toArray.any (Gs x)=au.any (Gs x) by simp,uU r fs];exact q
theorem l8:dw X (.type "list") (λxs H Q=>∃p ys,xs=[.ref p]/\(ji X.K H p ys\/gp X.K H p ys)/\∀l,H l=none->Q (.ref l) (upd H l<|.lst ys)):=by intro pins s σ H xs us Q I r h;obtain⟨p,ys,rfl,hq,q⟩:=h;obtain⟨u,rfl,rx⟩:=vals1 r;cases rx;have fin:∀(au:List Value),Vals ys au->ys.length<=sizeLine->∀(h':Heap) (c':Nat),(∀b o',s.heap.get? b=some o'->h'.get? b=some o')->h'.get? s.heap.objs.size=some {cls:=.type "list",dict:=none,data:=.seq au.toArray c',slots:=#[]}->EP X pins σ Q (.ref s.heap.objs.size) {s with heap:=h'}:=λau r' hz h' c' kp e=>{.ref s.heap.objs.size,_,I.laid (t':=s.toks) kp (zl _)<|show aU X.prog X.w _ h' _ (.lst ys) from⟨hz,au,c',r',e⟩,rfl,q _<|I.aH.fresh<|zl _};rcases hq with hq|hq;obtain⟨au,r',pl,hz⟩:=I.list hq;have hlen:=r'.length;obtain⟨o,ho,hc,n,hd⟩:=pl.isList;exact call_list_seq p (.inl rfl) ho hc hd (λh' c' kp e=>fin au r' hz h' c' kp e) (by simp only[zk]<;>lia);obtain⟨au,r',pl,hz⟩:=I.tuple hq;have hlen:=r'.length;obtain⟨o,ho,hc,n,hd⟩:=pl;exact call_list_seq p (.inr rfl) ho hc hd (λh' c' kp e=>fin au r' hz h' c' kp e)<|by simp only[zk]<;>lia
theorem kP:dw X (.type "tuple") (λxs H Q=>∃p ys,xs=[.ref p]/\((ji X.K H p ys/\∀l,H l=none->Q (.ref l) (upd H l<|.tup ys))\/(gp X.K H p ys/\Q (.ref p) H))):=by intro pins s σ H xs us Q I r h;obtain⟨p,ys,rfl,h⟩:=h;obtain⟨u,rfl,rx⟩:=vals1 r;cases rx;rcases h with⟨hq,q⟩|⟨hq,q⟩;obtain⟨au,r',pl,hz⟩:=I.list hq;have hlen:=r'.length;refine call_tuple_list pl.isList (λh' kp=>?_) (by simp only[zk]<;>lia);have I1:Inv X pins σ H {s with heap:=h'}:=I.kept (t':=s.toks) kp;have I2:Inv X pins σ (upd H h'.objs.size<|.tup ys) {s with heap:=h'.push {cls:=.type "tuple",data:=.seq au.toArray}}:=I1.laid (t':=s.toks) (λb o e=>zb _ e) (zl _)<|show aU X.prog X.w _ _ _ (.tup ys) from{hz,au,r',fF.new _ _};exact{.ref h'.objs.size,_,I2,rfl,q _<|I1.aH.fresh<|zl _};obtain⟨au,r',pl,hz⟩:=I.tuple hq;exact call_tuple_same pl {.ref p,H,I,rfl,q}
def VV(K:Frag)(T:String)(x:V)(H:Hp):Prop:=match x with|.str _=>T ="str"|.int _=>T ="int"|.ref p=>(T ="list"/\∃xs,ji K H p xs)\/(T ="tuple"/\∃o,K.lookup p=some o/\o.cls=.type "tuple"/\o.dict=none)\/(T ="dict"/\((∃kvs,H p=some (.dK kvs))\/∃kvs,H p=some (.dT kvs)))\/(T ="set"/\∃S n,H p=some (.set S n))|_=>False
theorem Gv{T:String}(I:Inv X pins σ H s)(r:RelV x v)(ty:VV X.K T x H): s.TypeIs v T/\∀a,v=.ref a->∃ob,s.heap.get? a=some ob/\ob.dict=none:=by cases x with|str z=>(obtain⟨t,rfl⟩:=r;cases (show T ="str" from ty);exact{typeIs_str s z t,λ_ e=>nomatch e})|int i=>(obtain⟨t,rfl⟩:=r;cases (show T ="int" from ty);exact{typeIs_int s i t,λ_ e=>nomatch e})|ref p=>(cases r;rcases ty with⟨rfl,xs,hq⟩|⟨rfl,o,hk,hc,hd⟩|⟨rfl,hk⟩|⟨rfl,S,n,hk⟩;obtain⟨au,_,pl,_⟩:=I.list hq;refine{pl.isList.typeIs,λa e=>?_};cases e;obtain⟨o,n,e,c,hd,_⟩:=pl;exact⟨o,e,hd⟩;refine{{o,I.kC p o hk,hc},λa e=>?_};cases e;exact{o,I.kC _ o hk,hd};have z:∃o,s.heap.get? p=some o/\o.ExactDict:=(by rcases hk with⟨kvs,hk⟩|⟨kvs,hk⟩;obtain⟨_,_,_,_,o,_,_,e,ex,_⟩:=I.aH p _ hk;exact⟨o,e,ex⟩;exact False.elim<|I.aH p _ hk);obtain⟨o,e,ex⟩:=z;refine{⟨o,e,ex.1⟩,λa e2=>?_};cases e2;exact⟨o,e,ex.2.1⟩;obtain⟨o,_,_,_,e,ex,_⟩:=I.aH p _ hk;refine{⟨o,e,ex.1⟩,λa e2=>?_};cases e2;exact⟨o,e,ex.2.1⟩)|_=>exact False.elim ty
def Xf(K:Frag)(T:String)(r:V->List V->Hp->VK->Prop)(to:TE):TE:=λσ H Q=>to σ H λx H1=>VV K T x H1/\r x [] H1 Q
def tBM(K:Frag)(T:String)(r:V->List V->Hp->VK->Prop)(to:TE)(t:TA):TE:=λσ H Q=>to σ H λx H1=>VV K T x H1/\t σ H1 λxs H2=>r x xs H2 Q
variable{o e:Expr}{es:List Expr}{to:TE}{t:TA}{name:Str}{apos aP:Pos}{T id:String}{r:V->List V->Hp->VK->Prop}
theorem Oi(pa:PlainAttrs T)(slot:Slot T name id)(Oj:typeOf (.builtin id)=pure (.type "method_descriptor"))(hm:QV X id r)(ho:PE X o to) (l9:autoParam (attributeBase o name X.env (eval o X.env)=eval o X.env) qQJ) (qB:autoParam ((apos.endLine==aP.line)=true) qQJ):PE X (.Call (.Attribute o name apos) [] [] aP) (Xf X.K T r to):=by intro pins s σ H Q I h;refine wpAny_Call_method0_late l9 qB<|bu (ho pins s σ H _ I h) λv s1 ⟨x,H1,I1,r1,ty,q1⟩=>?_;obtain⟨h1,h2⟩:=Gv I1 r1 ty;exact{T,id,pa,slot,Oj,h1,h2,Calls.callWith_builtin rfl<|PySem.evalArgs_none<|hm pins s1 σ H1 x [] v [] Q I1 r1 .nil q1}
theorem Sf(pa:PlainAttrs T)(slot:Slot T name id)(Oj:typeOf (.builtin id)=pure (.type "method_descriptor"))(hm:QV X id r)(ho:PE X o to)(ha:PA X (e::es) t) (l9:autoParam (attributeBase o name X.env (eval o X.env)=eval o X.env) qQJ) (Ol:autoParam (((backTo aP<|starEach (e::es) X.env).all (λx=>!x.1)&&(backToKw aP<|keywordEach [] X.env).all (λx=>x.1.isSome)&&decide ((e::es).length+([]:List Keyword).length+(if ([]:List Keyword).isEmpty then 0 else 1)<30))=true) qQJ) (qB:autoParam ((apos.endLine==aP.line)=true) qQJ) (hs:autoParam (starEach (e::es) X.env=(false,eval e X.env)::starEach es X.env) qQJ) (A1:autoParam ((backTo aP<|starEach es X.env).any (·.1)=false) qQJ): PE X (.Call (.Attribute o name apos) (e::es) [] aP) (tBM X.K T r to t):=by intro pins s σ H Q I h;refine wpAny_Call_method_late l9 Ol qB rfl<|bu (ho pins s σ H _ I h) λv s1 ⟨x,H1,I1,r1,ty,q1⟩=>?_;obtain⟨h1,h2⟩:=Gv I1 r1 ty;refine{T,id,pa,slot,Oj,h1,h2,?_};have hA:=ha aP pins s1 σ H1 _ I1 q1;rw[hs]at hA⊢;refine Calls.callWith_builtin (by show(false||(backTo aP<|starEach es X.env).any (·.1))=false;rw[A1]<;>rfl)<|Calls.evalArgs_plain ?_;exact bu hA <| by rintro us s2 ⟨vs,H2,I2,r2,q2⟩;exact hm pins s2 σ H2 x vs v us Q I2 r1 r2 q2
end
def Xg(X:Cx)(id:String)(r:V->List V->Hp->VK->Prop):Prop:=∀(pins:List (Addr×Obj))(s:Shared)(σ:St)(H:Hp)(x:V)(xs:List V)(v:Value)(us:List Value)(Q:VK),Inv X pins σ H s->RelV x v->Vals xs us->r x xs H Q->wpAny (model X.prog X.w) X.A (call (.builtin id)<|v::us) (EP X pins σ Q) X.xe s
theorem Vals.one:∀{x:V}{us:List Value},Vals [x] us->∃u,us=[u]/\RelV x u:=by intro x us h;cases h with|cons r t=>cases t;exact{_,rfl,r}
theorem Vals.two:∀{x y:V}{us:List Value},Vals [x,y] us->∃u v,us=[u,v]/\RelV x u/\RelV y v:=by intro x y us h;cases h with|cons r t=>obtain⟨_,rfl,q⟩:=Vals.one t;exact{_,_,rfl,r,q}
theorem Vals.zero:∀{us:List Value},Vals [] us->us=[]|_,.nil=>rfl
theorem Vals.dropLast{xs:List V}{us:List Value}(h:Vals xs us):Vals xs.dropLast us.dropLast:=by induction h with|nil=>exact .nil|cons r t ih=>cases t with|nil=>exact .nil|cons q t'=>exact .cons r ih
theorem A2{α:Type}(l:List α):l.eraseIdx (l.length-1)=l.dropLast:=by induction l with|nil=>rfl|cons a r ih=>cases r with|nil=>rfl|cons b r=>have e:(a::b::r).length-1=((b::r).length-1)+1:=(by have h1:(a::b::r).length=r.length+2:=rfl;have h2:(b::r).length=r.length+1:=rfl;lia);rw[e,List.eraseIdx_cons_succ,ih];all_goals rfl
section
variable{X:Cx}{pins:List (Addr×Obj)}{σ:St}{H:Hp}{s:Shared}{l:Addr}{xs ys:List V}
theorem Inv.Om{au its':List Value}{n:Nat}{f:Array Value->Array Value}{t':Nat}(I:Inv X pins σ H s)(hH:H l=some (.lst xs)) (e:s.heap.get? l=some {cls:=.type "list",data:=.seq au.toArray n}) (hf:f au.toArray=its'.toArray) (hv:Vals ys its') (hz:ys.length<=sizeLine): Inv X pins σ (upd H l<|.lst ys) {s with heap:=s.heap.update l<|Obj.mapSeq f,toks:=t'}:=by have q:=PySem.IsL.update e f;rw[hf]at q;refine I.write (x:=l) (e:=l) (by rw[hH];exact trivial) (.inl rfl) (λb' u hb hu=>(yu s.heap (Obj.mapSeq f)<|Ne.symm hb).trans hu) {_,q} ?_;exact{hz,its',_,hv,q}
theorem Inv.Xh(I:Inv X pins σ H s)(hv:Vals ys au)(hz:ys.length<=sizeLine): Inv X pins σ (upd H s.heap.objs.size<|.lst ys) {s with heap:=s.heap.push {cls:=.type "list",data:=.seq au.toArray},toks:=t'}:=I.laid (λ_ _ q=>zb _ q) (zl _) {hz,au,0,hv,zi _ rfl}
theorem Inv.fresh(I:Inv X pins σ H s):H s.heap.objs.size=none:=I.aH.fresh<|zl _
theorem Inv.Gw(I:Inv X pins σ H s)(hH:H l=some (.lst xs)):xs.length<=sizeLine/\∃(au:List Value)(n:Nat),Vals xs au/\xs.length=au.length/\s.heap.get? l=some {cls:=.type "list",data:=.seq au.toArray n}:=by obtain⟨z,au,n,r,e⟩:=I.aH l _ hH;exact⟨z,au,n,r,r.length,e⟩
theorem Gx{n:Nat}(h:n<=sizeLine):Builtin.List.listTooLong n=false:=by unfold Builtin.List.listTooLong;exact zw<|by lia
end
section
variable{X:Cx}
def J_:V->List V->Hp->VK->Prop:=λx vs H Q=>∃l xs y,x=.ref l/\vs=[y]/\H l=some (.lst xs)/\xs.length<sizeLine/\Q .av (upd H l<|.lst<|xs++[y])
theorem Ek:Xg X "list.append" J_:=by intro pins s σ H x vs v us Q I rx rv h;obtain⟨l,xs,y,rfl,rfl,hH,hz,q⟩:=h;cases rx;obtain⟨u,rfl,ru⟩:=rv.one;obtain⟨z,au,n,r,hl,e⟩:=I.Gw hH;refine call_meets F.slot_list_append {_,e,rfl} F.entry_list_append (F.args_list_append_2 _ _) (PySem.list_append l au.toArray n u<|by rw[zk];lia) {e,?_};refine{.av,_,I.Om (its':=au++[u]) hH e (by simp) (r.append<|.cons ru .nil) ?_,rfl,q};rw[zp,List.length_singleton];lia
def Xi:V->List V->Hp->VK->Prop:=λx vs H Q=>∃l xs y,x=.ref l/\vs=[]/\H l=some (.lst xs)/\xs[xs.length-1]?=some y/\Q y (upd H l<|.lst xs.dropLast)
theorem Oo:Xg X "list.pop" Xi:=by
 intro pins s σ H x vs v us Q I rx rv h;obtain⟨l,xs,y,rfl,rfl,hH,hy,q⟩:=h;cases rx;have hus:=rv.zero;subst hus;obtain⟨z,au,n,r,hl,e⟩:=I.Gw hH;obtain⟨u,hu,ru⟩:=r.get hy;have Sh:au.toArray[au.toArray.size-1]?=some u:=by show au.toArray[au.length-1]?=some u;rw[<-Array.getElem?_toList,<-hl];exact hu
 refine call_meets F.slot_list_pop {_,e,rfl} F.entry_list_pop (F.args_list_pop_1 _) (MeetsSeq.list_pop_last l au.toArray n u Sh<|by rw[zk];lia) {e,?_};refine{y,_,I.Om (its':=au.dropLast) hH e ?_ r.dropLast ?_,ru,q};show au.toArray.eraseIdxIfInBounds (au.toArray.size-1)=au.dropLast.toArray;rw[zk,List.eraseIdxIfInBounds_toArray,A2];rw[List.length_dropLast];lia
def Xj:R2:=λx y H Q=>∃l b xs zs,x=.ref l/\y=.ref b/\H l=some (.lst xs)/\H b=some (.lst zs)/\xs.length+zs.length<=sizeLine/\∀p,H p=none->Q (.ref p) (upd H p<|.lst<|xs++zs)
theorem Gy:gR X (binaryOp .Add) Xj:=by
 intro pins s σ H x y v u Q I rx ry h;obtain⟨l,b,xs,zs,rfl,rfl,hH,hB,hz,q⟩:=h;cases rx;cases ry;obtain⟨z,au,n,r,hl,e⟩:=I.Gw hH;obtain⟨z2,l6,n2,r2,Gz,e2⟩:=I.Gw hB;refine PySem.P.add_list e e2 ?_ (by rw[zk,zk];lia);have ea:au.toArray++l6.toArray=(au++l6).toArray:=by simp
 rw[ea];exact{.ref _,_,I.Xh (t':=s.toks) (r.append r2)<|by rw[zp];lia,rfl,q _ I.fresh}
end
section
variable{κ:Type}[DecidableEq κ]
noncomputable def gk(kvs:List<|κ×V)(k:κ):Option V:=(kvs.find? λkv=>decide<|kv.1=k).map (·.2)
noncomputable def putK(kvs:List<|κ×V)(k:κ)(v:V):List (κ×V):=if (kvs.any λkv=>decide<|kv.1=k)=true then kvs.map (λkv=>if kv.1=k then (kv.1,v) else kv) else kvs++[(k,v)]
noncomputable def oG(kvs:List<|κ×V)(k:κ):List (κ×V):=kvs.filter λkv=>decide<|kv.1≠k
theorem qC{p:κ×V}{r:List<|κ×V}{k:κ}(e:p.1=k):gk (p::r) k=some p.2:=by simp[gk,yb,e]
theorem qD{p:κ×V}{r:List<|κ×V}{k:κ}(e:¬p.1=k):gk (p::r) k=gk r k:=by simp[gk,yb,e]
theorem oH(kvs:List<|κ×V)(k:κ)(v:V):(putK kvs k v).length<=kvs.length+1:=by unfold putK;split;rw[zc];lia;rw[zp,zD,List.length_nil];lia
theorem gf.nB(r:gf o u):o.isSome=u.isSome:=by cases o with|none=>(cases u with|none=>rfl|some _=>exact(show False from r).elim)|some _=>cases u with|none=>exact(show False from r).elim|some _=>rfl
theorem gf.getD{o:Option V}{u:Option Value}{d:V}{d':Value}(r:gf o u)(rd:RelV d d'):RelV (o.getD d) (u.getD d'):=by cases o with|none=>(cases u with|none=>exact rd|some _=>exact(show False from r).elim)|some _=>cases u with|none=>exact(show False from r).elim|some _=>exact r
theorem KV.val{kvs:List<|κ×V}{vs:List<|κ×Value}(r:KV kvs vs)(k:κ):gf (gk kvs k) (valueAt vs k):=by unfold KV at r;induction r with|nil=>exact True.intro|@cons p q ps qs h t ih=>obtain⟨h1,h2⟩:=h;by_cases e:p.1=k;have e':q.1=k:=h1.symm.trans e;have b:valueAt (q::qs) k=some q.2:=(by simp[valueAt,yb,e']);rw[qC e,b];exact h2;have e':¬q.1=k:=λz=>e<|h1.trans z;have b:valueAt (q::qs) k=valueAt qs k:=(by simp[valueAt,yb,e']);rw[qD e,b];exact ih
theorem KV.any{kvs:List<|κ×V}{vs:List<|κ×Value}(r:KV kvs vs)(k:κ):(kvs.any λkv=>decide<|kv.1=k)=vs.any λkv=>decide (kv.1=k):=by unfold KV at r;induction r with|nil=>rfl|cons h t ih=>rw[yP,yP,ih,h.1]
theorem KV.Oq(r:KV kvs vs)(k:κ)(ry:RelV y u): KV (kvs.map λkv=>if kv.1=k then (kv.1,y) else kv) (vs.map λkv=>if kv.1=k then (kv.1,u) else kv):=by unfold KV at r⊢;induction r with|nil=>exact .nil|@cons p q ps qs h t ih=>rw[zQ,zQ];refine .cons ?_ ih;obtain⟨h1,h2⟩:=h;by_cases e:p.1=k;rw[if_pos e,if_pos<|h1.symm.trans e];exact⟨h1,ry⟩;rw[if_neg e,if_neg λz=>e<|h1.trans z];exact⟨h1,h2⟩
theorem KV.put(r:KV kvs vs)(k:κ)(ry:RelV y u):KV (putK kvs k y) (stored vs k u):=by unfold putK stored;rw[r.any k];by_cases e:(vs.any λkv=>decide<|kv.1=k)=true;rw[if_pos e,if_pos e];exact r.Oq k ry;rw[if_neg e,if_neg e];exact Paired.snoc r ⟨rfl,ry⟩
theorem KV.drop(r:KV kvs vs)(k:κ):KV (oG kvs k) (without vs k):=by unfold KV at r⊢;unfold oG without;induction r with|nil=>exact .nil|@cons p q ps qs h t ih=>obtain⟨h1,h2⟩:=h;rw[List.filter_cons,List.filter_cons];by_cases e:p.1=k;have a:¬decide (p.1≠k)=true:=(by simp[e]);have b:¬decide (q.1≠k)=true:=(by simp[h1.symm.trans e]);rw[if_neg a,if_neg b];exact ih;have e':¬q.1=k:=λz=>e<|h1.trans z;have a:decide (p.1≠k)=true:=(by simp[e]);have b:decide (q.1≠k)=true:=(by simp[e']);rw[if_pos a,if_pos b];exact .cons ⟨h1,h2⟩ ih
theorem KV.length{kvs:List<|κ×V}{vs:List<|κ×Value}(r:KV kvs vs):kvs.length=vs.length:=yS r
theorem GA(kvs:List<|κ×V)(k:κ):(oG kvs k).length<=kvs.length:=List.length_filter_le _ _
end
theorem kQ(r:RelV (kV k) u):(aG P w).is k u=true:=by cases k with|inl i=>(obtain⟨t,e⟩:=(show ∃t,u=Value.int i t from r);subst e;exact wX P w i t)|inr x=>obtain⟨t,e⟩:=(show ∃t,u=Value.str x t from r);subst e;exact jj P w x t
theorem ua:∀{ks:List Key}{us:List Value},Vals (ks.map kV) us->ItemsAre (aG P w) ks us|[],_,r=>(by rw[List.map_nil]at r;cases r;exact .nil)|k::ks,_,r=>by rw[zQ]at r;cases r with|cons h t=>exact .cons (kQ h)<|ua t
abbrev KT(H:Hp):List (List Key×V)->List (List Key×Addr×Value)->Prop:=Paired λp q=>p.1=q.1/\H q.2.1=some (.tup<|p.1.map kV)/\RelV p.2 q.2.2
theorem KT.val{H:Hp}{kvs:List<|List Key×V}{xs:List<|List Key×Addr×Value}(r:KT H kvs xs)(k:List Key):gf (gk kvs k) ((atKey xs k).map (·.2)):=by induction r with|nil=>exact True.intro|@cons p q ps qs h t ih=>obtain⟨h1,_,h2⟩:=h;by_cases e:p.1=k;have e':q.1=k:=h1.symm.trans e;have b:atKey (q::qs) k=some q.2:=(by simp[atKey,yb,e']);rw[qC e,b];exact h2;have e':¬q.1=k:=λz=>e<|h1.trans z;have b:atKey (q::qs) k=atKey qs k:=(by simp[atKey,yb,e']);rw[qD e,b];exact ih
section
variable{P:Program}{w:World}{H:Hp}{h:Heap}{a:Addr}
theorem Mv(ok:kB P w H h)(e:Rd H a u):aU P w H h a u:=e.ok ok
theorem oI(ok:kB P w H h)(e:Rd H a<|.dK kvs):kvs.length<=sizeLine/\(a==sysModules)=false/\∃vs,KV kvs vs/\h.DictOf (aG P w) a vs:=show aU P w H h a (.dK kvs) from Mv ok e
theorem C4(ok:kB P w H h)(e:H a=some (.dK kvs)):kvs.length<=sizeLine/\(a==sysModules)=false/\∃vs,KV kvs vs/\h.DictOf (aG P w) a vs:=oI ok<|.inl e
theorem uV(ok:kB P w H h)(e:H a=some (.tup<|ks.map kV)):(tupleKind<|aG P w).is h ks a:=by obtain⟨_,au,r,o,h1,h2,_,n,h3⟩:=(show aU P w H h a (.tup<|ks.map kV) from ok a _ e);exact{o,au.toArray,n,h1,h2,h3,by simpa using ua r}
theorem ub(ok:kB P w H h)(e:Rd H a<|.dT kvs):kvs.length<=sizeLine/\(a==sysModules)=false/\∃xs,KT H kvs xs/\h.DictOfH (tupleKind<|aG P w) a xs:=by exact False.elim<|show aU P w H h a (.dT kvs) from Mv ok e
end
def pB(H:Hp)(a:Addr)(y:V)(r:Option V):Prop:=(∃kvs k,Rd H a (.dK kvs)/\y=kV k/\r=gk kvs k)\/∃kvs k b,Rd H a (.dT kvs)/\y=.ref b/\H b=some (.tup<|k.map kV)/\r=gk kvs k
def GB(H:Hp)(a:Addr)(y v:V)(H':Hp):Prop:=(∃kvs k,H a=some (.dK kvs)/\y=kV k/\kvs.length<sizeLine/\H'=upd H a (.dK<|putK kvs k v))\/∃kvs k b,H a=some (.dT kvs)/\y=.ref b/\H b=some (.tup<|k.map kV)/\kvs.length<sizeLine/\H'=upd H a (.dT<|putK kvs k v)
theorem pB.k{H:Hp}{a:Addr}{kvs:List<|Key×V}{k:Key}(e:H a=some (.dK kvs)):pB H a (kV k) (gk kvs k):=.inl {kvs,k,.inl e,rfl,rfl}
theorem GB.k{H:Hp}{a:Addr}{kvs:List<|Key×V}{k:Key}{v:V}(e:H a=some (.dK kvs))(hl:kvs.length<sizeLine):GB H a (kV k) v (upd H a<|.dK<|putK kvs k v):=.inl ⟨kvs,k,e,rfl,hl,rfl⟩
section
variable{X:Cx}{pins:List (Addr×Obj)}{σ:St}{H:Hp}{s:Shared}{a:Addr}{y v:V}{u r:Value}{o:Option V}{A:Around}{E:Value->Shared->Prop}
theorem Inv.big(I:Inv X pins σ H s):sysModules<s.heap.objs.size:=by have h:mainGlobals<s.heap.objs.size:=(I.mod.glob.keeps I.bk).lt;exact Nat.lt_trans (by decide) h
theorem El(hu:A.units+1<cLine)(I:Inv X pins σ H s)(g:pB H a y<|some v)(ry:RelV y u)(h:∀w' s',Inv X pins σ H s'->RelV v w'->Q w' s'): wpAny (model X.prog X.w) A (getItem (.ref a) u) Q E s:=by rcases g with⟨kvs,k,e,ey,l⟩|⟨kvs,k,b,e,ey,eb,l⟩;subst ey;obtain⟨z,hd,vs,rel,dd⟩:=oI I.aH e;obtain⟨w',hw,nz⟩:=gf.some_of (v:=v) (o:=valueAt vs k) (by rw[l];exact rel.val k);exact wpAny_getItem_of (kQ ry) dd.mapOf hw<|h w' _ (I.tok _) nz;subst ey;cases (show u=Value.ref b from ry);obtain⟨z,hd,xs,rel,dd⟩:=ub I.aH e;obtain⟨w',hw,nz⟩:=gf.some_of (v:=v) (o:=(atKey xs k).map (·.2)) (by rw[l];exact rel.val k);obtain⟨p,hp,lT⟩:=Option.map_eq_some_iff.mp hw;refine wpAny_getItem_heap (tupleKind_room_in1 hu) (uV I.aH eb) dd hp ?_;rw[lT];exact h w' _ (I.tok _) nz
theorem Xl(hu:A.units+1<cLine)(I:Inv X pins σ H s)(g:pB H a y o)(ry:RelV y u)(h:∀s',Inv X pins σ H s'->Q (.bool o.isSome) s'): wpAny (model X.prog X.w) A (compareOp .In u<|.ref a) Q E s:=by rcases g with⟨kvs,k,e,ey,l⟩|⟨kvs,k,b,e,ey,eb,l⟩;subst ey;obtain⟨z,hd,vs,rel,dd⟩:=oI I.aH e;refine wpAny_in_of (kQ ry) hd dd.mapOf ?_;rw[<-(rel.val k).nB,<-l];exact h _<|I.tok _;subst ey;cases (show u=Value.ref b from ry);obtain⟨z,hd,xs,rel,dd⟩:=ub I.aH e;refine wpAny_in_heap (tupleKind_room_in1 hu) (uV I.aH eb) hd dd ?_;have q:=(rel.val k).nB;rw[Option.isSome_map]at q;rw[<-q,<-l];exact h _<|I.tok _
theorem uW(I:Inv X pins σ H s)(mu:RC<|H a)(hs:Heap.SameBut a s.heap h')(he:∃q,h'.get? a=some q)(new:aU X.prog X.w (upd H a ob) h' a ob): Inv X pins σ (upd H a ob) {s with heap:=h',toks:=t'}:=I.write (x:=a) (e:=a) mu (.inl rfl) (λb q hb z=>(hs.2 b hb).trans z) he new
theorem A3(z:kvs.length<=sizeLine)(hd:(a==sysModules)=false)(rel:KV kvs vs)(dd:h'.DictOf (aG P w) a vs): aU P w H' h' a (.dK kvs):=⟨z,hd,vs,rel,dd⟩
theorem Em(hu:A.units+1<cLine)(I:Inv X pins σ H s)(g:GB H a y v H')(ry:RelV y u)(rv:RelV v r)(h:∀s',Inv X pins σ H' s'->Q () s'): wpAny (model X.prog X.w) A (setItem (.ref a) u r) Q E s:=by
 rcases g with⟨kvs,k,e,ey,l,eH⟩|⟨kvs,k,b,e,ey,eb,l,eH⟩;subst ey eH;obtain⟨z,hd,vs,rel,dd⟩:=C4 I.aH e;have hz:vs.length<=sizeLine:=by rw[<-rel.length];exact z
 have hl:(putK kvs k v).length<=sizeLine:=by have:=oH kvs k v;lia
 refine wpAny_setItem_pairs (hsz:=hz) (kQ ry) dd λh' Jz hs=>h _ ?_;have he:∃q,h'.get? a=some q:=by obtain⟨q,_,_,hq,_⟩:=Jz;exact⟨q,hq⟩
 exact uW I (by rw[e];exact True.intro) hs he<|A3 hl hd (rel.put k rv) Jz;exact False.elim<|I.aH _ _ e
end
section
variable{X:Cx}{pins:List (Addr×Obj)}{σ:St}{H:Hp}{s:Shared}{a:Addr}{kvs:List (Key×V)}{k:Key}{u:Value}{A:Around}{E:Value->Shared->Prop}
theorem Si(I:Inv X pins σ H s)(e:H a=some (.dK kvs))(ry:RelV (kV k) u)(l:gk kvs k=some v)(hm:more=[]\/∃x,more=[x]) (h:∀w' s',Inv X pins σ (upd H a<|.dK<|oG kvs k) s'->RelV v w'->Q w' s'):wpAny (model X.prog X.w) A (call (.builtin "dict.pop")<|.ref a::u::more) Q E s:=by
 obtain⟨z,hd,vs,rel,dd⟩:=C4 I.aH e;obtain⟨w',hw,nz⟩:=gf.some_of (v:=v) (o:=valueAt vs k) (by rw[<-l];exact rel.val k);have hp:(keyPart u).isSome=true:=by cases k with|inl i=>(obtain⟨t,q⟩:=(show ∃t,u=Value.int i t from ry);subst q;rfl)|inr x=>obtain⟨t,q⟩:=(show ∃t,u=Value.str x t from ry);subst q;rfl
 have ha:argsOk "dict.pop" {.ref a::u::more,[]}:=by rcases hm with q|⟨x,q⟩;subst q;exact PySem.F.args_dict_pop_2 _ _;subst q;exact PySem.F.args_dict_pop_3 _ _ _
 refine call_meetsIn PySem.F.slot_dict_pop dd.typeIs PySem.F.entry_dict_pop ha (meets_dict_pop_there (aG X.prog X.w) a (kQ ry) more hm hp) {vs,w',dd,by rw[<-rel.length];exact z,hw,λh' Jz hs=>h w' _ ?_ nz};have he:∃q,h'.get? a=some q:=by obtain⟨q,_,_,hq,_⟩:=Jz;exact⟨q,hq⟩
 exact uW I (by rw[e];exact True.intro) hs he<|A3 (zK (GA kvs k) z) hd (rel.drop k) Jz
theorem Sj(I:Inv X pins σ H s)(e:Rd H a<|.dK kvs)(h:∀t s',Inv X pins σ H s'->Q (.int kvs.length t) s'):wpAny (model X.prog X.w) A (call (.builtin "len") [.ref a]) Q E s:=by obtain⟨z,hd,vs,rel,dd⟩:=oI I.aH e;refine call_len_dict hd dd (by rw[<-rel.length];rw[zZ]at z;lia) ?_;rw[<-rel.length];exact h _ _<|I.tok _
end
theorem w_(I:Inv X pins σ H s)(g:pB H a y o):s.TypeIs (.ref a) "dict":=by rcases g with⟨kvs,k,e,_,_⟩|⟨kvs,k,b,e,_,_,_⟩;obtain⟨_,_,vs,_,dd⟩:=oI I.aH e;exact dd.typeIs;obtain⟨_,_,xs,_,dd⟩:=ub I.aH e;exact dd.typeIs
def Sk(td ty tv:TE):TS:=λD σ H=>tv σ H λv H1=>td σ H1 λx H2=>ty σ H2 λy H3=>∃a H4,x=.ref a/\GB H3 a y v H4/\D.nx σ H4
section
variable{X:Cx}{o i value:Expr}{pos pos':Pos}{td ty tv:TE}
theorem Ka(hu:X.A.units+1<cLine)(ho:PE X o td)(hi:PE X i ty)(hv:PE X value tv)(hs:swapsWith value (some<|.Subscript o i pos') pos.line X.env=pure false): PS X (.Assign [.Subscript o i pos'] value pos) (Sk td ty tv):=by intro pins s σ H D I h;refine wpAny_Assign_Subscript (bu (hv pins s σ H _ I h) λr s1 ⟨v,H1,I1,rv,q1⟩=>bu (ho pins s1 σ H1 _ I1 q1) λu s2 ⟨x,H2,I2,rx,q2⟩=>bu (hi pins s2 σ H2 _ I2 q2) λiv s3 ⟨y,H3,I3,ry,a,H4,ex,g,q3⟩=>?_) hs;subst ex;obtain rfl:u=Value.ref a:=rx;exact Em hu I3 g ry rv λs4 I4=>⟨σ,H4,I4,q3⟩
end
theorem GC(h:Heap)(hb:sysModules<h.objs.size):aU P w H (h.push {cls:=.type "dict",data:=.dict #[]}) h.objs.size (.dK []):={yh _,beq_eq_false_iff_ne.mpr<|Ne.symm<|zx hb,[],.nil,Heap.DictOf.new h}
def Ot:TE:=λ_ H Q=>∀p,H p=none->Q (.ref p) (upd H p<|.dK [])
section
variable{X:Cx}{pos:Pos}
theorem GF:PE X (.Dict [] [] pos) Ot:=λpins s σ H Q I h=>wpAny_Dict_empty {.ref s.heap.objs.size,_,I.laid (a:=s.heap.objs.size) (o:=.dK []) (t':=s.toks) (λ_ _ q=>zb _ q) (zl _)<|GC s.heap I.big,rfl,h _<|I.aH.fresh<|zl _}
end
structure M1(X:Cx)(o:Expr)(m:Str)(apos:Pos)(e:Expr)(aP:Pos):Prop where
 base:attributeBase o m X.env (eval o X.env)=eval o X.env
 FJ:((backTo aP<|starEach [e] X.env).all (λx=>!x.1)&&(backToKw aP<|keywordEach [] X.env).all (λx=>x.1.isSome)
  && decide (([e]:List Expr).length+([]:List Keyword).length+(if ([]:List Keyword).isEmpty then 0 else 1)<30))=true
 line:(apos.endLine==aP.line)=true
 trees:backTo aP (starEach [e] X.env)=[(false,eval e X.env)]
structure M2(X:Cx)(o:Expr)(m:Str)(apos:Pos)(e f:Expr)(aP:Pos):Prop where
 base:attributeBase o m X.env (eval o X.env)=eval o X.env
 FJ:((backTo aP<|starEach [e,f] X.env).all (λx=>!x.1)&&(backToKw aP<|keywordEach [] X.env).all (λx=>x.1.isSome)
  && decide (([e,f]:List Expr).length+([]:List Keyword).length+(if ([]:List Keyword).isEmpty then 0 else 1)<30))=true
 line:(apos.endLine==aP.line)=true
 trees:backTo aP (starEach [e,f] X.env)=[(false,eval e X.env),(false,eval f X.env)]
def QW(H:Hp)(a:Addr):Prop:=(∃kvs,Rd H a<|.dK kvs)\/∃kvs,Rd H a<|.dT kvs
theorem uX(I:Inv X pins σ H s)(d:QW H a): s.TypeIs (.ref a) "dict"/\(∀b,Value.ref a=.ref b->∃ob,s.heap.get? b=some ob/\ob.dict=none)/\(a==sysModules)=false:=by rcases d with⟨kvs,e⟩|⟨kvs,e⟩;obtain⟨_,hd,vs,_,dd⟩:=oI I.aH e;refine{dd.typeIs,λb q=>?_,hd};cases q;obtain⟨ob,_,_,h1,h2,_⟩:=dd;exact⟨ob,h1,h2.2.1⟩;obtain⟨_,hd,xs,_,dd⟩:=ub I.aH e;refine{dd.typeIs,λb q=>?_,hd};cases q;obtain⟨ob,_,_,h1,h2,_⟩:=dd;exact⟨ob,h1,h2.2.1⟩
section
variable{X:Cx}{pins:List (Addr×Obj)}{σ:St}{H:Hp}{s:Shared}{a:Addr}{y d:V}{u r:Value}{o:Option V}{A:Around}{E:Value->Shared->Prop}
theorem Ou(hu:A.units+1<cLine)(I:Inv X pins σ H s)(g:pB H a y o)(ry:RelV y u)(h:∀w' s',Inv X pins σ H s'->RelV (o.getD .av) w'->Q w' s'): wpAny (model X.prog X.w) A (call (.builtin "dict.get") [.ref a,u]) Q E s:=by rcases g with⟨kvs,k,e,ey,l⟩|⟨kvs,k,b,e,ey,eb,l⟩;subst ey;obtain⟨z,hd,vs,rel,dd⟩:=oI I.aH e;refine call_meetsIn yy dd.typeIs PySem.F.entry_dict_get (PySem.F.args_dict_get_2 _ _) (meets_dict_get (aG X.prog X.w) a (kQ ry) hd) {_,dd.mapOf,h _ _ (I.tok _) ?_};rw[l];exact(rel.val k).getD rfl;subst ey;cases (show u=Value.ref b from ry);obtain⟨z,hd,xs,rel,dd⟩:=ub I.aH e;refine call_meetsIn yy dd.typeIs PySem.F.entry_dict_get (PySem.F.args_dict_get_2 _ _) (meetsH_dict_get (tupleKind<|aG X.prog X.w) a b hd) {tupleKind_room_in1 hu,k,xs,uV I.aH eb,dd,h _ _ (I.tok _) ?_};rw[l];exact(rel.val k).getD rfl
theorem Ov(hu:A.units+1<cLine)(I:Inv X pins σ H s)(g:pB H a y o)(ry:RelV y u)(rd:RelV d r)(h:∀w' s',Inv X pins σ H s'->RelV (o.getD d) w'->Q w' s'): wpAny (model X.prog X.w) A (call (.builtin "dict.get") [.ref a,u,r]) Q E s:=by rcases g with⟨kvs,k,e,ey,l⟩|⟨kvs,k,b,e,ey,eb,l⟩;subst ey;obtain⟨z,hd,vs,rel,dd⟩:=oI I.aH e;refine call_meetsIn yy dd.typeIs PySem.F.entry_dict_get (PySem.F.args_dict_get_3 _ _ _) (meets_dict_get_default (aG X.prog X.w) a (kQ ry) hd r) {_,dd.mapOf,h _ _ (I.tok _) ?_};rw[l];exact(rel.val k).getD rd;subst ey;cases (show u=Value.ref b from ry);obtain⟨z,hd,xs,rel,dd⟩:=ub I.aH e;refine call_meetsIn yy dd.typeIs PySem.F.entry_dict_get (PySem.F.args_dict_get_3 _ _ _) (meetsH_dict_get_default (tupleKind<|aG X.prog X.w) a b hd r) {tupleKind_room_in1 hu,k,xs,uV I.aH eb,dd,h _ _ (I.tok _) ?_};rw[l];exact(rel.val k).getD rd
end
def Ow(td ty:TE):TE:=λσ H Q=>td σ H λx H1=>∃a,x=.ref a/\QW H1 a/\ty σ H1 λy H2=>∃o,pB H2 a y o/\Q (o.getD .av) H2
def Ox(td ty tx:TE):TE:=λσ H Q=>td σ H λx H1=>∃a,x=.ref a/\QW H1 a/\ty σ H1 λy H2=>tx σ H2 λz H3=>∃o,pB H3 a y o/\Q (o.getD z) H3
def Oy(td ty:TE):TE:=λσ H Q=>td σ H λx H1=>∃a,x=.ref a/\QW H1 a/\ty σ H1 λy H2=>∃kvs k v,H2 a=some (.dK kvs)/\y=kV k/\gk kvs k=some v/\Q v (upd H2 a<|.dK<|oG kvs k)
section
variable{X:Cx}{o e f:Expr}{apos aP:Pos}{td ty tx:TE}
theorem GG(hu:X.A.units+1<cLine)(ho:PE X o td)(he:PE X e ty)(m:M1 X o "get" apos e aP):PE X (.Call (.Attribute o "get" apos) [e] [] aP) (Ow td ty):=by intro pins s σ H Q I h;refine wpAny_Call_method m.base m.FJ m.line PySem.F.plainAttrs_dict yy PySem.F.type_dict_get<|bu (ho pins s σ H _ I h) λu s1 ⟨x,H1,I1,rx,a,ex,d,q1⟩=>?_;subst ex;obtain rfl:u=Value.ref a:=rx;obtain⟨t1,t2,_⟩:=uX I1 d;refine{t1,t2,?_};rw[m.trees];refine Calls.callWith_builtin rfl<|Calls.evalArgs_plain<|yE<|bu (he pins s1 σ H1 _ I1 q1) λiv s2 ⟨y,H2,I2,ry,ov,g,q2⟩=>Calls.spliced_nil ?_;exact Ou hu I2 g ry λw' s3 I3 nz=>{_,H2,I3,nz,q2}
theorem GH(hu:X.A.units+1<cLine)(ho:PE X o td)(he:PE X e ty)(hf:PE X f tx)(m:M2 X o "get" apos e f aP):PE X (.Call (.Attribute o "get" apos) [e,f] [] aP) (Ox td ty tx):=by intro pins s σ H Q I h;refine wpAny_Call_method m.base m.FJ m.line PySem.F.plainAttrs_dict yy PySem.F.type_dict_get<|bu (ho pins s σ H _ I h) λu s1 ⟨x,H1,I1,rx,a,ex,d,q1⟩=>?_;subst ex;obtain rfl:u=Value.ref a:=rx;obtain⟨t1,t2,_⟩:=uX I1 d;refine{t1,t2,?_};rw[m.trees];refine Calls.callWith_builtin rfl<|Calls.evalArgs_plain<|yE<|bu (he pins s1 σ H1 _ I1 q1) λiv s2 ⟨y,H2,I2,ry,q2⟩=>yE<|bu (hf pins s2 σ H2 _ I2 q2) λfv s3 ⟨z,H3,I3,rz,ov,g,q3⟩=>Calls.spliced_nil ?_;exact Ov hu I3 g ry rz λw' s4 I4 nz=>{_,H3,I4,nz,q3}
theorem GI(ho:PE X o td)(he:PE X e ty)(m:M1 X o "pop" apos e aP):PE X (.Call (.Attribute o "pop" apos) [e] [] aP) (Oy td ty):=by intro pins s σ H Q I h;refine wpAny_Call_method m.base m.FJ m.line PySem.F.plainAttrs_dict PySem.F.slot_dict_pop PySem.F.type_dict_pop<|bu (ho pins s σ H _ I h) λu s1 ⟨x,H1,I1,rx,a,ex,d,q1⟩=>?_;subst ex;obtain rfl:u=Value.ref a:=rx;obtain⟨t1,t2,_⟩:=uX I1 d;refine{t1,t2,?_};rw[m.trees];refine Calls.callWith_builtin rfl<|Calls.evalArgs_plain<|yE<|bu (he pins s1 σ H1 _ I1 q1) λiv s2 ⟨y,H2,I2,ry,kvs,k,v,ea,ey,l,q2⟩=>Calls.spliced_nil ?_;subst ey;exact Si I2 ea ry l (.inl rfl) λw' s3 I3 nz=>{v,_,I3,nz,q2}
end
end L2
namespace Att
open PySem PySem.W PySem.Calls PyProof.Rows
theorem pC{P:Params} : ∀(ns:List Int)(vs:List Value),WellAll P h vs (ns.map WData.int)->IntsAre vs ns:=by intro ns;induction ns with|nil=>(intro vs w;rw[List.map_nil]at w;cases w;exact .nil)|cons n ns ih=>intro vs w;rw[zQ]at w;cases w with|cons a b=>cases a;exact .cons _ _<|ih _ b
theorem En{l:OpenLaw}{n:Nat}(hn:l.most=some n){P:Params}{h:Heap}{args:List WData}{vals:List Value} (Kb:l.row.toRowW.claim.pre args=true) (Xm:WellAll P h vals args): ∃a vs ns,vals=[Value.ref a]/\args=[WData.list<|ns.map WData.int]/\h.get? a=some {cls:=.type "list",data:=.seq vs.toArray}/\IntsAre vs ns/\ns.length<=n:=by
 have hsh:WShape.hasAll [] args [.list .int]=true:=(pre_splitW Kb).1;have hc:l.pre.holds [] {args:=args}=true:=(pre_splitW Kb).2;obtain⟨d,r,rfl,h1,h2⟩:=hasAllW_cons hsh;obtain rfl:=hasAllW_nil h2;obtain⟨xs,rfl,h3⟩:=hasW_list h1;obtain⟨ns,rfl⟩:=items_int h3;have hlen:ns.length<=n:=by unfold OpenLaw.pre at hc;have h4:(WTm.not<|.lt (.lit<|.int (n:Int))<|.len<|.arg 0).holds [] {args:=[.list<|ns.map .int]}=true:=(by have h4:=(holds_andW hc).1;rw[hn]at h4;exact h4);have h5:=condW_of h4<|w_not<|w_lt w_lit<|w_len_list<|w_arg rfl;rw[zc]at h5;refine Nat.le_of_not_lt λq=>?_;have q':(n:Int)<((ns.length:Nat):Int):=(by lia);first| (rw[zA q']at h5;exact absurd h5<|by decide)| (simp at h5;lia)
 cases Xm with|cons w1 w2=>cases w2;cases w1 with|list ho Xn=>exact{_,_,ns,rfl,rfl,ho,pC ns _ Xn,hlen}
theorem Eo(l:OpenLaw)(args:List WData):l.row.toRowW.claim.post args (.bool true) args=true:=postW_of (r:=l.row.toRowW) (X:=(true==true)) (show WShape.has [] (.bool true) .bool=true by first|rfl|decide|simp[WShape.has,WShape.arms,WShape.armsAll]) (show(WTm.eq .res<|.lit<|.bool true).value [] {args:=args,res:=some<|.bool true,after:=args}=some (.bool<|true==true) from w_eq_bool (w_res rfl) w_lit) rfl
theorem xb{l:OpenLaw}{n:Nat}{q:Program}{loose:List Str}{XP:(Str->Option Value)->Heap->Prop}{YP:World->Heap->Prop}{d:DefRec} (hn:l.most=some n) (Xo:d.params.defaults=[]) (call:∀(w:World)(dr aT:Shared)(mg mb:Str->Option Value)(fa:Addr)(o:Obj)(pm cd doc:Value)(a:Addr)(vs:List Value)(ns:List Int),Ground q loose [] XP w dr mg mb aT.heap->YP w aT.heap->aT.heap.get? fa=some o->o.data=.func (docDef d.name d.params d.body d.scope pm cd doc)->aT.heap.CodeRec cd d.name->mg d.name=some (.ref fa)->aT.heap.get? a=some {cls:=.type "list",data:=.seq vs.toArray}->IntsAre vs ns->ns.length<=n->aT.gens=#[]->codeAny (model l.prog w) callerA (.call (.ref fa) {[.ref a],[]}) (λr s'=>r=.ok (.ret<|.bool true)/\OldK aT.heap s'.heap/\s'.os=aT.os/\AllBare s'.gens) aT): WalkO q loose XP YP l.row.toRowW d [] (λf vs=>PySem.call f vs):=by intro w dr aT mg mb G Y fa o pm cd doc dV kV ho hd pW hD Oz hg args vals as Kb abZ hrd Xm Xp;obtain rfl:dV=.none:=Dflts.none hD Xo;obtain rfl:kV=.none:=Dflts.noKw hD;obtain⟨a,vs,ns,rfl,rfl,OA,hints,hlen⟩:=En hn Kb Xm;refine enter_call<|yO (call w dr aT mg mb fa o pm cd doc a vs ns G Y ho (fd_plain hd) pW Oz OA hints hlen hg) λr s' hq=>?_;obtain⟨rfl,h2,h3,h4⟩:=hq;exact{.inl {.bool true,.bool true,[],rfl,λ_=>rfl,.bool true,Eo l _,λ_=>{List.Pairwise.nil,λ_ hm=>(nomatch hm)}},h2,h3,h4}
end Att
namespace L2
open PySem PySem.Spec PyProof.Rows
theorem ud:∀{vs:List Value}{ns:List Int},IntsAre vs ns->Vals (ns.map V.int) vs|_,_,.nil=>.nil|_,_,.cons n t h=>.cons ⟨t,rfl⟩<|ud h
def inClass(s:Stmt)(j:Nat):Stmt:=match s with|.ClassDef _ _ _ body _ _ _ _ _ _ _=>body.getD j (.Pass {0,0,0,0})|_=>.Pass {0,0,0,0}
def bw(s:Stmt):Arguments:=match s with|.FunctionDef _ a _ _ _ _ _ _ _ _=>a|_=>{posonlyargs:=[],args:=[],vararg:=none,kwonlyargs:=[],kw_defaults:=[],kwarg:=none,defaults:=[]}
def aV(s:Stmt):List Stmt:=match s with|.FunctionDef _ _ b _ _ _ _ _ _ _=>b|_=>[]
def ae(s:Stmt):Scope:=match s with|.FunctionDef _ _ _ _ _ _ sc _ _ _=>sc|_=>{kind:=.function,names:=[],isGenerator:=false,isCoroutine:=false}
abbrev VW:AW:=λ_ _ _ _ _ _=>False
abbrev E0:XK:=λ_ _ _=>False
structure Fun(K:Frag)(x qual:Str)(st:Stmt)(f:Addr)(fd:FuncData):Prop where
 ex:∃(oc:Value)(od:Option Addr)(kV doc pm:Value)(an:Option Addr)(eV ct:Value)(Mt:Array (Option Value)),
  fd=fnOf x qual (bw st) (aV st) (ae st) .none kV doc pm an eV ct/\K.lookup f=some {oc,od,.func fd,Mt}/\codeIn K eV qual=true
 kp:keepIn K (.ref f)=true
theorem gW(h:n<=1000):n<sizeLine:=Nat.lt_of_le_of_lt h<|by decide
section
variable{X:Cx}
theorem Ep:dw X (.builtin "len") (λxs H Q=>∃a kvs,xs=[V.ref a]/\H a=some (.dK kvs)/\Q (.int kvs.length) H):=by intro pins s σ H xs us Q I r h;obtain⟨a,kvs,rfl,ha,q⟩:=h;obtain⟨u,rfl,ru⟩:=vals1 r;cases ru;exact Sj I (.inl ha) λt s' I'=>{.int kvs.length,H,I',⟨t,rfl⟩,q}
end
theorem bY{A B:Prop}(h:B):if false=true then A else B:=by rw[if_neg zd];exact h
theorem bU{A B:Prop}(h:A):if true=true then A else B:=by rw[if_pos rfl];exact h
section
variable{κ:Type}[DecidableEq κ]
theorem l_:∀{l:List κ}{k:κ},l.Nodup->¬k∈l->(l++[k]).Nodup|[],k,_,_=>by simp|a::r,k,h,hk=>by obtain⟨h1,h2⟩:=yt.mp h;show(a::(r++[k])).Nodup;refine yt.mpr {λm=>?_,l_ h2 λm=>hk<|zg.mpr<|Or.inr m};rcases zO.mp m with q|q;exact h1 q;exact hk<|zg.mpr<|Or.inl (zr.mp q).symm
end
end L2
set_option maxHeartbeats 4000000
namespace L2
open PySem PySem.Spec PyProof.Rows
section
variable{X:Cx}
noncomputable def FK(i j:Str):Bool:=!decide (j.cps.toList<i.cps.toList)
noncomputable def Xq(i j:Str):Bool:=decide<|i.cps.toList<j.cps.toList
def Xr(g:Str->Str->Bool):R2:=λx y H Q=>∃i j,x=.str i/\y=.str j/\Q (.bl<|g i j) H
theorem Er:gR X (compareOp .LtE) (Xr FK):=by intro pins s σ H x y v u Q I rx ry h;obtain⟨i,j,rfl,rfl,q⟩:=h;obtain⟨t,rfl⟩:=rx;obtain⟨t',rfl⟩:=ry;exact P.le_str<|aK I q rfl
theorem Es:gR X (compareOp .GtE) (Xr λi j=>FK j i):=by intro pins s σ H x y v u Q I rx ry h;obtain⟨i,j,rfl,rfl,q⟩:=h;obtain⟨t,rfl⟩:=rx;obtain⟨t',rfl⟩:=ry;exact P.ge_str<|aK I q rfl
theorem Et:gR X (compareOp .Gt) (Xr λi j=>Xq j i):=by intro pins s σ H x y v u Q I rx ry h;obtain⟨i,j,rfl,rfl,q⟩:=h;obtain⟨t,rfl⟩:=rx;obtain⟨t',rfl⟩:=ry;exact P.gt_str<|aK I q rfl
def GJ(_ j:Int):Prop:=0<j/\j.natAbs.log2<9000
theorem GK:gR X (binaryOp .FloorDiv) (rI GJ λi j=>.int<|i/j):=VQ λi j _ _ _ _ _ hc q=>by
 have hj:j≠0:=by have:=hc.1;omega
 exact floordiv_int hj (by rw[Int.fdiv_eq_ediv_of_nonneg _<|by have:=hc.1;omega];exact q)<|.inl<|PyProof.noPylong_of_log2 hc.2
end
noncomputable def Xs(x:Str):It:={λi _=>i<x.cps.size,λi H v H'=>H'=H/\∃c,x.cps[i]?=some c/\v=.str ⟨#[c]⟩,λi _=>x.cps.size<=i}
theorem xf{P:Program}{w:World}{K:Frag}{tg:Expr}{T:String}(hT:["enumerate","zip","dict_itemiterator","dict_reverseitemiterator","odict_iterator","itertools.zip_longest","itertools.pairwise"].contains T=false)(it:Addr)(x:Str)(t:Tok)
  (W:∀A':Around,A'.handled=none->Walks P w A' it [it] [it] x.cps.size (SignAt x) (λi h=>h.IsStrIter it T x t i))
  (Xt:∀(A:Around)(s:Shared)(E:Value->Shared->Prop)(i:Nat)(Q:Option Value->Shared->Prop),A.handled=none->s.heap.IsStrIter it T x t i->x.cps[i]?=none->(∀h',Heap.ExtBut it s.heap h'->Q none {s with heap:=h'})->wpAny (model P w) A (pyNext<|.ref it) Q E s)
  (Sl:∀(A:Around)(s:Shared)(E:Value->Shared->Prop)(i:Nat)(Q:Value->Shared->Prop),s.heap.IsStrIter it T x t i->Q (.ref it) s->wpAny (model P w) A (pyIter<|.ref it) Q E s):
  Turn P w K tg (Xs x) [it] it (λi h=>h.IsStrIter it T x t i) where
 mem:=by simp
 obj:=λi h st b hb=>by
  have e:b=it:=by simpa using hb
  subst e
  obtain⟨o,e,c,d⟩:=st
  exact{o,e,λv z=>by rw[d]at z;cases z}
 keep:=λi h h' st k=>by
  obtain⟨o,e,c,d⟩:=st
  exact{o,k it (by simp) o e,c,d}
 item:=by
  intro X hP hw hK hc i pins s σ H E I hf st hg
  subst hP hw hK
  obtain⟨f0,f1,f2,f3,f4,f5⟩:=hf it<|by simp
  refine(W X.A<|I.ok.hd hc).item i s _ _ hg st λv h' tk hv fb kk=>?_
  obtain⟨c,u,Kc,rfl⟩:=hv
  have I1:Inv X pins σ H {s with heap:=h',toks:=tk}:=I.turned (λb o hb e=>kk b o (by simpa using hb) e) f0 f1 f3 f4 f5
  obtain⟨o,e,c',d⟩:=id fb
  exact{_,rfl,tW (s:={s with heap:=h',toks:=tk}) e c' d hT {.str ⟨#[c]⟩,H,I1,⟨u,rfl⟩,⟨rfl,c,Kc,rfl⟩,fb,λb hb=>(hf b hb).1}}
 done:=by
  intro X hP hw hK hc i pins s σ H E I hf st hg
  subst hP hw hK
  obtain⟨f0,f1,f2,f3,f4,f5⟩:=hf it<|by simp
  have hg:x.cps.size<=i:=hg
  exact Xt X.A s E i _ (I.ok.hd hc) st (by simp;exact hg) λh' eb=>{rfl,I.turned (t':=s.toks) (λb o hb e=>eb b o hb e) f0 f1 f3 f4 f5}
 self:=λA' i s Q E st h=>Sl A' s E i Q st h
section
variable{X:Cx}{tg:Expr}
def Xu(tl:TE):TI:=λσ H R=>tl σ H λx H1=>∃z,x=.str z/\R (Xs z) H1
theorem OB(hl:PE X l tl):PI X tg l (Xu tl):=by
 intro pins s σ H R I h;refine bu (hl pins s σ H _ I h) λv s1 ⟨x,H1,I1,r1,q1⟩=>?_;obtain⟨z,e,q⟩:=q1;subst e;obtain⟨t,rfl⟩:=r1;have fin:∀(T:String)(_:Turn X.prog X.w X.K tg (Xs z) [s1.heap.objs.size] s1.heap.objs.size (λi h=>h.IsStrIter s1.heap.objs.size T z t i)),WT X pins σ tg R (.ref s1.heap.objs.size) {s1 with heap:=s1.heap.push {cls:=.type T,data:=.fields #[.str z t,.int 0 0]}}:=λT tn=>by refine{s1.heap.objs.size,[s1.heap.objs.size],_,_,H1,rfl,I1.kept (t':=s1.toks) λb o e=>zb _ e,tn,{_,zi _ rfl,rfl,rfl},λb hb=>?_,q};have e:b=s1.heap.objs.size:=(by simpa using hb);subst e;exact I1.pA (zl _)<|I1.aH.fresh<|zl _
 cases ha:z.cps.all (·<128);exact wpAny_pyIter_wide ha<|fin _<|xf (by decide) _ z t (λA' hA=>Walks.strWide hA _ z t) (λA s E i Q hh st hx hQ=>wpAny_pyNext_wide_end hh st hx hQ) λA s E i Q st hq=>wpAny_pyIter_striter_wide st hq;exact wpAny_pyIter_ascii ha<|fin _<|xf (by decide) _ z t (λA' hA=>Walks.strAscii hA _ z t) (λA s E i Q hh st hx hQ=>wpAny_pyNext_ascii_end hh st hx hQ) λA s E i Q st hq=>wpAny_pyIter_striter_ascii st hq
end
noncomputable def clOf(cells:List<|Str×Addr)(names:List<|Str×NameKind):List (Str×Addr):=names.foldl (λcs p=>if p.2==.free then match cells.lookup p.1 with|some a=>(p.1,a)::cs|none=>cs else cs) []
theorem qE(cells:List<|Str×Addr):∀(names:List (Str×NameKind))(cs:List (Str×Addr)),(∀x c,cs.lookup x=some c->cells.lookup x=some c)->∀x c,(names.foldl (λcs p=>if p.2==.free then match cells.lookup p.1 with|some a=>(p.1,a)::cs|none=>cs else cs) cs).lookup x=some c->cells.lookup x=some c|[],cs,h=>h| (n,k)::r,cs,h=>by rw[yI];refine qE cells r _ λx c e=>?_;dsimp only at e;split at e;split at e;rename_i a ha;rw[zP]at e;split at e;rename_i hx;have:=LawfulBEq.eq_of_beq hx;cases e;rw[this];exact ha;exact h x c e;exact h x c e;exact h x c e
theorem ue(cells:List<|Str×Addr):∀(names:List (Str×NameKind))(cs:List (Str×Addr))(x:Str)(c:Addr),(∀y c,cs.lookup y=some c->cells.lookup y=some c)->cs.lookup x=some c->(names.foldl (λcs p=>if p.2==.free then match cells.lookup p.1 with|some a=>(p.1,a)::cs|none=>cs else cs) cs).lookup x=some c
 |[],cs,x,c,_,h=>h
 | (n,k)::r,cs,x,c,hs,h=>by
  rw[yI];have VX:∀y c,(if (k==NameKind.free)=true then match cells.lookup n with|some a=>(n,a)::cs|none=>cs else cs).lookup y=some c->cells.lookup y=some c:=by intro y c e;split at e;split at e;rename_i a ha;rw[zP]at e;split at e;rename_i hx;have:=LawfulBEq.eq_of_beq hx;cases e;rw[this];exact ha;exact hs y c e;exact hs y c e;exact hs y c e
  refine ue cells r _ x c VX ?_;dsimp only;split;split;rename_i a ha;rw[zP];split;rename_i hx;have:=LawfulBEq.eq_of_beq hx;rw[this]at h;have:=hs _ _ h;rw[ha]at this;exact this;exact h;exact h;exact h
theorem jm(cells:List<|Str×Addr):∀(names:List (Str×NameKind))(cs:List (Str×Addr))(x:Str)(c:Addr),(∀y c,cs.lookup y=some c->cells.lookup y=some c)->(x,NameKind.free)∈names->cells.lookup x=some c->(names.foldl (λcs p=>if p.2==.free then match cells.lookup p.1 with|some a=>(p.1,a)::cs|none=>cs else cs) cs).lookup x=some c
 |[],cs,x,c,_,h,_=>nomatch h
 | (n,k)::r,cs,x,c,hs,h,hc=>by
  rw[yI];have VX:∀y c,(if (k==NameKind.free)=true then match cells.lookup n with|some a=>(n,a)::cs|none=>cs else cs).lookup y=some c->cells.lookup y=some c:=by intro y c e;split at e;split at e;rename_i a ha;rw[zP]at e;split at e;rename_i hx;have:=LawfulBEq.eq_of_beq hx;cases e;rw[this];exact ha;exact hs y c e;exact hs y c e;exact hs y c e
  rcases zg.mp h with e|h;cases e;refine ue cells r _ _ c VX ?_;dsimp only;rw[if_pos<|show(NameKind.free==NameKind.free)=true by decide,hc];simp[zP];exact jm cells r _ x c VX h hc
theorem gG{scope:Scope}{env:Env}(h:∀x∈scope.names,x.2=.free->∃c,env.cells.lookup x.1=some c):closureFor scope env=pure (clOf env.cells scope.names):=by
 have go:∀(names:List (Str×NameKind))(cs:List (Str×Addr)),(∀x∈names,x.2=.free->∃c,env.cells.lookup x.1=some c)->(forIn names cs λx r=>match x with|(name,kind)=>if (kind==NameKind.free)=true then do let a <-cellOf env name;pure (ForInStep.yield<|(name,a)::r) else pure (ForInStep.yield r):Sem (List<|Str×Addr))=pure (names.foldl (λcs p=>if p.2==.free then match env.cells.lookup p.1 with|some a=>(p.1,a)::cs|none=>cs else cs) cs):=by intro names;induction names with|nil=>intro cs _;rfl|cons p r ih=>intro cs hp;obtain⟨n,k⟩:=p;rw[List.forIn_cons,yI];by_cases hk:k=.free;subst hk;obtain⟨c,hc⟩:=hp _ zy rfl;have hc:env.cells.lookup n=some c:=hc;have e1:cellOf env n=pure c:=(by unfold cellOf;rw[hc]);have ef:(NameKind.free==NameKind.free)=true:=(by decide);dsimp only;rw[if_pos ef,if_pos ef,e1,hc];exact ih _ λx hx=>hp x<|zj _ hx;have OC:(k==NameKind.free)=false:=(by simpa using hk);dsimp only;rw[OC,if_neg zd,if_neg zd];exact ih _ λx hx=>hp x<|zj _ hx
 have e:=go scope.names [] h;have e2:closureFor scope env=(forIn scope.names [] (λx r=>match x with|(name,kind)=>if (kind==NameKind.free)=true then do let a <-cellOf env name;pure (ForInStep.yield<|(name,a)::r) else pure (ForInStep.yield r)):Sem (List<|Str×Addr)) >>=λcs=>pure cs:=rfl;rw[e2,e];rfl
theorem jn{env:Env}{names:List<|Str×NameKind}{x:Str} : (names.map λ(n,k)=>if (k==NameKind.free&&env.scope.kind==.function&&env.kindOf n==some .cell) then (n,NameKind.cell) else (n,k)).lookup x=(names.lookup x).map λk=>if (k==NameKind.free&&env.scope.kind==.function&&env.kindOf x==some .cell) then NameKind.cell else k:=by induction names with|nil=>rfl|cons p r ih=>obtain⟨n,k⟩:=p;rw[zQ,zP];by_cases hc:(k==NameKind.free&&env.scope.kind==.function&&env.kindOf n==some .cell)=true;dsimp only;rw[if_pos hc,zP];(cases hx:x==n with|true=>have:=LawfulBEq.eq_of_beq hx;subst this;dsimp only[Option.map];rw[if_pos hc]|false=>exact ih);dsimp only;rw[if_neg hc,zP];cases hx:x==n with|true=>have:=LawfulBEq.eq_of_beq hx;subst this;dsimp only[Option.map];rw[if_neg hc]|false=>exact ih
noncomputable def iW(X:Cx)(N:List Str)(scope:Scope)(C:Addr)(s:Shared)(H:Hp)(ex:List Addr)(pn:List<|Addr×Obj):Cx:={X with N:=N,dr:=s,uO:=H,env:=compEnvC scope (clOf X.env.cells scope.names) C X.env,outer:=X.stack,ex:=ex,fn:=λ_=>false,pn:=pn,xe:=λ_ _=>False}
noncomputable def pick(σ:St)(src:List<|Option Nat):St:=src.map λo=>match o with|some j=>(σ[j]?).join|none=>none
structure bI(X:Cx)(N:List Str)(src:List (Option Nat))(scope:Scope):Prop where
 kind:scope.kind=.function
 gH:∀y∈scope.names,y.2≠.cell
 loc:∀y∈scope.names,y.2=.local->scope.names.lookup y.1=some .local
 Ay:∀y∈scope.names,y.2=.free->X.env.kindOf y.1=some .cell\/X.env.kindOf y.1=some .free
 len:src.length=N.length
 src:∀(i j:Nat)(x:Str),src[i]?=some (some j)->N[i]?=some x->X.N[j]?=some x/\scope.names.lookup x=some .free/\Nz X.env.scope x
def Ext(σ aq:St):Prop:=aq.length=σ.length/\∀(j:Nat) v,σ[j]?=some (some v)->aq[j]?=some (some v)
def A4(g:TG)(src:List<|Option Nat):Prop:=∀x σ H Q,g x (pick σ src) H Q->g x (pick σ src) H λaq H'=>Ext (pick σ src) aq/\Q aq H'
def GL(wi:TI)(src:List<|Option Nat)(g:TG)(tc:TT)(te:TE):TE:=λσ H Q=>wi σ H λJ H1=>∃W:Nat->Nat->List V->Hp->Prop,(∃m,W 0 m [] H1)/\∀i m out H',W i m out H'->(J.stop i H'/\∀D,H' D=none->Q (.ref D) (upd H' D<|.lst out))\/(J.go i H'/\out.length<sizeLine/\∀x H2,J.RP i H' x H2->g x (pick σ src) H2 λir H3=>tc ir H3 λb H4=>if b=true then te ir H4 λv H5=>∃m',m'<m/\W (i+1) m' (out++[v]) H5 else ∃m',m'<m/\W (i+1) m' out H4)
section
variable{X:Cx}{N:List Str}{src:List (Option Nat)}{scope:Scope}{tg iter elt:Expr}{ifs:List Expr}{pos:Pos}{wi:TI}{g:TG}{tc:TT}{te:TE}
def QX(X:Cx)(ifs:List Expr)(t:TT):Prop:=∀(pins:List (Addr×Obj))(s:Shared)(σ:St)(H:Hp)(Q:Bool->Hp->Prop),Inv X pins σ H s->t σ H Q->wpAny (model X.prog X.w) X.A (forIn ifs true λc r=>if r=true then do let ok <-isTrue c X.env (eval c X.env);pure (ForInStep.yield ok) else pure (ForInStep.yield r)) (TP X pins σ Q) X.xe s
def Sm:TT:=λ_ H Q=>Q true H
theorem Ke:QX X [] Sm:=λpins s σ H Q I h=>wpAny_tests_nil ⟨H,I,h⟩
theorem Kf{t:TT}(h:PT X c t):QX X [c] t:=λpins s σ H Q I hw=>wpAny_tests_one<|h pins s σ H Q I hw
theorem kD(QY:∀x s',EE x s'->notedBy (model prog w) A env (λe s'=>R (.error e) s') x s')(I:Nat->Shared->Prop)
  (turn:∀n s,I n s->wpAny (model prog w) A (pyNext it) (λr aT=>match r with
   |none=>R (.ok .next) aT
   |some v=>wpAny (model prog w) A (letOwnedTupleGo target it v) (λ_ Mw=>wpAny (model prog w) A (assign target env v) (λ_ bT =>
     wpAny (model prog w) A (forIn ifs true λc r=>if r=true then do let ok <-isTrue c env (eval c env);pure (ForInStep.yield ok) else pure (ForInStep.yield r)) (λok AK =>
      if ok=true then wpAny (model prog w) A (eval elt env) (λx xg =>
       wpAny (model prog w) A (call (.builtin "list.append") [acc,x]) (λ_ Sn=>∃m,m<n/\I m Sn) EE xg) EE AK
      else ∃m,m<n/\I m AK) EE bT) EE Mw) EE aT) EE s)
  (n:Nat) (h:I n s):
  codeAny (model prog w) A (.compLoop (.ListComp elt [{target,iter,ifs,0}] scope pos) 0 it acc env) R s:=by
 refine codeAny_loop rfl I (λn s hI=>?_) n h
 show wpAny _ A ((compTurn (.ListComp elt [{target,iter,ifs,0}] scope pos) 0 it acc env).onRaise λx=>do noteFrame x env;theTreesLotGoes x) _ _ s
 refine wpAny_noted ?_
 rw[compTurn_list]
 refine za<|wpAny_standAt<|za<|yq (turn n s hI) (λr aT h₁=>?_) QY
 cases r with
 |none=>exact zf h₁
 |some v =>
  refine za<|yq h₁ (λ_ Mw So=>?_) QY
  refine za<|yq So (λ_ bT Xv=>za<|yq Xv (λok AK Sr=>?_) QY) QY
  cases ok with
  |false=>exact zf ⟨rfl,Sr⟩
  |true =>
   exact za<|za<|yq Sr (λx xg Xw=>za<|yq Xw (λ_ Sn Xx=>zf<|zf ⟨rfl,Xx⟩) QY) QY
def CompEnd(X:Cx)(pins:List<|Addr×Obj)(σ:St)(Q:VK)(D C:Addr)(s':Shared):Prop:=∃H' m,Inv X pins σ H' s'/\Q (.ref D) H'/\s'.heap.Ns C m/\H' C=none/\C≠X.env.locals/\X.dr.heap.objs.size<=C/\(∀x c,X.env.cells.lookup x=some c->c≠C)/\(∀p∈X.pn++pins,p.1≠C)
theorem uf{pins:List<|Addr×Obj}{bT:Shared}{σ:St}{jc:Hp}{Q:VK}{it:Addr}{fp:List Addr}{tn:Nat->Heap->Prop}{J:It}{E:Value->Shared->Prop}(S:bI X N src scope)(hc:X.calm=true) (hg:∀C s H ex pn,PG (iW X N scope C s H ex pn) tg g) (hx:A4 g src) (hi:∀C s H ex pn,QX (iW X N scope C s H ex pn) ifs tc) (he:∀C s H ex pn,PE (iW X N scope C s H ex pn) elt te) (I:Inv X pins σ jc bT) (T:Turn X.prog X.w X.K tg J fp it tn) (st:tn 0 bT.heap) (ff:∀b∈fp,sO X pins jc b) (W:Nat->Nat->List V->Hp->Prop) (w0:∃m,W 0 m [] jc) (turn:∀i m out H',W i m out H'->(J.stop i H'/\∀D,H' D=none->Q (.ref D) (upd H' D<|.lst out))\/(J.go i H'/\out.length<sizeLine/\∀x H2,J.RP i H' x H2->g x (pick σ src) H2 λir H3=>tc ir H3 λb H4=>if b=true then te ir H4 λv H5=>∃m',m'<m/\W (i+1) m' (out++[v]) H5 else ∃m',m'<m/\W (i+1) m' out H4)) {RR:Value->Addr->Result->Shared->Prop} (hRR:∀D C s',CompEnd X pins σ Q D C s'->RR (.ref D) C (.ok .next) s'): wpAny (model X.prog X.w) X.A (newList []) (λacc AK=>wpAny (model X.prog X.w) X.A (newFunctionEnv scope X.env.globals (clOf X.env.cells scope.names) [] X.env.qual none .none<|some X.env) (λSs xg=>codeAny (model X.prog X.w) X.A (.compStart (.ListComp elt [{tg,iter,ifs,0}] scope pos) 0 (.ref it) acc {Ss with scope:=relabel scope X.env}) (RR acc Ss.locals) xg) E AK) E bT:=by
 refine ym<|wpAny_newFunctionEnv S.gH (by intro y hy;simp at hy) (λh₁ uY qF=>?_) S.kind;dsimp only at uY qF⊢;generalize Xy:bT.heap.push {cls:=.type "list",dict:=none,data:=.seq ([]:List Value).toArray}=G2 at uY qF⊢;have hC:G2.objs.size=bT.heap.objs.size+1:=by rw[<-Xy,yd]
 have QZ:bT.heap.objs.size≠G2.objs.size:=by rw[hC];exact zx<|Nat.lt_succ_self _
 have Kg:bT.heap.objs.size<=G2.objs.size:=by rw[hC];exact yU _
 have old:∀b o,bT.heap.get? b=some o->h₁.get? b=some o:=λb o e=>qF.extBut b o (zx<|zm (zq e) Kg)<|zb _<|Xy ▸ zb _ e;have qG:h₁.get? bT.heap.objs.size=some {cls:=.type "list",dict:=none,data:=.seq ([]:List Value).toArray}:=qF.extBut _ _ QZ<|zb _<|Xy ▸ zi _ rfl;generalize hCC:G2.objs.size=C at hC QZ Kg uY qF⊢;have ma:bT.heap.objs.size<=C:=Kg;generalize hD:bT.heap.objs.size=D at hC QZ Kg qG⊢;have iX:∀x c,(clOf X.env.cells scope.names).lookup x=some c->X.env.cells.lookup x=some c:=qE X.env.cells scope.names [] (by intro x c h;simp at h);have GN:∀x c,X.env.cells.lookup x=some c->c<bT.heap.objs.size:=λx c e=>by obtain⟨v,q⟩:=I.cell x c e;exact q.lt
 have OD:∀b∈fp,b<bT.heap.objs.size:=λb hb=>by obtain⟨o,e,_⟩:=T.obj _ _ st b hb;exact zq e
 have ok:(iW X N scope C bT jc fp<|X.pn++pins).Ok:=by refine{I.ok.mod,S.kind,I.ok.glob,I.ok.blt,ma,λx y c h1 h2=>I.ok.inj x y c (iX _ _ h1)<|iX _ _ h2,λx hk=>?_,λx c h=>(nomatch h),I.ok.hd,I.ok.frames,.inl rfl,λb hb=>{?_,λx c h=>?_},I.bs,zK I.ok.AG I.sz,λb o e hb=>?_,λb hb hf=>?_,I.stack,I.pV};have hk:(relabel scope X.env).names.lookup x=some .cell\/(relabel scope X.env).names.lookup x=some .free:=hk;unfold relabel at hk;dsimp only at hk;rw[jn]at hk;(cases hl:scope.names.lookup x with|none=>(rw[hl]at hk;rcases hk with z|z<;>cases z)|some k=>rw[hl]at hk;have hm:=yj hl;have Su:k=.free:=(by by_cases Su:k=.free;exact Su;exfalso;have e1:(k==NameKind.free)=false:=(by simpa using Su);simp only[Option.map,e1,zW,Bool.false_eq_true,if_false]at hk;rcases hk with z|z;exact S.gH _ hm<|zV z;exact Su<|zV z);subst Su;obtain⟨c,Kc⟩:=I.ok.has x<|S.Ay _ hm rfl;exact{c,jm X.env.cells scope.names [] x c (by intro x c h;simp at h) hm Kc});exact zx<|zm (OD b hb) ma;exact(ff b hb).2.2.2.2.1 x c<|iX _ _ h;have q:b∈X.ex\/X.dr.heap.objs.size<=b:=(ff b hb).2.2.2.1;rcases q with q|q;exact I.ok.wY b o e q;exact absurd (zm (zq e)<|zK I.ok.AG q)<|yC _;rcases zg.mp (I.nq b hf) with z|z;exact(ff b hb).2.1 z;exact(ff b hb).2.2.1 z
 have Sv:∀p∈X.pn++pins,p.1∉lq X.stack:=λp hp z=>by obtain⟨_,_,ne,nf,_⟩:=I.pin p hp;rcases zg.mp (I.nq _ z) with q|q;exact ne q;exact nf q
 have GO:∀p∈X.pn++pins,p.1<bT.heap.objs.size:=λp hp=>zq (I.pin p hp).1;have Sw:∀b∈lq X.stack,b<bT.heap.objs.size:=λb hb=>by rcases zg.mp (I.nq b hb) with z|z;rw[z];exact I.lt;obtain⟨_,o,ho,_⟩:=I.ok.ja.mem z;exact zm (zq ho) I.sz
 have Xz:∀(i:Nat)(x:Str)(v:V),N[i]?=some x->(pick σ src)[i]?=some (some v)->∃u c,RelV v u/\(clOf X.env.cells scope.names).lookup x=some c/\bT.heap.IsCell c (some u)/\scope.names.lookup x=some .free:=λi x v e1 e2=>by unfold pick at e2;rw[zu]at e2;cases es:src[i]? with|none=>(rw[es]at e2;cases e2)|some o=>rw[es]at e2;cases o with|none=>(cases e2)|some j=>have e3:(σ[j]?).join=some v:=zV e2;have e4:σ[j]?=some (some v):=(by cases q:σ[j]? with|none=>(rw[q]at e3;cases e3)|some z=>rw[q]at e3;exact congrArg some e3);obtain⟨a1,a2,a3⟩:=S.src i j x es e1;obtain⟨m0,_,hl⟩:=I.loc;obtain⟨u,r,l⟩:=hl j x v a1 e4 a3;have hm:=yj a2;have hk:=S.Ay _ hm rfl;rcases l with⟨k,_⟩|⟨_,c,Kc,z⟩;rcases hk with hk|hk<;>(rw[k]at hk;cases hk);exact{u,c,r,jm X.env.cells scope.names [] x c (by intro x c h;simp at h) hm Kc,z,a2}
 have kinds:∀x,scope.names.lookup x=some .free->(compEnvC scope (clOf X.env.cells scope.names) C X.env).kindOf x=some .cell\/(compEnvC scope (clOf X.env.cells scope.names) C X.env).kindOf x=some .free:=λx hx=>by show(relabel scope X.env).names.lookup x=some .cell\/(relabel scope X.env).names.lookup x=some .free;unfold relabel;dsimp only;rw[jn,hx];dsimp only[Option.map];split;exact .inl rfl;exact .inr rfl
 have Ic:Inv (iW X N scope C bT jc fp<|X.pn++pins) [] (pick σ src) jc {bT with heap:=h₁,toks:=bT.toks+([]:List (Str×Value)).length}:=by refine{ok,rfl,I.bare,Un.kept old,{_,uY,λi x v e1 e2 e3=>?_},λx c e=>?_,I.aH.fresh ma,λx c e=>I.du x c<|iX x c e,λp hp=>?_,I.aH.kept old,?_};obtain⟨u,c,r,e5,⟨o,ho,hd⟩,hf⟩:=Xz i x v e1 e2;exact{u,r,.inr {kinds x hf,c,e5,{o,old _ _ ho,hd}}};obtain⟨v,o,ho,hd⟩:=I.cell x c<|iX x c e;exact{v,o,old _ _ ho,hd};have hp:p∈X.pn++pins:=(by simpa [iW]using hp);obtain⟨e,n,_,_,d⟩:=I.pin p hp;exact{old _ _ e,n,zx<|zm (GO p hp) ma,Sv p hp,d};show(pick σ src).length=N.length;unfold pick;rw[zc,S.len]
 have xh:bT.heap.objs.size<=D:=Nat.le_of_eq hD;have OE:D∉lq X.stack:=λz=>absurd (zm (Sw D z) xh)<|yC _;have Mx:D∉fp:=λz=>absurd (zm (OD D z) xh)<|yC _;have pA:∀{pl:List (Addr×Obj)}{H':Hp},(∀b∈fp,H' b=none)->(∀p∈pl,p.1∉fp)->∀b∈fp,sO (iW X N scope C bT jc fp<|X.pn++pins) pl H' b:=λ{pl H'} hn eE b hb=>by obtain⟨f0,f1,f2,f3,f4,f5⟩:=ff b hb;refine{hn b hb,zx<|zm (OD b hb) ma,λz=>?_,.inl hb,λx c e=>f4 x c<|iX x c e,λp hp=>?_};rcases zg.mp (I.nq b z) with q|q;exact f1 q;exact f2 q;have hp:p∈(X.pn++pins)++pl:=hp;rcases zO.mp hp with hp|hp;exact f5 p hp;exact λz=>eE p hp<|z ▸ hb
 have back:∀{s':Shared}{H':Hp}{out:List V}{au:List Value}{nn:Nat}{aq:St},Inv (iW X N scope C bT jc fp<|X.pn++pins) [] aq H' s'->H' D=none->out.length<=sizeLine->Vals out au->s'.heap.get? D=some {cls:=.type "list",data:=.seq au.toArray nn}->(∀D,H' D=none->Q (.ref D) (upd H' D<|.lst out))->CompEnd X pins σ Q D C s':=λ{s' H' out au nn aq} I' hn hl hv ho q=>by obtain⟨m,hm,_⟩:=I'.loc;have un:Un (lq X.stack) fp jc H' bT.heap s'.heap:=I'.base;have neD:∀b o,bT.heap.get? b=some o->b≠D:=λb o e=>zx<|zm (zq e) xh;have fD:jc D=none:=I.aH.fresh xh;refine{upd H' D<|.lst out,m,?_,q D hn,hm,by rw[ao<|Ne.symm QZ];exact I'.free,yr<|zm I.lt ma,zK I.sz ma,λx c e=>zx<|zm (GN x c e) ma,λp hp=>zx<|zm (GO p hp) ma};refine I.FW (ch:=fp) I'.os {un.keep,un.slot,λb o e n hb=>?_,un.there,λb xs e=>?_,λb o u e=>?_,λb ps e=>?_} (λb o e=>?_) I'.bare λb hb=>?_;rw[ao<|neD b o e];exact un.free b o e n hb;rw[ao<|aw e fD];exact un.gj b xs e;rw[ao<|aw e fD];exact un.fG b o u e;rw[ao<|aw e fD];exact un.fH b ps e;by_cases hb:b=D;subst hb;rw[aD]at e;cases e;exact⟨hl,au,nn,hv,ho⟩;rw[ao hb]at e;refine(I'.aH b o e).lX (λc v _ q=>q) (λc q=>?_) λc xs q=>?_;rw[ao<|aw q hn];exact q;rw[ao<|aw q hn];exact q;obtain⟨f0,f1,f2,f3,f4,f5⟩:=ff b hb;exact⟨f3,f1,f4,f5⟩
 obtain⟨m0,w0⟩:=w0;have loop:∀xg:Shared,xg={bT with heap:=h₁,toks:=bT.toks+([]:List (Str×Value)).length}->codeAny (model X.prog X.w) X.A (.compLoop (.ListComp elt [{tg,iter,ifs,0}] scope pos) 0 (.ref it) (.ref D)<|compEnvC scope (clOf X.env.cells scope.names) C X.env) (RR (.ref D) C) xg:=by rintro xg rfl;refine kD (EE:=λ_ _=>False) (λ_ _ f=>f.elim) (λn s'=>∃i out au nn H',Inv (iW X N scope C bT jc fp<|X.pn++pins) [] (pick σ src) H' s'/\H' D=none/\out.length<=sizeLine/\Vals out au/\s'.heap.get? D=some {cls:=.type "list",data:=.seq au.toArray nn}/\tn i s'.heap/\(∀b∈fp,H' b=none)/\W i n out H') ?_ m0 {0,[],[],0,jc,Ic,I.aH.fresh xh,yh _,.nil,qG,T.keep _ _ _ st λb hb o e=>old b o e,λb hb=>(ff b hb).1,w0};rintro n s3 ⟨i,out,au,nn,H3,I3,hD3,OF,VY,VZ,Mm,RT,w3⟩;have OG:∀(au:List Value) (nn:Nat) (v:Option Value),({cls:=.type "list",data:=.seq au.toArray nn} : Obj).data≠.cell v:=λ_ _ _ z=>nomatch z;have I3p:Inv (iW X N scope C bT jc fp<|X.pn++pins) [(D,{cls:=.type "list",data:=.seq au.toArray nn})] (pick σ src) H3 s3:=I3.lY λp hp=>(by have e:p=(D,{cls:=.type "list",data:=.seq au.toArray nn}):=(by simpa using hp);subst e;exact{VZ,hD3,QZ,OE,OG au nn});have XB:∀p∈[((D,{cls:=.type "list",data:=.seq au.toArray nn}):Addr×Obj)],p.1∉fp:=λp hp=>(by have e:p=(D,{cls:=.type "list",data:=.seq au.toArray nn}):=(by simpa using hp);subst e;exact Mx);rcases turn i n out H3 w3 with⟨stop,qn⟩|⟨go,j_,step⟩;refine bu (T.done (iW X N scope C bT jc fp<|X.pn++pins) rfl rfl rfl hc i _ s3 _ H3 _ I3p (pA RT XB) Mm stop) λr s4 ⟨hr,I4⟩=>?_;subst hr;have p4:=(I4.pin (D,{cls:=.type "list",data:=.seq au.toArray nn})<|zC _<|by simp).1;exact hRR D C s4<|back (I4.lY (pins':=[]) λp hp=>nomatch hp) hD3 OF VY p4 qn;refine bu (T.item (iW X N scope C bT jc fp<|X.pn++pins) rfl rfl rfl hc i _ s3 _ H3 _ I3p (pA RT XB) Mm go) λr s4 ⟨u,hr,h4⟩=>?_;subst hr;refine bu h4 λ_ s5 ⟨x,H5,I5,r5,y5,Jy,fr5⟩=>?_;have WW:=I5.pinned (pA fr5 XB)<|T.obj _ _ Jy;refine bu (hg _ _ _ _ _ _ s5 _ H5 x u _ WW r5<|hx x σ H5 _<|step x H5 y5) λ_ s6 ⟨RU,H6,I6,e6,q6⟩=>?_;have fin:∀{s7:Shared}{H7:Hp},Inv (iW X N scope C bT jc fp<|X.pn++pins) ([(D,{cls:=.type "list",data:=.seq au.toArray nn})]++qt fp s5.heap) RU H7 s7->Inv (iW X N scope C bT jc fp<|X.pn++pins) [] (pick σ src) H7 s7/\H7 D=none/\s7.heap.get? D=some {cls:=.type "list",data:=.seq au.toArray nn}/\tn (i+1) s7.heap/\∀b∈fp,H7 b=none:=λ{s7 H7} I7=>(by have pD:=I7.pin (D,{cls:=.type "list",data:=.seq au.toArray nn})<|zC _ (by simp);refine{(I7.lY (pins':=[]) λp hp=>nomatch hp).weak e6.1.symm e6.2,pD.2.1,pD.1,T.keep _ _ _ Jy λb hb o e=>(I7.pin (b,o)<|zC _<|zC _<|iy hb e).1,λb hb=>?_};obtain⟨o,e,d⟩:=T.obj _ _ Jy b hb;exact(I7.pin (b,o)<|zC _<|zC _<|iy hb e).2.1);refine bu (hi _ _ _ _ _ _ s6 RU H6 _ I6 q6) λb s7 ⟨H7,I7,q7⟩=>?_;cases b with|false=>(rw[if_neg zd]at q7⊢;obtain⟨m',hm,w7⟩:=q7;obtain⟨J7,d7,o7,t7,f7⟩:=fin I7;exact{m',hm,i+1,out,au,nn,H7,J7,d7,OF,VY,o7,t7,f7,w7})|true=>rw[if_pos rfl]at q7⊢;refine bu (he _ _ _ _ _ _ s7 RU H7 _ I7 q7) λv s8 ⟨y,H8,I8,r8,m',hm,w8⟩=>?_;obtain⟨J8,d8,o8,t8,f8⟩:=fin I8;have hsz:au.toArray.size<=sizeLine:=(by rw[zk,<-VY.length];exact OF);refine wpAny_list_append_plain (items:=au.toArray) (hsz:=hsz) ⟨nn,o8⟩ λh9 ⟨n9,e9⟩ sb=>?_;have J9:Inv (iW X N scope C bT jc fp<|X.pn++pins) [] (pick σ src) H8 {s8 with heap:=h9}:=J8.turned (t':=s8.toks) (it:=D) (λb o hb e=>(sb.2 b hb).trans e) d8 QZ (.inr xh) (λx c e=>zx<|zm (GN x c<|iX x c e) xh) λp hp=>(by have hp:p∈X.pn++pins:=(by simpa [iW]using hp);exact zx<|zm (GO p hp) xh);refine{m',hm,i+1,out++[y],au++[v],n9,H8,J9,d8,?_,VY.append<|.cons r8 .nil,?_,T.keep _ _ _ t8 λb hb o e=>(sb.2 b λz=>Mx<|z ▸ hb).trans e,f8,w8};rw[zp];exact j_;rw[e9];simp
 exact codeAny_compStart_list (loop _ rfl)<|T.self _ _ _ _ _ (T.keep _ _ _ st λb hb o e=>old b o e)<|loop _ rfl
theorem Kh(S:bI X N src scope)(hc:X.calm=true)(hit:PI X tg iter wi) (hg:∀C s H ex pn,PG (iW X N scope C s H ex pn) tg g) (hx:A4 g src) (hi:∀C s H ex pn,QX (iW X N scope C s H ex pn) ifs tc) (he:∀C s H ex pn,PE (iW X N scope C s H ex pn) elt te) (hs:autoParam (∀x,foldedSetIterable iter X.env x=pure x) qQ0):PE X (.ListComp elt [{tg,iter,ifs,0}] scope pos) (GL wi src g tc te):=by intro pins s σ H Q I h;rw[eval_ListComp];have A5:closureFor scope X.env=pure (clOf X.env.cells scope.names):=gG λy hy hf=>I.ok.has y.1<|S.Ay y hy hf;refine wpAny_comprehension_free (use:=none) rfl hs A5 S.kind S.loc<|bu (hit pins s σ H _ I h) λv s1 h1=>bu h1 λVO s2 h2=>?_;obtain⟨it,fp,tn,J,H2,e,I2,T,Ga,f2,W,w0,turn⟩:=h2;subst e;refine uf (RR:=λacc C=>compPost (model X.prog X.w) X.A X.xe none (EP X pins σ Q) acc C) S hc hg hx hi he I2 T Ga f2 W w0 turn λD C s' ⟨H',m,I',q,hm,hn,h1,h2,h3,h4⟩=>?_;exact{m,hm,λh' sb=>{.ref D,H',I'.turned (t':=s'.toks) (it:=C) (λb o hb e=>(sb.2 b hb).trans e) hn h1 (.inr h2) h3 h4,rfl,q}}
theorem A6{i:Nat}{x:Str}{pos' Ki:Pos}(hN:X.N.Nodup)(XD:X.N[i]?=some x)(qH:X.env.scope.names.lookup x=some .local) (S:bI X N src scope) (hc:X.calm=true) (hit:PI X tg iter wi) (hg:∀C s H ex pn,PG (iW X N scope C s H ex pn) tg g) (hx:A4 g src) (hi:∀C s H ex pn,QX (iW X N scope C s H ex pn) ifs tc) (he:∀C s H ex pn,PE (iW X N scope C s H ex pn) elt te) (XF:autoParam (swapsWith (.ListComp elt [{tg,iter,ifs,0}] scope pos) (some<|.Name x pos') Ki.line X.env=pure true) qQJ) (hs:autoParam (∀x,foldedSetIterable iter X.env x=pure x) qQ0):PS X (.Assign [.Name x pos'] (.ListComp elt [{tg,iter,ifs,0}] scope pos) Ki) (NP (GL wi src g tc te)<|iV i):=by
 intro pins s σ H D I h;rw[exec_Assign_Name_used _ _ _ _ XF];refine za<|wpAny_standAt<|za ?_;have A5:closureFor scope X.env=pure (clOf X.env.cells scope.names):=gG λy hy hf=>I.ok.has y.1<|S.Ay y hy hf;show wpAny _ X.A (do let _ <-comprehension (.ListComp elt [⟨tg,iter,ifs,0⟩] scope pos) scope X.env _ (newList []) false (eval iter X.env) (some (assign (.Name x pos') X.env))) _ _ s;refine za<|yq (wpAny_comprehension_free (use:=some<|assign (.Name x pos') X.env) (Q:=λ_ s'=>∃aq H',Inv X pins aq H' s'/\D.nx aq H') rfl hs A5 S.kind S.loc<|bu (hit pins s σ H _ I h) λv s1 h1=>bu h1 λVO s2 h2=>?_) (λ_ s' hq=>zf<|zf hq) λ_ _ e=>e;obtain⟨it,fp,tn,J,H2,e,I2,T,Ga,f2,W,w0,turn⟩:=h2;subst e;refine uf (Q:=λv H1=>D.nx (σ.set i<|some v) H1) (RR:=λacc C=>compPost (model X.prog X.w) X.A X.xe (some<|assign (.Name x pos') X.env) (λ_ s'=>∃aq H',Inv X pins aq H' s'/\D.nx aq H') acc C) S hc hg hx hi he I2 T Ga f2 W w0 turn λD' C s' ⟨H',m,I',q,hm,hn,h1,h2,h3,h4⟩=>?_;show wpAny _ X.A (assign (.Name x pos') X.env<|.ref D') _ _ _;refine wpAny_assign_Name<|tV I' hN XD (.inl qH) (v:=.ref D') rfl (λAX I'' ⟨a,sb,ha⟩=>?_)<|.inr qH;have hCa:C≠a:=by rcases ha with ha|ha;rw[ha];exact h1;exact Ne.symm<|h3 _ _ ha
 refine{m,hm.sameBut sb hCa,λh'' C5=>{_,H',I''.turned (t':=AX.toks) (it:=C) (λb o hb e=>(C5.2 b hb).trans e) hn h1 (.inr h2) h3 h4,q}}
end
theorem nC{σ:St}{src:List<|Option Nat}{i:Nat}(h:src[i]?=some none):(pick σ src)[i]?=some none:=by unfold pick;rw[zu,h];rfl
theorem Ext.set(h:σ0[i]?=some none)(e:Ext σ0 σ):Ext σ0 (σ.set i<|some v):=by
 refine{by rw[List.length_set];exact e.1,λj w hj=>?_};have:i≠j:=by rintro rfl;rw[h]at hj;cases hj
 rw[List.getElem?_set_ne this];exact e.2 j w hj
theorem Ext.refl(σ:St):Ext σ σ:={rfl,λ_ _ h=>h}
theorem aW{src:List<|Option Nat}{i:Nat}(h:src[i]?=some none):A4 (iV i) src:=λx σ H Q q=>{(Ext.refl _).set<|nC h,q}
theorem uZ{K:Frag}{n:Nat}{src:List<|Option Nat}{i j:Nat}(h:src[i]?=some none)(h':src[j]?=some none):A4 (JQ K n<|qq (iV i)<|qq (iV j) JP) src:=λx σ H Q q=>by obtain⟨a,xs,e1,hs,hl,v,r,e2,v2,r2,e3,e4,q⟩:=q;exact{a,xs,e1,hs,hl,v,r,e2,v2,r2,e3,e4,((Ext.refl _).set<|nC h).set<|nC h',q}
theorem all_bools{xs:List V}{au:List Value}{bs:List Bool}(hv:Vals xs au)(hb:xs=bs.map V.bl):∀(i:Nat)(v:Value),au.toArray[i]?=some v->v=Value.bool ((bs[i]?).getD false):=by
 subst hb;intro i v h;have h':au[i]?=some v:=by simpa using h
 have hl:=hv.length;rw[zc]at hl;have hi:i<au.length:=(zt.mp h').1;have hb:bs[i]?=some (bs[i]'(by lia)):=by simp
 obtain⟨u,hu,r⟩:=hv.get (i:=i) (x:=V.bl<|bs[i]'(by lia)) (by rw[zu,hb];rfl);rw[h']at hu;cases hu;rw[hb];exact r
theorem range_all{bs:List Bool} : (List.range bs.length).all (λi=>(bs[i]?).getD false)=bs.all id:=by rw[yN,yk,yk];constructor;intro h b hb;obtain⟨i,hi,rfl⟩:=List.mem_iff_getElem.mp hb;have:=h i<|zT.mpr hi;simpa [hi]using this;intro h i hi;have hi:=zT.mp hi;simpa [hi]using h _ (List.getElem_mem hi)
theorem range_any{bs:List Bool} : (List.range bs.length).any (λi=>(bs[i]?).getD false)=bs.any id:=by rw[yN,List.any_eq_true,List.any_eq_true];constructor;rintro⟨i,hi,h⟩;have hi:=zT.mp hi;exact{bs[i],List.getElem_mem hi,by simpa [hi]using h};rintro⟨b,hb,h⟩;obtain⟨i,hi,rfl⟩:=List.mem_iff_getElem.mp hb;exact{i,zT.mpr hi,by simpa [hi]using h}
section
variable{X:Cx}
theorem sQ(hc:X.calm=true):dw X (.builtin "all") (λxs H Q=>∃(a:Addr)(bs:List Bool),xs=[.ref a]/\ji X.K H a (bs.map V.bl)/\Q (.bl<|bs.all id) H):=by
 intro pins s σ H xs us Q I r h;obtain⟨a,bs,rfl,hq,q⟩:=h;obtain⟨u,rfl,ru⟩:=vals1 r;cases ru;obtain⟨au,rv,p,hz⟩:=I.list hq;have hl:=rv.length;rw[zc]at hl;refine call_all_walk<|wpAny_pyIter_list p.isList ?_;refine{s.heap.objs.size,_,_,_,_,_,λi=>(bs[i]?).getD false,rfl,Walks.list (A:=X.A.in1) (I.ok.hd hc) s.heap.objs.size a (zx p.lt) au.toArray,{{_,zi _ rfl,rfl,rfl},p.isList.at λo e=>zb _ e},?_,λh' tk hk=>?_};intro i v s' Q' E' hv hQ;rw[all_bools rv rfl i v hv];exact yw hQ;have e:au.toArray.size=bs.length:=by rw[zk,<-hl]
 rw[e,range_all];exact{.bl<|bs.all id,H,I.kept (h':=h') (t':=tk) λb o e=>hk b o (by simpa using zx (zq e))<|zb _ e,rfl,q}
theorem sR(hc:X.calm=true):dw X (.builtin "any") (λxs H Q=>∃(a:Addr)(bs:List Bool),xs=[.ref a]/\ji X.K H a (bs.map V.bl)/\Q (.bl<|bs.any id) H):=by
 intro pins s σ H xs us Q I r h;obtain⟨a,bs,rfl,hq,q⟩:=h;obtain⟨u,rfl,ru⟩:=vals1 r;cases ru;obtain⟨au,rv,p,hz⟩:=I.list hq;have hl:=rv.length;rw[zc]at hl;refine call_any_walk<|wpAny_pyIter_list p.isList ?_;refine{s.heap.objs.size,_,_,_,_,_,λi=>(bs[i]?).getD false,rfl,Walks.list (A:=X.A.in1) (I.ok.hd hc) s.heap.objs.size a (zx p.lt) au.toArray,{{_,zi _ rfl,rfl,rfl},p.isList.at λo e=>zb _ e},?_,λh' tk hk=>?_};intro i v s' Q' E' hv hQ;rw[all_bools rv rfl i v hv];exact yw hQ;have e:au.toArray.size=bs.length:=by rw[zk,<-hl]
 rw[e,range_any];exact{.bl<|bs.any id,H,I.kept (h':=h') (t':=tk) λb o e=>hk b o (by simpa using zx (zq e))<|zb _ e,rfl,q}
end
noncomputable def ownOf:HO->Option Addr|.ins _ dx _=>some dx|.lj _ u=>ownOf u|_=>none
structure Fg(H H' G:Hp):Prop where
 sub:∀b o,G b=some o->H' b=some o
 dom:∀b o,H b=some o->∃o',G b=some o'
 own:∀a o dx,G a=some o->ownOf o=some dx->(∃o',H a=some o'/\ownOf o'=some dx)\/∃o',G dx=some o'
theorem aM:bootBuiltins "len"= some (.builtin "len"):=PySem.boot_len
theorem gI:bootBuiltins "all"= some (.builtin "all"):=boot_all
theorem OH:bootBuiltins "any"= some (.builtin "any"):=boot_any
theorem ai:bootBuiltins "isinstance"= some (.builtin "isinstance"):=boot_isinstance
theorem A7:bootBuiltins "int"= some (.type "int"):=PyProof.Rows.boot_int
theorem Kj:bootBuiltins "bool"= some (.type "bool"):=PyProof.Rows.boot_bool
theorem jo:bootBuiltins "str"= some (.type "str"):=PyProof.Rows.boot_str
theorem bp:bootBuiltins "tuple"= some (.type "tuple"):=PyProof.Rows.boot_tuple
theorem u7:bootBuiltins "list"= some (.type "list"):=PyProof.Rows.boot_list
theorem u9:bootBuiltins "dict"= some (.type "dict"):=PyProof.Rows.boot_dict
theorem OI:bootBuiltins "set"= some (.type "set"):=PyProof.Rows.boot_set
set_option genInjectivity true in
set_option genSizeOfSpec true in
inductive Kd where
 |av|bl|int|str|lst|tup|cB
 deriving DecidableEq
noncomputable def Kd.name:Kd->String|.av=>"NoneType" |.bl=>"bool" |.int=>"int" |.str=>"str" |.lst=>"list" |.tup=>"tuple" |.cB=>"dict"
inductive qI (H:Hp):V->Kd->Prop where
 |av:qI H .av .av
 |bl (b:Bool):qI H (.bl b) .bl
 |int (i:Int):qI H (.int i) .int
 |str (x:Str):qI H (.str x) .str
 |lst {a:Addr}{xs:List V} (e:H a=some (.lst xs)):qI H (.ref a) .lst
 |tup {a:Addr}{xs:List V} (e:H a=some (.tup xs)):qI H (.ref a) .tup
 |cB {a:Addr}{kvs:List<|Key×V} (e:H a=some (.dK kvs)):qI H (.ref a) .cB
theorem qI.ty{K:Frag}{H:Hp}{x:V}{k:Kd}(h:qI H x k):ny K H x (.type k.name):=by cases h with|av=>exact .av|bl b=>exact .bl b|int i=>exact .int i|str x=>exact .str x|lst e=>exact .lst e|tup e=>exact .tup e|cB e=>exact .dK e
noncomputable def xk(T:String):Option (Kd->Bool):=if T ="int" then some λk=>match k with|.int=>true|.bl=>true|_=>false else if T ="bool" then some λk=>match k with|.bl=>true|_=>false else if T ="str" then some λk=>match k with|.str=>true|_=>false else if T ="tuple" then some λk=>match k with|.tup=>true|_=>false else if T ="list" then some λk=>match k with|.lst=>true|_=>false else if T ="dict" then some λk=>match k with|.cB=>true|_=>false else none
theorem GP{K:Frag}{T:String}{g:Kd->Bool}(h:xk T=some g)(k:Kd):kitOne K (.type k.name) (.type T)=some (g k):=by unfold xk at h;split at h;rename_i e;subst e;cases h;cases k<;>rfl;split at h;rename_i e;subst e;cases h;cases k<;>rfl;split at h;rename_i e;subst e;cases h;cases k<;>rfl;split at h;rename_i e;subst e;cases h;cases k<;>rfl;split at h;rename_i e;subst e;cases h;cases k<;>rfl;split at h;rename_i e;subst e;cases h;cases k<;>rfl;cases h
section
variable{X:Cx}
theorem GQ:dw X (.builtin "isinstance") (λxs H Q=>∃x T k g,xs=[x,.ty T]/\xk T=some g/\qI H x k/\Q (.bl<|g k) H):=by intro pins s σ H xs us Q I r h;obtain⟨x,T,k,g,rfl,hg,hk,q⟩:=h;obtain⟨v,w',rfl,rv,nz⟩:=vals2 r;cases nz;exact Ej I rv hk.ty (GP hg k) λtk=>{.bl<|g k,H,I.tok tk,rfl,q}
end
mutual
def Dt(K:Frag)(H:Hp):PyData->V->Prop|.none,v=>v=.av|.bool b,v=>v=.bl b|.int i,v=>v=.int i|.str z,v=>v=.str z|.list ds,v=>∃a xs,v=.ref a/\ji K H a xs/\DtAll K H ds xs|.tuple ds,v=>∃a xs,v=.ref a/\gp K H a xs/\DtAll K H ds xs|.dict _,_=>False
def DtAll(K:Frag)(H:Hp):List PyData->List V->Prop|[],xs=>xs=[]|d::ds,xs=>∃y ys,xs=y::ys/\Dt K H d y/\DtAll K H ds ys
end
section
variable{X:Cx}{pins:List (Addr×Obj)}{σ:St}{H:Hp}{s:Shared}
mutual
theorem Inv.reads(I:Inv X pins σ H s):∀(d:PyData){x:V}{u:Value},Dt X.K H d x->RelV x u->∃as,Reads s.heap u d as
 |.none,x,u,h,r=>by
  have h:x=.av:=by simpa only[Dt]using h
  subst h;cases r;exact{_,.none}
 |.bool b,x,u,h,r=>by
  have h:x=.bl b:=by simpa only[Dt]using h
  subst h;cases r;exact{_,.bool b}
 |.int i,x,u,h,r=>by
  have h:x=.int i:=by simpa only[Dt]using h
  subst h;obtain⟨t,rfl⟩:=r;exact{_,.int i t}
 |.str z,x,u,h,r=>by
  have h:x=.str z:=by simpa only[Dt]using h
  subst h;obtain⟨t,rfl⟩:=r;exact{_,.str z t}
 |.list ds,x,u,h,r=>by
  have h:∃a xs,x=.ref a/\ji X.K H a xs/\DtAll X.K H ds xs:=by simpa only[Dt]using h
  obtain⟨a,xs,rfl,hq,hd⟩:=h;cases r;obtain⟨au,rv,p,_⟩:=I.list hq;obtain⟨as,ra⟩:=Inv.readsAll I ds hd rv;obtain⟨o,e,c,n,d⟩:=p.isList;exact{_,.list e c d<|by simpa using ra}
 |.tuple ds,x,u,h,r=>by
  have h:∃a xs,x=.ref a/\gp X.K H a xs/\DtAll X.K H ds xs:=by simpa only[Dt]using h
  obtain⟨a,xs,rfl,hq,hd⟩:=h;cases r;obtain⟨au,rv,p,_⟩:=I.tuple hq;obtain⟨as,ra⟩:=Inv.readsAll I ds hd rv;obtain⟨o,e,c,n,d⟩:=p;exact{_,.tuple e c d<|by simpa using ra}
 |.dict _,x,u,h,r=>by
  have h:False:=by simpa only[Dt]using h
  exact h.elim
theorem Inv.readsAll(I:Inv X pins σ H s):∀(ds:List PyData){xs:List V}{us:List Value},DtAll X.K H ds xs->Vals xs us->∃as,ReadsAll s.heap us ds as
 |[],xs,us,h,r=>by
  have h:xs=[]:=by simpa only[DtAll]using h
  subst h;cases r;exact{_,.nil}
 |d::ds,xs,us,h,r=>by
  have h:∃y ys,xs=y::ys/\Dt X.K H d y/\DtAll X.K H ds ys:=by simpa only[DtAll]using h
  obtain⟨y,ys,rfl,h1,h2⟩:=h;cases r with|cons r1 r2=>obtain⟨as,ra⟩:=Inv.reads I d h1 r1;obtain⟨bs,rb⟩:=Inv.readsAll I ds h2 r2;exact{_,.cons ra rb}
end
end
def Sy(K:Frag)(neg:Bool):R2:=λx y H Q=>∃d e,Dt K H d x/\Dt K H e y/\d.canLay0=true/\e.canLay0=true/\(d.depth<=64\/e.depth<=64)/\Q (.bl<|if neg then !PyData.eqv d e else PyData.eqv d e) H
section
variable{X:Cx}
theorem OJ(hu:X.A.units+64<cLine):gR X (compareOp .Eq) (Sy X.K false):=by intro pins s σ H x y v u Q I rx ry h;obtain⟨d,e,hd,he,cd,ce,dp,q⟩:=h;obtain⟨as,ra⟩:=I.reads d hd rx;obtain⟨bs,rb⟩:=I.reads e he ry;exact SeqAt.compareEq_reads ra rb cd ce (by rcases dp with dp|dp<;>lia)<|aK I q rfl
theorem OL(hu:X.A.units+64<cLine):gR X (compareOp .NotEq) (Sy X.K true):=by intro pins s σ H x y v u Q I rx ry h;obtain⟨d,e,hd,he,cd,ce,dp,q⟩:=h;obtain⟨as,ra⟩:=I.reads d hd rx;obtain⟨bs,rb⟩:=I.reads e he ry;exact SeqAt.compareNe_reads ra rb cd ce (by rcases dp with dp|dp<;>lia)<|aK I q rfl
end
theorem ke(a b:Nat):FK ⟨#[a]⟩ ⟨#[b]⟩=decide (a<=b):=by
 unfold FK;have e:([b]<[a])↔b<a:=by rw[List.cons_lt_cons_iff];constructor;rintro (h|⟨_,h⟩);exact h;exact absurd h<|List.not_lt_nil _;exact .inl
 rw[yN];show(!decide ([b]<[a]))=true↔_;rw[Bool.not_eq_true',decide_eq_false_iff_not,e,decide_eq_true_iff];lia
def chkC(sc:Scope)(N0 N:List Str)(src:List<|Option Nat)(scope:Scope):Bool :=
 decide (scope.kind=.function)&&(scope.names.all (λy=>decide (y.2≠.cell)&&(decide (y.2≠.local)||decide (scope.names.lookup y.1=some .local))&&(decide (y.2≠.free)||(decide (sc.names.lookup y.1=some .cell)||decide (sc.names.lookup y.1=some .free)))) &&
  (decide (src.length=N.length)&&(List.range src.length).all λi=>match src[i]?,N[i]? with
   |some (some j),some x=>decide (N0[j]?=some x)&&(decide (scope.names.lookup x=some .free)&&(decide (sc.names.lookup x=some .cell)||decide (sc.names.lookup x=some .free)))
   |_,_=>true))
theorem lU(sc:Scope)(N0:List Str)(hs:X.env.scope=sc)(hN:X.N=N0)(h:chkC sc N0 N src scope=true):bI X N src scope:=by unfold chkC at h;simp only[zR,yo,yk,Bool.or_eq_true]at h;obtain⟨h1,h2,h3,h4⟩:=h;refine{h1,λy hy=>(h2 y hy).1.1,λy hy e=>?_,λy hy e=>?_,h3,λi j x e1 e2=>?_};rcases (h2 y hy).1.2 with z|z;exact absurd e z;exact z;rcases (h2 y hy).2 with z|z;exact absurd e z;show X.env.scope.names.lookup y.1=some .cell\/X.env.scope.names.lookup y.1=some .free;rw[hs];exact z;have hi:i<src.length:=(zt.mp e1).1;have q:=h4 i<|zT.mpr hi;rw[e1,e2]at q;simp only[zR,yo,Bool.or_eq_true]at q;refine{by rw[hN];exact q.1,q.2.1,?_};unfold Nz;rw[hs];exact .inr q.2.2
theorem u_(h0:0<=i)(h1:i<l.length):∃v,j9 l i=some v/\l[i.toNat]?=some v:=by
 obtain⟨j,rfl⟩:=Int.eq_ofNat_of_zero_le h0;have hj:j<l.length:=by lia
 exact{l[j],eS<|by simp[hj],by simp[hj]}
theorem bD{c:Bool}{A B:Prop}(h:c=true->A)(h':c=false->B):if c=true then A else B:=by cases c with|true=>exact h rfl|false=>exact h' rfl
theorem nt(h:(!b)=true):b=false:=by cases b<;>simp_all
theorem nf(h:(!b)=false):b=true:=by cases b<;>simp_all
noncomputable def A8:Kd->Bool|.int=>true|.bl=>true|_=>false
noncomputable def vd:Kd->Bool|.bl=>true|_=>false
noncomputable def A9:Kd->Bool|.str=>true|_=>false
noncomputable def qJ:Kd->Bool|.tup=>true|_=>false
theorem Kk:xk "int"= some A8:=if_pos rfl
theorem GR:xk "bool"= some vd:=(if_neg<|by decide).trans<|if_pos rfl
theorem gq:xk "str"= some A9:=(if_neg<|by decide).trans<|(if_neg<|by decide).trans<|if_pos rfl
theorem bJ:xk "tuple"= some qJ:=(if_neg<|by decide).trans<|(if_neg<|by decide).trans<|(if_neg<|by decide).trans<|if_pos rfl
theorem len_pos{z:Str}(h:1<=z.cps.size):∃c r,z.cps.toList=c::r:=by cases e:z.cps.toList with|nil=>have:z.cps.toList.length=0:=(by rw[e];rfl);rw[yn]at this;lia|cons c r=>exact⟨c,r,rfl⟩
theorem wV(e:l=c::r):j9 l 0=some c:=by
 have:l[0]?=some c:=by rw[e];rfl
 exact eS (j:=0) this
def isPlain:Expr->Bool|.Starred _ _=>false|_=>true
theorem A_(h:isPlain e=true):starEach (e::es) env=(false,eval e env)::starEach es env:=by cases e<;>first|rfl|exact absurd h zd
theorem XG{t:TA}(ha:PE X e te)(hr:PA X es t)(hp:autoParam (isPlain e=true) qQJ):PA X (e::es) (Mr te t):=JZ ha hr<|A_ hp
end L2
namespace HT
open PySem PyProof.Rows
open PySem.SeqAt
open PySem.AutoSeq1 (wpAny_loadPart')
open PySem.MeetsSeq PySem.MeetsSeq2 PySem.MeetsSeq3
end HT
namespace L2
open PySem PySem.Spec PyProof.Rows
def FL(c:Value)(e:Addr)(h:Heap):Prop:=∃o vs,h.get? e=some o/\o.data=.fields vs/\vs[2]?=some c
section
variable{M:Model}{A:Around}{E:Value->Shared->Prop}{s:Shared}{base:Heap}{env:Env}{outer:List Env}{L e:Addr}{a0 c fl:Value}
theorem Sz(ug:A.frames=some (env::outer))(hl:s.heap.FunFrames base<|env::outer)(hf:env.frame=some L) (he:s.heap.get? e=some oe) (FN:base.StaysIn s.heap) (Az:base.get? e=none) (hd:oe.data=.fields vs) (h0:vs[0]?=some a0) (h2:vs[2]?=some c) (h:∀h',Heap.NotedW base (env::outer) e oe.cls a0 (rawInt L) s.heap h'->FL c e h'->Q () {s with heap:=h'}): wpAny M A (do let x <-frameOf env;let y <-entryPlaceOf L nx;let z <-EntryCells.newEntry head x .none (rawInt L) .none y;setField (.ref e) 1 z) Q E s:=by
 have hsz:1<vs.size:=by have:=(Array.getElem?_eq_some_iff.mp h2).1;lia
 have nfr:e∉(env::outer).filterMap (·.frame):=λm=>by obtain⟨_,o,q,n⟩:=hl.mem m;rw[he]at q;cases q;exact n vs hd
 refine za<|wpAny_frameOf_fun ug hl hf λg sg=>?_;refine za<|wpAny_entryPlaceOf λpl eE=>?_;unfold EntryCells.newEntry newFields;refine za<|ym ?_<|eE.sizeOk5 _ _ _ _ _;have g1:g.get? e=some oe:=(sg.2.1 e nfr).trans he;have kg:base.StaysIn g:=λb o q=>(sg.2.1 b λm=>by rw[(hl.mem m).1]at q;cases q).trans<|FN b o q;have t3:((([head,.ref L,.none,rawInt L,.none]++(if pl.isEmpty then List.replicate 6 Value.none else pl)).toArray:Array Value))[3]?=some (rawInt L):=by rcases eE with rfl|⟨_,_,_,_,_,_,_,rfl⟩<;>simp
 generalize htb:(([head,.ref L,.none,rawInt L,.none]++(if pl.isEmpty then List.replicate 6 Value.none else pl)).toArray:Array Value)=ts at t3;have g2:=zb (h:=g) {cls:=.type "traceback",dict:=none,data:=.fields ts} g1;refine yR g2 hd hsz<|h _ ?_ ?_;have ne:g.objs.size≠e:=yr<|zq g1;have d3:=yz hd (·.setIfInBounds 1 (Value.ref g.objs.size));have e3:=yx (Obj.mapFields (·.setIfInBounds 1 (Value.ref g.objs.size))) g2<|Obj.isFreed_of_fields d3;have T3:=(yu (g.push {cls:=.type "traceback",dict:=none,data:=.fields ts}) (Obj.mapFields (·.setIfInBounds 1 (Value.ref g.objs.size)))<|Ne.symm ne).trans<|zi g rfl;have keep:∀b o,b≠e->g.get? b=some o->((g.push {cls:=.type "traceback",dict:=none,data:=.fields ts}).update e (Obj.mapFields (·.setIfInBounds 1 (Value.ref g.objs.size)))).get? b=some o:=λb o n q=>by rw[yu _ _<|Ne.symm n];exact zb _ q
 have xl:∀b o,s.heap.get? b=some o->(∀vs,o.data≠.fields vs)->b≠e:=λb o q n z=>by rw[z,he]at q;cases q;exact n vs hd
 refine{λb o q=>keep b o (λz=>by rw[z,Az]at q;cases q)<|kg b o q,hl.of_keeps λb o q n=>?_,?_,λb o q n=>?_};obtain⟨sl,z⟩:=sg.2.2 b o q;exact{_,keep b _ (xl b o q n) z,rfl};exact{_,_,g.objs.size,_,_,e3,{Obj.cls_mapFields _ _,by rw[Array.getElem?_setIfInBounds_ne<|by decide];exact h0},d3,by simp[hsz],kg.fresh,ne,T3,rfl,t3};obtain⟨sl,z⟩:=sg.2.2 b o q;exact{sl,keep b _ (xl b o q n) z};have d3:=yz hd (·.setIfInBounds 1 (Value.ref g.objs.size));exact{_,_,yx (Obj.mapFields (·.setIfInBounds 1 (Value.ref g.objs.size))) g2<|Obj.isFreed_of_fields d3,d3,by rw[Array.getElem?_setIfInBounds_ne<|by decide];exact h2}
theorem setC(FN:base.StaysIn s.heap)(Az:base.get? e=none)(hl:s.heap.FunFrames base l)(ht:s.heap.TracedAtW base e cls a0 fl)(hc:FL c e s.heap) (h:∀h',Heap.FlyingW base l e cls a0 h'->s.heap.UpToSlots h'->FL c e h'->Q () {s with heap:=h'}):wpAny M A (setFlight (.ref e) none) Q E s:=by
 obtain⟨o,vs,T,oT,ts,q,hk,hd,q1,nT,ne,qT,dT,q3⟩:=ht;obtain⟨o',XH,q',tU,q2⟩:=hc;rw[q]at q';cases q';rw[hd]at tU;cases tU;have hs3:3<ts.size:=(Array.getElem?_eq_some_iff.mp q3).1;have AA:∀b,b≠T->(s.heap.update T (Obj.mapFields (·.setIfInBounds 3 ((none:Option Addr).elim Value.none λf=>rawInt f)))).get? b=s.heap.get? b:=λb n=>yu _ _<|Ne.symm n;have xl:∀b o,s.heap.get? b=some o->(∀vs,o.data≠.fields vs)->b≠T:=λb o z n w=>by rw[w,qT]at z;cases z;exact n ts dT
 have qe:=(AA e<|Ne.symm ne).trans q;unfold setFlight;refine za<|ya q hd q1 ?_;rw[if_pos<|show(Value.ref T != Value.none)=true by simp];refine yR qT dT hs3<|h _ {λb o z=>(AA b λw=>by rw[w,nT]at z;cases z).trans<|FN b o z,Az,hl.of_keeps λb o z n=>{o,(AA b<|xl b o z n).trans z,rfl},?_} (λb o z n=>{o.slots,(AA b<|xl b o z n).trans z}) ⟨o,vs,qe,hd,q2⟩;exact{o,vs,T,_,_,qe,hk,hd,q1,nT,ne,yx _ qT<|Obj.isFreed_of_fields<|yz dT _,yz dT _,by simp[hs3]}
theorem SJ(ug:A.frames=some (env::outer))(hf:env.frame=some L)(FN:base.StaysIn s.heap)(Az:base.get? e=none)(hl:s.heap.FunFrames base<|env::outer)(ht:s.heap.TracedAtW base e cls a0 fl)(hc:FL c e s.heap) (h:∀h',Heap.HeldW base (env::outer) e cls a0 L h'->s.heap.UpToSlots h'->FL c e h'->Q () {s with heap:=h'}):wpAny M A (noteFrame (.ref e) env) Q E s:=by
 by_cases Q0:fl=rawInt L;subst Q0;exact wpAny_noteFrame_againW hf ht<|h s.heap ⟨FN,Az,hl,ht⟩ (.refl _) hc;obtain⟨o,vs,T,oT,ts,q,⟨hk,h0⟩,hd,q1,nT,ne,qT,dT,q3⟩:=ht;obtain⟨o',XH,q',tU,q2⟩:=hc;rw[q]at q';cases q';rw[hd]at tU;cases tU;subst hk;have AA:∀b,b≠T->(s.heap.update T (Obj.mapFields (·.setIfInBounds 3 Value.none))).get? b=s.heap.get? b:=λb n=>yu _ _<|Ne.symm n;have xl:∀b o,s.heap.get? b=some o->(∀vs,o.data≠.fields vs)->b≠T:=λb o z n w=>by rw[w,qT]at z;cases z;exact n ts dT
 unfold noteFrame;simp only[hf];refine za<|ya q hd q1 ?_;rw[if_pos<|show(Value.ref T != Value.none)=true by simp];refine za<|ya qT dT q3 ?_;rw[if_neg<|show ¬((fl==rawInt L)=true) by simpa using Q0];refine za<|yR qT dT (Array.getElem?_eq_some_iff.mp q3).1 ?_;refine Sz ug (hl.of_keeps λb o z n=>{o,(AA b<|xl b o z n).trans z,rfl}) hf ((AA e<|Ne.symm ne).trans q) (λb o z=>(AA b λw=>by rw[w,nT]at z;cases z).trans<|FN b o z) Az hd h0 q2 λh' x y=>?_;obtain⟨x1,x2,x3,x4⟩:=x;exact h h' ⟨x1,Az,x2,x3⟩ (λb o z n=>x4 b o ((AA b<|xl b o z n).trans z) n) y
theorem OM(ug:A.frames=some (env::outer))(hf:env.frame=some L)(FN:base.StaysIn s.heap)(Az:base.get? e=none)(hl:s.heap.FunFrames base<|env::outer) (he:s.heap.get? e=some oe) (hd:oe.data=.fields vs) (h0:vs[0]?=some a0) (h1:vs[1]?=some .none) (h2:vs[2]?=some c) (h:∀h',Heap.HeldW base (env::outer) e oe.cls a0 L h'->s.heap.UpToSlots h'->FL c e h'->Q () {s with heap:=h'}):wpAny M A (noteFrame (.ref e) env) Q E s:=by unfold noteFrame;simp only[hf];refine za<|ya he hd h1 ?_;rw[if_neg<|by decide];refine Sz ug hl hf he FN Az hd h0 h2 λh' x y=>?_;obtain⟨x1,x2,x3,x4⟩:=x;exact h h' ⟨x1,Az,x2,x3⟩ x4 y
theorem ON(ug:A.frames=some (env::outer))(hf:env.frame=some L)(FN:base.StaysIn s.heap)(Az:base.get? e=none)(hl:s.heap.FunFrames base<|env::outer)(ht:s.heap.TracedAtW base e cls a0 fl)(hc:FL c e s.heap) (h:∀h',Heap.FlyingW base outer e cls a0 h'->s.heap.UpToSlots h'->FL c e h'->Q () {s with heap:=h'}):wpAny M A (leaving env<|.ref e) Q E s:=by unfold leaving;refine za<|SJ ug hf FN Az hl ht hc λh' x u y=>?_;obtain⟨x1,x2,x3,x4⟩:=x;refine setC x1 x2 x3 x4 y λh2 z u2 y2=>?_;obtain⟨z1,z2,⟨_,_,z3⟩,z4⟩:=z;exact h h2 ⟨z1,z2,z3,z4⟩ (u.trans u2) y2
theorem Kl(ug:A.frames=some (env::outer))(hf:env.frame=some L)(FN:base.StaysIn s.heap)(Az:base.get? e=none)(hl:s.heap.FunFrames base<|env::outer) (he:s.heap.get? e=some oe) (hd:oe.data=.fields vs) (h0:vs[0]?=some a0) (h1:vs[1]?=some .none) (h2:vs[2]?=some c) (h:∀h',Heap.FlyingW base outer e oe.cls a0 h'->s.heap.UpToSlots h'->FL c e h'->Q () {s with heap:=h'}):wpAny M A (leaving env<|.ref e) Q E s:=by unfold leaving;refine za<|OM ug hf FN Az hl he hd h0 h1 h2 λh' x u y=>?_;obtain⟨x1,x2,x3,x4⟩:=x;refine setC x1 x2 x3 x4 y λh2 z u2 y2=>?_;obtain⟨z1,z2,⟨_,_,z3⟩,z4⟩:=z;exact h h2 ⟨z1,z2,z3,z4⟩ (u.trans u2) y2
end
theorem aU.get(x:aU P w H h a o):∃u,h.get? a=some u:=by cases o with|lst xs=>(obtain⟨_,_,_,_,e⟩:=x;exact{_,e})|tup xs=>(obtain⟨_,_,_,ob,e,_⟩:=x;exact{_,e})|dK kvs=>(obtain⟨_,_,_,_,o,_,_,e,_⟩:=x;exact{_,e})|dT kvs=>exact False.elim x|set S n=>(obtain⟨o,_,_,_,e,_⟩:=x;exact{_,e})|ins C dx fs=>(obtain⟨_,_,_,e,_⟩:=x;exact{_,e})|own y=>(obtain⟨_,e⟩:=x;exact{_,e})|xd fs=>(obtain⟨_,⟨_,_,_,e,_⟩,_⟩:=x;exact{_,e})|VH lo hi=>(obtain⟨_,_,_,e⟩:=x;exact{_,e})|lj ob u=>(obtain⟨e,_⟩:=x;exact{_,e})|pU ps=>exact{_,show h.get? a=some _ from x}|met f y=>exact{_,show h.get? a=some _ from x}|ext φ=>obtain⟨_,e,_⟩:=x;exact e
structure qL(P:Program)(w:World)(mg:Str->Option Value)(outer:List Env)(H H':Hp)(h0:Heap)(a:Addr)(cls a0:Value)(B h:Heap):Prop where
 fl:Heap.FlyingW B outer a cls a0 h
 aH:kB P w H' B
 keep:∀b o,h0.get? b=some o->H b=none->b∉lq outer->B.get? b=some o
 there:∀b o,h0.get? b=some o->b∉lq outer->∃o',B.get? b=some o'
 slot:∀b o,h0.get? b=some o->b∈lq outer->∃sl,h.get? b=some {o with slots:=sl}
 free:∀b o,h0.get? b=some o->H b=none->H' b=none
 gj:∀b xs,H b=some (.tup xs)->H' b=some (.tup xs)
 fG:∀b o u,H b=some (.lj o u)->H' b=some (.lj o u)
 fH:∀b ps,H b=some (.pU ps)->∃more,H' b=some (.pU<|ps++more)
 cx:FL .none a h\/mg "NoMark"= some cls
section
variable{P:Program}{w:World}{mg:Str->Option Value}{outer:List Env}{H H':Hp}{h0:Heap}{a:Addr}{cls a0:Value}{B h h2:Heap}
theorem qL.un(F:qL P w mg outer H H' h0 a cls a0 B h):Un (lq outer) [] H H' h0 h where
 keep:=λb o e n hf _=>F.fl.1 b o<|F.keep b o e n hf
 slot:=λb o e _ hf _=>F.slot b o e hf
 free:=λb o e n _=>F.free b o e n
 there:=λb o e _=>by
  by_cases hf:b∈lq outer
  ·obtain⟨sl,q⟩:=F.slot b o e hf;exact{_,q}
  ·obtain⟨o',q⟩:=F.there b o e hf;exact{o',F.fl.1 b o' q}
 gj:=F.gj
 fG:=F.fG
 fH:=F.fH
theorem qL.XI(F:qL P w mg outer H H' h0 a cls a0 B h):kB P w H' h:=F.aH.kept F.fl.1
theorem qL.hn(F:qL P w mg outer H H' h0 a cls a0 B h):H' a=none:=by cases q:H' a with|none=>rfl|some o=>obtain⟨u,e⟩:=(F.aH a o q).get;rw[F.fl.2.1]at e;cases e
theorem qL.loose(F:qL P w mg outer H H' h0 a cls a0 B h):qL P w (λ_=>some cls) outer H H' h0 a cls a0 B h:={F.fl,F.aH,F.keep,F.there,F.slot,F.free,F.gj,F.fG,F.fH,.inr rfl}
theorem qL.on(F:qL P w mg outer H H' h0 a cls a0 B h)(f2:Heap.FlyingW B outer a cls a0 h2)(u2:h.UpToSlots h2)(c2:FL .none a h2\/mg "NoMark"= some cls):qL P w mg outer H H' h0 a cls a0 B h2 where
 cx:=c2
 fl:=f2
 aH:=F.aH
 keep:=F.keep
 there:=F.there
 slot:=λb o e hf=>by
  obtain⟨sl,q⟩:=F.slot b o e hf
  obtain⟨_,o1,q1,hd⟩:=F.fl.2.2.1.mem hf
  obtain⟨w5,q2⟩:=u2 b o1 q1 hd
  rw[q]at q1;cases q1
  exact⟨w5,q2⟩
 free:=F.free
 gj:=F.gj
 fG:=F.fG
 fH:=F.fH
end
def fj(P:Program)(w:World)(mg:Str->Option Value):AW:=λouter H s E e s'=>∃a cls a0 B H',e=.ref a/\s'.os=s.os/\AllBare s'.gens/\qL P w mg outer H H' s.heap a cls a0 B s'.heap/\E cls none H'
structure dj(X:Cx)(E:XK):Prop where
 ex:X.ex=[]
 st:X.stack=X.env::X.outer
 fr:X.env.frame=some X.env.locals
 xe:∀e s',wpAny (model X.prog X.w) X.A (leaving X.env e) (λ_ AX=>fj X.prog X.w X.mg X.outer X.uO X.dr E e AX) (λe' AX=>fj X.prog X.w X.mg X.outer X.uO X.dr E e' AX) s'->X.xe e s'
theorem uh{P:Program}{w:World}{K:Frag}{mg:Str->Option Value}{base:Heap}{N:List Str}{qual:Str}{scope:Scope}{f:Addr}{cd:Value}{A:Around}{outer:List Env}{s:Shared}{H:Hp}{E:XK} : dj (iz (fj P w mg) P w K mg base N qual scope f cd A outer s H E) E:={rfl,rfl,rfl,λ_ _ h=>h}
section
variable{X:Cx}{pins:List (Addr×Obj)}{σ:St}{H H':Hp}{s:Shared}{E E':XK}
theorem dj.mem(L:dj X E):b∈lq X.stack↔b=X.env.locals\/b∈X.fs:=by unfold Cx.fs lq;rw[L.st,List.filterMap_cons,L.fr];exact zg
theorem dj.D9(L:dj X E)(I:Inv X pins σ H s)(e:X.dr.heap.get? b=some o)(h:b∉X.fs):b∉lq X.stack:=λz=>by rcases L.mem.mp z with z|z;have:=zq e;have h2:=I.ok.above;rw[z]at this;exact absurd (zm this h2)<|yC _;exact h z
theorem dj.fly(L:dj X E)(I:Inv X pins σ H s)(F:qL X.prog X.w X.mg X.stack H H' s.heap a cls a0 B h)(f2:Heap.FlyingW B X.outer a cls a0 h2)(u2:h.UpToSlots h2)(c2:FL .none a h2\/X.mg "NoMark"= some cls):
  qL X.prog X.w X.mg X.outer X.uO H' X.dr.heap a cls a0 B h2 where
 cx:=c2
 fl:=f2
 aH:=F.aH
 keep:=λb o e n hf=>F.keep b o (I.base.keep b o e n hf<|by rw[L.ex];simp) (I.base.free b o e n<|by rw[L.ex];simp)<|L.D9 I e hf
 there:=λb o e hf=>by
  obtain⟨o',q⟩:=I.base.there b o e<|by rw[L.ex];simp
  exact F.there b o' q<|L.D9 I e hf
 slot:=λb o e hf=>by
  obtain⟨sl,q⟩:=I.base.slot b o e (I.ok.D8 b hf) hf<|by rw[L.ex];simp
  obtain⟨sl1,q1⟩:=F.slot b _ q<|L.mem.mpr<|.inr hf
  obtain⟨_,o2,q2,hd⟩:=F.fl.2.2.1.mem<|L.mem.mpr<|.inr hf
  obtain⟨w5,q3⟩:=u2 b o2 q2 hd
  rw[q1]at q2;cases q2
  exact⟨w5,q3⟩
 free:=λb o e n=>by
  obtain⟨o',q⟩:=I.base.there b o e<|by rw[L.ex];simp
  exact F.free b o' q<|I.base.free b o e n<|by rw[L.ex];simp
 gj:=λb xs e=>F.gj b xs<|I.base.gj b xs e
 fG:=λb o u e=>F.fG b o u<|I.base.fG b o u e
 fH:=λb ps e=>by
  obtain⟨m1,q1⟩:=I.base.fH b ps e
  obtain⟨m2,q2⟩:=F.fH b _ q1
  exact{m1++m2,by rw[q2,Array.append_assoc]}
theorem SK(L:dj X E)(hE:∀c d H',E' c d H'->E c d H'):Passes (fj X.prog X.w X.mg) X E':=λpins σ H s e s' I h=>by
 obtain⟨a,cls,a0,B,H',rfl,os,bare,F,q⟩:=h;refine L.xe _ _ ?_;have ug:X.A.frames=some (X.env::X.outer):=by rw[I.ok.frames,L.st]
 have fl:Heap.FlyingW B (X.env::X.outer) a cls a0 s'.heap:=by rw[<-L.st];exact F.fl
 rcases F.cx with hc|hc;obtain⟨f1,f2,f3,f4⟩:=fl;exact ON ug L.fr f1 f2 f3 f4.at hc λh2 f2 u2 c2=>{a,cls,a0,B,H',rfl,os.trans I.os,bare,L.fly I F f2 u2<|.inl c2,hE _ _ _ q};exact wpAny_leaves_onW ug L.fr fl λh2 f2 u2=>{a,cls,a0,B,H',rfl,os.trans I.os,bare,L.fly I F f2 u2<|.inr hc,hE _ _ _ q}
theorem OO(I:Inv X pins σ H s):kB X.prog X.w H (hideAll s.heap<|lq X.stack):=λa o e=>(I.aH a o e).lX (λb u hb q=>hideAll_get _ q λz=>by have n:=I.pV b z;rcases hb with rfl|hb;rw[e]at n;cases n;rw[hb]at n;cases n) (λ_ q=>q) λ_ _ q=>q
theorem Ba(L:dj X E)(I:Inv X pins σ H s)(hk:∀b o,s.heap.get? b=some o->h'.get? b=some o)(hn:s.heap.get? a=none)(he:h'.get? a=some oe)(hd:oe.data=.fields vs) (h0:vs[0]?=some a0) (h1:vs[1]?=some .none) (h2:vs[2]?=some c) (hc:c=.none\/X.mg "NoMark"= some oe.cls) (hE:E oe.cls none H):X.xe (.ref a) {s with heap:=h'}:=by
 refine L.xe _ _ ?_;have ug:X.A.frames=some (X.env::X.outer):=by rw[I.ok.frames,L.st]
 have V0:∀env∈X.stack,∀b,env.frame=some b->b∈lq X.stack:=λenv he b hb=>List.mem_filterMap.mpr ⟨env,he,hb⟩;have ff:s.heap.FunFrames (hideAll s.heap<|lq X.stack) (X.env::X.outer):=by rw[<-L.st];exact PySem.W.funFrames_hide I.stack V0
 have hb:(hideAll s.heap<|lq X.stack).get? a=none:=by cases z:(hideAll s.heap<|lq X.stack).get? a with|none=>rfl|some o=>have:=of_hideAll _ z;rw[hn]at this;cases this
 refine Kl (base:=hideAll s.heap<|lq X.stack) ug L.fr (λb o q=>hk b o<|of_hideAll _ q) hb (ff.of_keeps λb o q _=>{o,hk b o q,rfl}) he hd h0 h1 h2 λh2 x1 x4 c2=>?_;refine{a,oe.cls,a0,_,H,rfl,I.os,I.bare,{x1,OO I,λb o e n hf=>?_,λb o e hf=>?_,λb o e hf=>?_,λb o e n=>I.base.free b o e n<|by rw[L.ex];simp,I.base.gj,I.base.fG,I.base.fH,?_},hE};exact hideAll_get _ (I.base.keep b o e n hf<|by rw[L.ex];simp)<|L.D9 I e hf;obtain⟨o',q⟩:=I.base.there b o e (by rw[L.ex];simp);exact{o',hideAll_get _ q<|L.D9 I e hf};obtain⟨sl,q⟩:=I.base.slot b o e (I.ok.D8 b hf) hf (by rw[L.ex];simp);obtain⟨_,o2,q2,hd⟩:=I.ja.mem hf;obtain⟨w5,q3⟩:=x4 b o2 (hk _ _ q2) hd;rw[q]at q2;cases q2;exact⟨w5,q3⟩;rcases hc with rfl|hc;exact .inl c2;exact .inr hc
theorem oJ(L:dj X E)(I:Inv X pins σ H s)(hx:Heap.MadeExcOf s.heap h' a cls args)(hE:E cls none H):X.xe (.ref a) {s with heap:=h'}:=by obtain⟨t,he,_,_⟩:=hx.there;exact Ba L I (λb o q=>hx.keeps b o q) hx.new he rfl rfl rfl rfl (.inl rfl) hE
end
abbrev me:List Value:=[.type "ValueError",.type "Exception",.type "BaseException",.type "object"]
structure XC(K:Frag)(C:Addr):Prop where
 q:excIn K C me "ValueError.__new__"= true
def qM(h:Heap)(C:Addr)(bm:List Value):Prop:=∃N nm q bs hdct sn sub ab col dd k0 k1 k2 k3 k5 mN,h.get? C=some (excClassObj nm q C N bs bm hdct sn sub ab col dd k0 k1 k2 k3 k5 "ValueError.__new__")/\h.Ns N mN/\mN "__init__"= none/\OwnTail h me bm
theorem XC.at{K:Frag}{C:Addr}{h:Heap}(x:XC K C)(X:K.In h):∃bm,qM h C bm:=by have q:=x.q;unfold excIn at q;split at q;rename_i dd cd sl ho;split at q;rename_i C' bm' k0 k1 k2 k3 n k5 hm hs;simp only[zR,beq_iff_eq,Bool.not_eq_true']at q;obtain⟨⟨⟨⟨⟨q1,q2⟩,SM⟩,ht⟩,aH⟩,V1⟩:=q;subst q1;subst q2;obtain⟨nm,bs,mro,ns,qn,hd,sn,sub,ab,col,del⟩:=cd;dsimp only at hm SM aH V1;subst hm;subst SM;obtain⟨sl⟩:=sl;dsimp only at hs;subst hs;exact{bm',ns,nm,qn,bs,hd,sn,sub,ab,col,dd,k0,k1,k2,k3,k5,_,X _ _ ho,.of_isNs<|PySem.W.isNs_of_in X aH,PySem.W.nsMap_none_of_in X aH V1,PySem.W.tail_of_in X ht};cases q;cases q
theorem qM.base(x:qM h C bm):bm.contains (.type "BaseException")=true:=by obtain⟨_,_,_,_,_,_,_,_,_,_,_,_,_,_,_,_,_,_,_,T⟩:=x;exact T.hasType<|by decide
section
variable{C D:Addr}{bmD:List Value}{E:XK}
theorem xm{M:Model}{A:Around}{E:Value->Shared->Prop}{h:Heap}{g:Array GenState}{d:Drawn}{tk:Nat}{os:OsState}{a:Addr}{oe:Obj}{b:Bool}{Q:Bool->Shared->Prop}(L:Looks M h (isSubtype (.ref C)<|.ref D) b)(cD:qM h D bmD) (he:h.get? a=some oe) (FV:oe.cls=.ref C) (hq:Q b ⟨h,g,d,tk,os⟩):wpAny M A (excMatches (.ref a)<|.ref D) Q E ⟨h,g,d,tk,os⟩:=by
 have XJ:=cD.base;obtain⟨N',nm',q',bs',aas,sn',ab5,ab',ab6,Jz,k0',k1',k2',k3',k5',mN',hD,_,_,_⟩:=cD;have XM:(Value.ref D::bmD).contains (.type "BaseException")=true:=by rw[List.contains_cons,XJ,Bool.or_true]
 have f:=tc_notTuple;unfold excMatches;repeat (first|(with_reducible refine wpAny_loadPart_at he ?_;rw[FV])|with_reducible refine wpAny_loadPart_at hD ?_|with_reducible refine L.at ?_|(with_reducible refine wpAny_isSubtype_exc hD ?_;rw[XM])|wp_step)
 cases b<;>(wp_walk;exact hq)
end
def sS(a:Addr)(cls:Value):HO:=.ext λh=>∃o vs,h.get? a=some o/\o.cls=cls/\o.data=.fields vs
section
variable{P:Program}{w:World}{mg:Str->Option Value}{outer:List Env}{H H':Hp}{h0:Heap}{a:Addr}{cls a0:Value}{B h:Heap}
theorem qL.fresh(F:qL P w mg outer H H' h0 a cls a0 B h)(e:h0.get? b=some o):b≠a:=by rintro rfl;by_cases hf:b∈lq outer;obtain⟨_,o1,q1,hd⟩:=F.fl.2.2.1.mem hf;obtain⟨oe,vs,he,_,hdd,_⟩:=F.fl.first;rw[q1]at he;cases he;exact hd vs hdd;obtain⟨o',q⟩:=F.there b o e hf;rw[F.fl.2.1]at q;cases q
theorem qL.unT(F:qL P w mg outer H H' h0 a cls a0 B h):Un (lq outer) [] H (upd H' a u) h0 h where
 keep:=F.un.keep
 slot:=F.un.slot
 free:=λb o e n x=>by rw[ao<|F.fresh e];exact F.un.free b o e n x
 there:=F.un.there
 gj:=λb xs e=>by
  have q:=F.gj b xs e
  rw[ao<|aw q F.hn];exact q
 fG:=λb o xs e=>by
  have q:=F.fG b o xs e
  rw[ao<|aw q F.hn];exact q
 fH:=λb ps e=>by
  obtain⟨m,q⟩:=F.fH b ps e
  exact{m,by rw[ao<|aw q F.hn];exact q}
theorem qL.SN(F:qL P w mg outer H H' h0 a cls a0 B h):kB P w (upd H' a<|sS a cls) h:=λb u e=>by by_cases hb:b=a;subst hb;rw[aD]at e;cases e;obtain⟨oe,vs,he,hc,hd,_⟩:=F.fl.first;exact{⟨oe,vs,he,hc,hd⟩,⟨oe,he⟩,by rintro h1 h2 ⟨o,vs,q,r⟩ k;exact{o,vs,k o q,r}};rw[ao hb]at e;exact(F.XI b u e).lX (λ_ _ _ q=>q) (λc q=>by rw[ao<|aw q F.hn];exact q) λc xs q=>by rw[ao<|aw q F.hn];exact q
end
def XE(X:Cx)(pins:List<|Addr×Obj)(E:St->XK)(e:Value)(s':Shared):Prop:=∃aq H1 s1,Inv X pins aq H1 s1/\fj X.prog X.w X.mg X.stack H1 s1 (E aq) e s'
abbrev TX:=(St->XK)->TS
def SO(X:Cx)(st:List Stmt)(t:TX):Prop:=∀(pins:List (Addr×Obj))(s:Shared)(σ:St)(H:Hp)(D:Ends)(E:St->XK),Inv X pins σ H s->t E D σ H->wpAny (model X.prog X.w) X.A (execs st X.env) (SP X pins D) (XE X pins E) s
noncomputable abbrev Cx.jq(X:Cx)(a:Addr):Cx:={X with A:=X.A.mark<|some<|.ref a,calm:=false,xe:=λ_ _=>False}
section
variable{X:Cx}{pins:List (Addr×Obj)}{σ:St}{H:Hp}{s:Shared}
theorem Cx.Ok.jq(ok:X.Ok)(a:Addr):(X.jq a).Ok:={ok.mod,ok.kind,ok.glob,ok.blt,ok.above,ok.inj,ok.has,ok.Mi,λz=>(nomatch (show false=true from z)),ok.frames,ok.NA,ok.RE,ok.bs,ok.AG,ok.wY,ok.AH,ok.ja,ok.D8}
theorem Inv.jq(I:Inv X pins σ H s)(a:Addr):Inv (X.jq a) pins σ H s:={I.ok.jq a,I.os,I.bare,I.base,I.loc,I.cell,I.free,I.du,I.pin,I.aH,I.len}
theorem Inv.ve(I:Inv (X.jq a) pins σ H s)(ok:X.Ok):Inv X pins σ H s:=⟨ok,I.os,I.bare,I.base,I.loc,I.cell,I.free,I.du,I.pin,I.aH,I.len⟩
theorem name_goes(I:Inv X pins σ H s)(hN:X.N.Nodup)(hi:X.N[i]?=some n)(hx:X.env.scope.names.lookup n=some .local) (h:∀s',Inv X pins (σ.set i none) H s'->Q () s'):wpAny M A (do bindName X.env n .none;unbindBehindTheSuite X.env n pos) Q E s:=by
 obtain⟨m,hn,hl⟩:=id I.loc;have FV:(X.env.scope.kind==.class||(X.env.scope.kind==.module&&X.env.locals != X.env.globals))=false:=by rw[I.ok.kind];rfl
 have JK:i<σ.length:=by rw[I.len];exact(zt.mp hi).1
 have old:∀b o,X.dr.heap.get? b=some o->b≠X.env.locals:=λb o e=>zx<|zm (zq e) I.ok.above;refine wpAny_nameGoes_keeps hx hn FV λh' v Jw hs=>h _ ?_;refine{I.ok,I.os,I.bare,{λb o e n hb hx=>(hs.2 b<|old b o e).trans<|I.base.keep b o e n hb hx,λb o e n hb hx=>?_,I.base.free,λb o e hx=>?_,I.base.gj,I.base.fG,I.base.fH},{_,Jw,λj y v' e1 e2 e3=>?_},λy c e=>?_,I.free,I.du,λp hp=>?_,λb ob e=>?_,by simpa using I.len};obtain⟨sl,e1⟩:=I.base.slot b o e n hb hx;exact{sl,(hs.2 b<|old b o e).trans e1};obtain⟨o',e1⟩:=I.base.there b o e hx;exact{o',(hs.2 b<|old b o e).trans e1};have hj:j≠i:=by rintro rfl;rw[List.getElem?_set_self JK]at e2;cases e2
 rw[List.getElem?_set_ne<|Ne.symm hj]at e2;obtain⟨u',r',q⟩:=hl j y v' e1 e2 e3;refine{u',r',?_};have hy:y≠n:=λe=>hj<|qp hN e1<|e ▸ hi;rcases q with⟨k,e⟩|⟨k,c,e,z⟩;exact .inl {k,by show(if y=n then v else m y)=some u';rw[if_neg hy];exact e};exact .inr {k,c,e,z.sameBut hs<|I.JJ y c e};obtain⟨w',z⟩:=I.cell y c e;exact{w',z.sameBut hs<|I.JJ y c e};obtain⟨e,n,ne,nf,d⟩:=I.pin p hp;exact{(hs.2 p.1 ne).trans e,n,ne,nf,d};refine(I.aH b ob e).lX (λc w' hc q=>(hs.2 c ?_).trans q) (λ_ q=>q) λ_ _ q=>q;rintro rfl;rcases hc with z|z;rw[<-z,I.free]at e;cases e;rw[I.free]at z;cases z
end
noncomputable def Ends.less(D:Ends)(i:Nat):Ends:={nx:=λσ H=>D.nx (σ.set i none) H,rt:=D.rt,bk:=λσ H=>D.bk (σ.set i none) H,ct:=λσ H=>D.ct (σ.set i none) H}
def XN(K:Frag)(i:Nat)(C0:Addr)(tb:TX)(ts:TS):TS:=λD σ H=>tb (λaq cls _ H'=>∃C,cls=.ref C/\mroIn K C (.ref C0)=some true/\∀a,H' a=none->ts (D.less i) (aq.set i<|some<|.ref a) (upd H' a<|sS a<|.ref C)) D σ H
section
variable{X:Cx}{i:Nat}{n x:Str}{C0:Addr}{body xn:List Stmt}{GS:Stmt}{np Eu pos:Pos}{tb:TX}{ts:TS}
theorem OP(lS:X.stack=X.env::X.outer)(fr:X.env.frame=some X.env.locals)(hN:X.N.Nodup)(hi:X.N[i]?=some n)(hx:X.env.scope.names.lookup n=some .local)(XO:Gl X x)(hm:X.mg x=some (.ref C0))(c0:XC X.K C0) (hb:SO X body tb) (hs:∀a,AJ (X.jq a) (GS::xn) ts) (jb:autoParam ((x==("__debug__": Str))=false) qQZ): PS X (.Try body [.ExceptHandler (some<|.Name x np) (some n) (GS::xn) Eu] [] [] pos) (XN X.K i C0 tb ts):=by intro pins s σ H D I h;refine wpAny_Try_except<|yq (hb pins s σ H D _ I h) (λf s1 q=>?_) λe s1 q=>?_;{cases f with|next=>(obtain⟨aq,H',I',q⟩:=q;exact CL pins s1 aq H' D I' q)|ret v=>exact q|brk=>exact q|cont=>exact q};{obtain⟨aq,H1,s2,I2,a,cls,a0,B,H',rfl,os,bare,F,C,rfl,OQ,hq⟩:=q;have ug:X.A.frames=some (X.env::X.outer):=(by rw[I.ok.frames,lS]);have fl:Heap.FlyingW B (X.env::X.outer) a (.ref C) a0 s1.heap:=(by rw[<-lS];exact F.fl);refine wpAny_looks_onW ug fr fl λh4 SQ u4=>?_;refine wpAny_landsW SQ λh5 f5 u5=>?_;have F5:qL X.prog X.w (λ_=>some<|.ref C) X.stack H1 H' s2.heap a (.ref C) a0 B h5:=F.loose.on (by rw[lS];exact f5) (u4.trans u5)<|.inr rfl;have I5:Inv X pins aq (upd H' a<|sS a<|.ref C) {s1 with heap:=h5}:=I2.FW (ch:=[]) os F5.unT F5.SN bare λb z=>absurd z (by simp);refine wpAny_handleBy_cons (codeAny_handlers_test<|iw (I5.jq a) XO hm ?_ jb) (by intro q;cases q);obtain⟨oe,vs,he,hc,hd,_⟩:=F5.fl.first;obtain⟨bm0,c0'⟩:=c0.at I5.kC;refine xm (PySem.W.looks_mroIn I5.kC OQ) c0' he hc ?_;refine codeAny_handlers_suite_as ?_;refine lands_againW f5 λh6 f6 u6=>?_;have F6:qL X.prog X.w (λ_=>some<|.ref C) X.stack H1 H' s2.heap a (.ref C) a0 B h6:=F5.on (by rw[lS];exact f6) u6<|.inr rfl;have I6:Inv X pins aq (upd H' a<|sS a<|.ref C) {s1 with heap:=h6}:=I2.FW (ch:=[]) os F6.unT F6.SN bare λb z=>absurd z (by simp);refine lZ (X:=X.jq a) (I6.jq a) hN hi (.inl hx) (v:=.ref a) rfl (λs7 I7=>?_)<|.inr hx;refine yq (hs a pins s7 _ _ _ I7<|hq a F.hn) (λf s8 q8=>?_) λ_ _ z=>False.elim z;cases f with|next=>(obtain⟨Km,H8,I8,q8⟩:=q8;exact name_goes (I8.ve I.ok) hN hi hx λs9 I9=>{_,H8,I9,q8})|brk=>(obtain⟨Km,H8,I8,q8⟩:=q8;exact name_goes (I8.ve I.ok) hN hi hx λs9 I9=>{_,H8,I9,q8})|cont=>(obtain⟨Km,H8,I8,q8⟩:=q8;exact name_goes (I8.ve I.ok) hN hi hx λs9 I9=>{_,H8,I9,q8})|ret u=>obtain⟨v,Km,H8,I8,r8,q8⟩:=q8;exact name_goes (I8.ve I.ok) hN hi hx λs9 I9=>{v,_,H8,I9,r8,q8}}
end
structure XA(K:Frag)(C:Addr):Prop where
 ga:findIn K (.ref C) "__getattribute__"= some (some<|.builtin "BaseException.__getattribute__")
 gh:findIn K (.ref C) "__getattr__"= some none
 cl:findIn K (.ref C) "__class__"= some (some<|.builtin "object.__class__")
section
variable{prog:Program}{w:World}{A:Around}{E:Value->Shared->Prop}{h:Heap}{g:Array GenState}{d:Drawn}{t:Nat}{os:OsState}{a:Addr}{o:Obj}{C:Addr}{bm:List Value}{K:Frag}
theorem OR(c:qM h C bm)(OS:bm.contains (.type "object")=true)(hx:h.get? a=some o)(hc:o.cls=.ref C)(hq:R (.ok<|.ret<|.ref C) ⟨h,g,d,t,os⟩): codeAny (model prog w) A (.call (.builtin "getset_descriptor.__get__") {[.builtin "object.__class__",.ref a,.ref C],[]}) R ⟨h,g,d,t,os⟩:=by
 obtain⟨N,nm,q,bs,hdct,sn,sub,ab,col,dd,k0,k1,k2,k3,k5,mN,hC,_,_,_⟩:=c;have hT5:(⟨h,g,d,t,os⟩:Shared).TypeIs (.builtin "object.__class__") "getset_descriptor":=F.typeOf_object_class;have ow: ".".intercalate ("object.__class__".cutAt '.').dropLast ="object":=by trivial
 have XM:(Value.ref C::bm).contains (.type<|".".intercalate ("object.__class__".cutAt '.').dropLast)=true:=by rw[ow,List.contains_cons,OS,Bool.or_true]
 refine codeAny_call_builtin F.slot_gs_get.plain F.entry_gs_get<|F.slot_gs_get.check _ _ _ _ _ _ _ _ hT5 (F.args_gs_get _ _ _) ?_;repeat (any_goals (first|assumption|(with_reducible refine wpAny_loadPart_at hx ?_;rw[hc])|(with_reducible refine wpAny_isSubtype_exc hC ?_;rw[XM])|wp_step))
 refine{Code.quiet_builtin _<|by trivial,yJ F.entry_object_class ?_};repeat (any_goals (first|assumption|(with_reducible refine wpAny_loadPart_at hx ?_;rw[hc])|wp_step))
theorem GU(c:qM h C bm)(hx:h.get? a=some o)(hc:o.cls=.ref C)(hq:Q () ⟨h,g,d,t,os⟩):wpAny M A (checkBuiltinCall "BaseException.__getattribute__" {[.ref a,nameV],[]}) Q E ⟨h,g,d,t,os⟩:=by
 have hb:=c.base;obtain⟨N,nm,q,bs,hdct,sn,sub,ab,col,dd,k0,k1,k2,k3,k5,mN,hC,_,_,_⟩:=c;have k1:builtinKind "BaseException.__getattribute__"= some .slot:=by trivial
 have k2:splitId "BaseException.__getattribute__"= some ("BaseException","__getattribute__"):=by trivial
 have hB:(Value.ref C::bm).contains (.type "BaseException")=true:=by rw[List.contains_cons,hb,Bool.or_true]
 have ha:=F.args_bexc_ga (.ref a) nameV;simp only[checkBuiltinCall,k1,k2];refine za ?_;unfold isInstance;repeat (first|(with_reducible refine wpAny_loadPart_at hx ?_;rw[hc])|(with_reducible refine wpAny_isSubtype_exc hC ?_;rw[hB])|wp_step)
 exact hq
theorem GV(X:K.In h)(xa:XA K C)(c:qM h C bm)(OS:bm.contains (.type "object")=true)(hx:h.get? a=some o)(hc:o.cls=.ref C)(hq:Q (.done<|.ret<|.ref C) ⟨h,g,d,t,os⟩): wpAny (model prog w) A (Builtin.«object.__getattribute__» {[.ref a,.str "__class__" tk],[]}) Q E ⟨h,g,d,t,os⟩:=by
 have hT5:(⟨h,g,d,t,os⟩:Shared).TypeIs (.builtin "object.__class__") "getset_descriptor":=F.typeOf_object_class;have L1:=looks_findIn (M:=model prog w) X xa.cl;have f5:=F.typeOf_object_class;have f6:=F.slot_gs_get.lookup;have f7:=F.slot_gs_set.lookup;repeat (any_goals (first|assumption|(with_reducible refine wpAny_loadPart_at hx ?_;rw[hc])|with_reducible refine L1.at ?_|wp_step))
 refine OR c OS hx hc ?_;repeat (any_goals (first|assumption|wp_step))
theorem SR(X:K.In h)(xa:XA K C)(c:qM h C bm)(OS:bm.contains (.type "object")=true)(hx:h.get? a=some o)(hc:o.cls=.ref C)(hq:Q (.ref C) ⟨h,g,d,t,os⟩): wpAny (model prog w) A (getAttrBy (.ref a) (.str "__class__" tk) false) Q E ⟨h,g,d,t,os⟩:=by
 have FB:=F.attrBase_ValueError;have f3:=FB.ga.bind<|.ref a;have L1:=looks_findIn (M:=model prog w) X xa.ga;have L2:=looks_findIn (M:=model prog w) X xa.gh;have GW:(Value.builtin "BaseException.__getattribute__"== Value.builtin "object.__getattribute__")=false:=by trivial
 have hx0:(false&&onTheHeap (Value.builtin "BaseException.__getattribute__"))=false:=rfl;have Ew:(onTheHeap (Value.ref C)&&Value.builtin "BaseException.__getattribute__"== Value.builtin "object.__getattribute__")=false:=by rw[GW];rfl
 repeat (any_goals (first|assumption|(with_reducible refine wpAny_loadPart_at hx ?_;rw[hc])|with_reducible refine L1.at ?_|with_reducible refine L2.at ?_|wp_step))
 refine codeAny_call_builtin FB.ga.plain F.entry_bexc_ga<|GU c hx hc<|GV X xa c OS hx hc ?_;repeat (any_goals (first|assumption|wp_step))
theorem GX(X:K.In h)(xa:XA K C)(c:qM h C bm)(OS:bm.contains (.type "object")=true)(hx:h.get? a=some o)(hc:o.cls=.ref C)(hq:Q (some<|.ref C) {h,g,d,t+1,os}): wpAny (model prog w) A (getAttr? (.ref a) "__class__") Q E ⟨h,g,d,t,os⟩:=by unfold getAttr? getAttrBy?;repeat (any_goals (first|assumption|with_reducible apply SR X xa c OS hx hc|wp_step))
end
theorem qM.obj(x:qM h C bm):bm.contains (.type "object")=true:=by obtain⟨_,_,_,_,_,_,_,_,_,_,_,_,_,_,_,_,_,_,_,T⟩:=x;exact T.hasType<|by decide
theorem xo{K:Frag}{a C:Addr}(c:XC K C)(xa:XA K C):KitX K (.ref a) (.ref C) (λh=>∃o vs,h.get? a=some o/\o.cls=.ref C/\o.data=.fields vs) where
 ty:=by
  rintro M h X ⟨o,vs,hx,hc,_⟩
  exact hc ▸ (PySem.W.Looks.ld hx).andThen .now
 it:=λM h X _=>by
  obtain⟨bm,N,nm,q,bs,hdct,sn,sub,ab,col,dd,k0,k1,k2,k3,k5,mN,hC,_,_,_⟩:=c.at X
  intro A Q E s k q
  unfold isType loadHead
  exact za<|wpAny_loadPart (k _ _ hC)<|zf q
 ne:=λh tp dd au n sl X htp=>by
  obtain⟨bm,N,nm,q,bs,hdct,sn,sub,ab,col,Jz,k0,k1,k2,k3,k5,mN,hC,_,_,_⟩:=c.at X
  refine Bool.eq_false_iff.mpr λz=>?_
  have e:C=tp:=Value.ref.inj<|beq_iff_eq.mp z
  subst e
  have q:=congrArg (λx=>x.map (·.cls))<|hC.symm.trans htp
  have q:some (Value.type "type")=some (Value.type "tuple"):=q
  exact absurd q<|by decide
 ca:=λ{prog w A E Q s} X ⟨o,vs,hx,hc,_⟩ k=>by
  obtain⟨h,g,d,t,os⟩:=s
  obtain⟨bm,c'⟩:=c.at X
  exact GX X xa c' c'.obj hx hc k
section
variable{X:Cx}
theorem vf:dw X (.builtin "isinstance") (λxs H Q=>∃a C c u b,xs=[.ref a,c]/\H a=some (sS a<|.ref C)/\XC X.K C/\XA X.K C/\RelV c u/\(∀u',RelV c u'->u'=u)/\kitOne X.K (.ref C) u=some b/\Q (.bl b) H):=by intro pins s σ H xs us Q I r h;obtain⟨a,C,c,u,b,rfl,ha,cC,xa,rc,uc,e,q⟩:=h;obtain⟨v,w',rfl,rv,nz⟩:=vals2 r;have:=uc w' nz;subst this;cases (show v=Value.ref a from rv);obtain⟨p,_⟩:=I.aH a _ ha;exact kia_one (xo cC xa) I.kC p e (λz=>nomatch z) λtk=>{.bl b,H,I.tok tk,rfl,q}
theorem Mz(L:dj X E):Passes (fj X.prog X.w X.mg) X E:=SK L λ_ _ _ h=>h
end
theorem kR{X:Cx}{K:Frag}(hK:X.K=K):dw X (.builtin "isinstance") (λxs H Q=>∃a C c u b,xs=[.ref a,c]/\H a=some (sS a<|.ref C)/\XC K C/\XA K C/\RelV c u/\(∀u',RelV c u'->u'=u)/\kitOne K (.ref C) u=some b/\Q (.bl b) H):=by subst hK;exact vf
noncomputable def iY(l:List Str):List Str:=l.foldl (λc x=>if x∈c then c else c++[x]) []
theorem xp(l:List Str)(x:Str):iY (l++[x])=if x∈iY l then iY l else iY l++[x]:=by unfold iY;rw[List.foldl_append];rfl
theorem Ko:∀(l:List Str),(iY l).length<=l.length:=λl=>by
 have all:∀(r c:List Str),(r.foldl (λc x=>if x∈c then c else c++[x]) c).length<=c.length+r.length:=by intro r;induction r with|nil=>intro c;simp|cons x r ih=>intro c;rw[yI];refine zK (ih _) ?_;split<;>simp<;>try lia
 simpa [iY]using all l []
section
variable{prog:Program}{w:World}{A:Around}{R:Result->Shared->Prop}{I:Addr}{fp wr:List Addr}{G:Array GenState->Array GenState->Prop}{n:Nat}{P:Nat->Value->Prop}{St:Nat->Shared->Prop}
theorem GY(W:WalksS prog w A.in1 I fp wr G n P St)(S:Addr)(hSf:S∉fp)(xs:List Str)(hx:xs.length=n)(OT:∀i v,P i v->∃x t,xs[i]?=some x/\v=.str x t)(hb:n+1<scanBound): ∀(k i:Nat)(s:Shared),i+k=n->St i s->s.heap.SetOf (strKind prog w) S (λy=>decide<|y∈iY (xs.take i)) (iY<|xs.take i).length->(∀s',Moved (S::wr) G s s'->s'.heap.SetOf (strKind prog w) S (λy=>decide<|y∈iY xs) (iY xs).length->R (.ok<|.ret .none) s')->codeAny (model prog w) A (.builtin "set.update.loop" {[.ref S,.ref I],[]}) R s:=by have nw:S∉wr:=λh=>hSf<|W.sub _ h;have up:∀b∈wr,b∈S::wr:=λb hb=>zj _ hb;have mv:∀{i:Nat}{s s':Shared},Moved wr G s s'->s.heap.SetOf (strKind prog w) S (λy=>decide<|y∈iY (xs.take i)) (iY<|xs.take i).length->s'.heap.SetOf (strKind prog w) S (λy=>decide<|y∈iY (xs.take i)) (iY<|xs.take i).length:=λhm ⟨o,es,ep,tb,ho,rest⟩=>{o,es,ep,tb,hm.heap S _ nw ho,rest};intro k;induction k with|zero=>intro i s hk lS hS hR;have e:i=n:=(by lia);subst e;refine yJ F.entry_set_update_loop ?_;rw[Around.under_plainId F.plain_set_update_loop _];show wpAny _ A.in1 (pyNext (.ref I) >>=_) _ _ s;refine za<|W.done s _ _ lS λs' hm=>?_;show wpAny _ A.in1 (ret Value.none) _ _ s';have q:=mv hm hS;rw[<-hx,yG]at q;exact zf (hR s' (hm.mono up) q)|succ k ih=>intro i s hk lS hS hR;have lt:i<n:=(by lia);refine yJ F.entry_set_update_loop ?_;rw[Around.under_plainId F.plain_set_update_loop _];show wpAny _ A.in1 (pyNext (.ref I) >>=_) _ _ s;refine za<|W.item i s _ _ lt lS λv s' hP OU hm=>?_;obtain⟨x,t,ex,rfl⟩:=OT i v hP;have q:=mv hm hS;show wpAny _ A.in1 (holding [Value.str x t] (setAdd S<|.str x t) >>=_) _ _ s';refine za<|yg ?_;unfold setAdd;refine yg ?_;refine za<|(strKind prog w).pyHash (k:=x) (strKind_is _ _ _ _) ?_;have room:(iY<|xs.take i).length+1<scanBound:=(by have:=Ko<|xs.take i;rw[yf]at this;lia);refine wpAny_setAddHashed_of (knd:=strKind prog w) (s:={s' with toks:=s'.toks+1}) (strKind_is _ _ _ _) rfl q room λh' Kq q2=>?_;have tk:xs.take (i+1)=xs.take i++[x]:=(by rw[List.take_succ,ex];rfl);have qi:h'.SetOf (strKind prog w) S (λy=>decide<|y∈iY (xs.take<|i+1)) (iY<|xs.take<|i+1).length:=(by refine SetOf_congr q2 (λy=>?_) ?_;rw[tk,xp];by_cases h:x∈iY (xs.take i);rw[if_pos h];by_cases hy:y=x;subst hy;simp[h];simp[hy];rw[if_neg h];simp;rw[tk,xp];by_cases h:x∈iY (xs.take i);rw[if_pos h,if_pos<|by simpa using h];rw[if_neg h,if_neg<|by simpa using h];simp);refine zf {plainId_quiet F.plain_set_update_loop _,ih (i+1) _ (by lia) (W.frame _ s' _ _ OU (yU _) λb hb o e=>?_) qi λAX OV XR=>?_};rw[Kq.2 b (λh:b=S=>hSf<|by rw[<-h];exact hb)];exact e;refine hR AX (Moved.trans W.gtrans ((hm.mono up).then_heap (yU _) λb o hb e=>?_) OV) XR;rw[Kq.2 b (λh:b=S=>hb<|by rw[h];exact zy)];exact e
theorem xq(hh:A.handled=none)(hl:s.heap.IsList l items)(hx:xs.length=items.size) (hi:∀(i:Nat)(v:Value),items[i]?=some v->∃x t,xs[i]?=some x/\v=.str x t) (hb:items.size+1<scanBound) (h:∀(h':Heap)(tk:Nat),h'.SetOf (strKind prog w) s.heap.objs.size (λy=>decide<|y∈iY xs) (iY xs).length->(∀b o,b<s.heap.objs.size->s.heap.get? b=some o->h'.get? b=some o)->Q (.ref s.heap.objs.size) {s with heap:=h',toks:=tk}): wpAny (model prog w) A (call (.type "set") [.ref l]) Q E s:=by
 obtain⟨c,tl,m0⟩:=F.called_set.mro;have m1:=F.called_set.made;have m2:=F.called_set.sub;refine wpAny_call<|codeAny_of_tree ?_;show wpAny _ _ (callAny (.type "set") _) _ _ _;refine zf {Code.quiet_builtin _<|by trivial,yJ F.entry_type_call ?_};rw[Around.under_plain (weight_type_call_type "set" [.ref l] []) rfl];have m3:=F.called_set.notType;have m4:=F.called_set.canCreate;have m5:=F.typeCall_set_1<|.ref l;repeat (any_goals (first|assumption|wp_step))
 refine yO (code_set_new_1 (.ref l) (E:=E) (Q₁:=λob s1=>∃led:Bool,ob=.ref s.heap.objs.size/\s1={s with heap:=s.heap.push {cls:=.type "set",dict:=none,data:=.set #[] 0 (.fresh 0 0 led)}}) λled=>⟨led,rfl,rfl⟩) λr s1 hr=>?_
 cases r with
 |error e=>exact hr
 |ok fl =>
  cases fl with
  |ret ob =>
   obtain⟨led,rfl,rfl⟩:=hr;generalize hO:({cls:=.type "set",dict:=none,data:=.set #[] 0 (.fresh 0 0 led)} : Obj)=O;have gS:(s.heap.push O).get? s.heap.objs.size=some O:=zi _ (by rw[<-hO];rfl);have tS:Shared.TypeIs {s with heap:=s.heap.push O} (.ref s.heap.objs.size) "set":={_,gS,by rw[<-hO]};have i1:=F.called_set.init.lookup;have i2:=F.called_set.init.bind<|.ref s.heap.objs.size;(repeat (any_goals (first|assumption|wp_step)));refine yO (codeAny_call_builtin (R:=wants (λr s2=>r=.none/\∃h' tk,s2={s with heap:=h',toks:=tk}/\h'.SetOf (strKind prog w) s.heap.objs.size (λy=>decide<|y∈iY xs) (iY xs).length/\(∀b o,b<s.heap.objs.size->s.heap.get? b=some o->h'.get? b=some o)) E) F.called_set.init.plain F.entry_set_init<|check_set_init_1 tS ?_) λr2 s2 XS=>?_
   ·obtain⟨ol,gl,cl,nl,dl⟩:=hl;obtain⟨ab_,SS,aax,OW⟩:=ol;simp only at cl dl;subst cl;subst dl;have SU:(s.heap.push O).get? l=some {cls:=.type "list",dict:=SS,data:=.seq items nl,slots:=OW}:=zb _ gl;have j1:=F.sub_list_set;have j2:=F.sub_list_frozenset;have j3:(Value.type "list"== Value.type "dict")=false:=(by decide);have il:(s.heap.push O).IsList l items:={_,SU,rfl,nl,rfl};subst hO;unfold Builtin.«set.__init__» noKeywords Builtin.Frozenset.updateFrom;generalize hPI:pyIter=PI;wp_walk;subst hPI;refine wpAny_pyIter_list il ?_;refine za<|wpAny_runValue ?_;have ll:l<s.heap.objs.size:=zq gl;have h3:A.in1.in1.in1.handled=none:=(by simp[hh]);have ne:l≠(s.heap.push {cls:=.type "set",dict:=none,data:=.set #[] 0 (.fresh 0 0 led)}).objs.size:=(by rw[yd];exact zx<|Nat.lt_succ_of_lt ll);have nf:s.heap.objs.size∉[(s.heap.push {cls:=.type "set",dict:=none,data:=.set #[] 0 (.fresh 0 0 led)}).objs.size,l]:=(by rw[yd];simp only[zg,zr,zG,or_false,not_or];exact{zx<|Nat.lt_succ_self _,yr ll});refine GY ((Walks.list h3 _ l ne items).toS) s.heap.objs.size nf xs hx hi hb (items.size-0) 0 _ (by lia) {{_,zi _ rfl,rfl,rfl},(il.push _)} ?hS0 ?hR
    case hS0 =>
     have gg:=zb {cls:=.type "list_iterator",data:=.fields #[.ref l,.int 0 0]} gS
     exact SetOf_congr ((setObjOf_fresh (knd:=strKind prog w) led).setOf gg<|by unfold scanBound;lia) (λ_=>rfl) rfl
    case hR =>
     intro s' hm q
     obtain⟨h',g',d',Q1,R7⟩:=s'
     have eg:g'=s.gens:=hm.gens;have ed:d'=s.drawn:=hm.drawn;have eo:R7=s.os:=hm.os
     subst eg;subst ed;subst eo
     show wpAny _ _ _ _ _ _;refine zf ?_;show wpAny _ _ (ret Value.none) _ _ _
     refine zf {rfl,h',Q1,rfl,q,λb o hb e=>?_}
     have b2:b≠(s.heap.push {cls:=.type "set",dict:=none,data:=.set #[] 0 (.fresh 0 0 led)}).objs.size:=by rw[yd];exact zx<|Nat.lt_succ_of_lt hb
     refine hm.heap b o ?_<|zb _<|zb _ e
     simp only[zg,zr,zG,or_false,not_or];exact{zx hb,b2}
   {cases r2 with|error e=>exact XS|ok f2=>cases f2 with|ret r=>(obtain⟨rfl,h',tk,rfl,q,k'⟩:=XS;(repeat (any_goals (first|assumption|wp_step)));exact h _ _ q k')|_=>exact XS.elim}
  |_=>exact hr.elim
end
noncomputable def OX(P:Program)(w:World)(a:Addr)(xs:List Str):HO:=.ext λh=>h.SetOf (strKind P w) a (λy=>decide<|y∈iY xs) (iY xs).length
theorem Kr(q:h.SetOf (strKind P w) a (λy=>decide<|y∈iY xs) (iY xs).length):aU P w H h a (OX P w a xs):=by obtain⟨o,es,ep,t,ho,rest⟩:=id q;exact{q,⟨o,ho⟩,by rintro h1 h2 ⟨o,es,ep,t,ho,rest⟩ k;exact{o,es,ep,t,k _ ho,rest}}
theorem xr:∀{xs:List Str}{au:List Value},Vals (xs.map V.str) au->∀(i:Nat)(v:Value),au[i]?=some v->∃x t,xs[i]?=some x/\v=.str x t|[],_,.nil,i,v,e=>by simp at e|x::xs,_,.cons r rs,0,v,e=>(by obtain⟨t,q⟩:=r;simp at e;exact{x,t,rfl,by rw[<-e];exact q})|x::xs,_,.cons r rs,i+1,v,e=>by obtain⟨y,t,e1,e2⟩:=xr rs i v (by simpa using e);exact{y,t,by simpa using e1,e2}
section
variable{X:Cx}
theorem Ex{P:Program}{w:World}{K:Frag}(hP:X.prog=P)(hw:X.w=w)(hK:X.K=K)(hc:X.calm=true): dw X (.type "set") (λvs H Q=>∃p xs,vs=[.ref p]/\ji K H p (xs.map V.str)/\xs.length<4000/\∀l,H l=none->Q (.ref l) (upd H l<|OX P w l xs)):=by
 subst hP;subst hw;subst hK;intro pins s σ H vs us Q I r h;obtain⟨p,xs,rfl,hq,hz,q⟩:=h;obtain⟨u,rfl,rx⟩:=vals1 r;cases rx;obtain⟨au,r',pl,_⟩:=I.list hq;have hlen:xs.length=au.toArray.size:=by have:=r'.length;simpa using this
 refine xq (I.ok.hd hc) pl.isList hlen (λi v e=>xr r' i v<|by simpa using e) (by rw[<-hlen];unfold scanBound;lia) λh' tk qs kp=>?_;refine{.ref s.heap.objs.size,_,I.laid (t':=tk) (λb o e=>kp b o (zq e) e) (zl _)<|Kr qs,rfl,q _<|I.aH.fresh<|zl _}
theorem Ey(hP:X.prog=P)(hw:X.w=w):dw X (.builtin "len") (λvs H Q=>∃a xs,vs=[.ref a]/\H a=some (OX P w a xs)/\Q (.int (iY xs).length) H):=by subst hP;subst hw;intro pins s σ H vs us Q I r h;obtain⟨a,xs,rfl,ha,q⟩:=h;obtain⟨u,rfl,rx⟩:=vals1 r;cases rx;obtain⟨⟨o,es,ep,t,ho,hex,hd,XT,OY,hb,hf,hn⟩,_⟩:=I.aH a _ ha;refine call_len_set ho hex hd hf (by unfold scanBound at hb;lia) ?_;exact{.int (iY xs).length,H,I.tok _,{_,by rw[hn]},q}
end
theorem ui(l:List Str):(iY l).length=l.length↔l.Nodup:=by
 have all:∀(r c:List Str),c.Nodup->((r.foldl (λc x=>if x∈c then c else c++[x]) c).length=c.length+r.length↔(c++r).Nodup):=by intro r;induction r with|nil=>intro c hc;simpa using hc|cons x r ih=>intro c hc;rw[yI];by_cases h:x∈c;{rw[if_pos h];have le:(r.foldl (λc x=>if x∈c then c else c++[x]) c).length<=c.length+r.length:=(by have all2:∀(r c:List Str),(r.foldl (λc x=>if x∈c then c else c++[x]) c).length<=c.length+r.length:=(by intro r;induction r with|nil=>intro c;simp|cons x r ih=>intro c;rw[yI];refine zK (ih _) ?_;split<;>simp<;>try lia);exact all2 r c);refine{λe=>by simp at e;lia,λe=>?_};exact absurd rfl<|(List.nodup_append.mp e).2.2 x h x<|by simp};rw[if_neg h];have FI:(c++[x]).Nodup:=l_ hc h;have:=ih (c++[x]) FI;simp only[zp,zD,List.length_nil,List.append_assoc,List.singleton_append]at this⊢;rw[<-this];constructor<;>intro e<;>lia
 simpa [iY]using all l [] List.nodup_nil
theorem iZ:entryFor table "dict.update.loop"= some Builtin.«dict.update.loop»:=entryFor_of_tree<|by kernel_rfl
theorem dA:plainId "dict.update.loop"= true:=by trivial
theorem sT:typeLookup (.type "tuple") "keys"= pure none:=by rw[typeLookup_type,builtinLookup_eq_fast];kernel_rfl
section
variable{prog:Program}{w:World}{A:Around}{E:Value->Shared->Prop}{s:Shared}
theorem sU(hx:s.heap.get? a=some o)(hc:o.cls=.type "tuple")(SV:o.data=.seq xs k)(hd:o.dict=none)(hA:A.handled=none) (h:∀h' tk,(∀b ob,s.heap.get? b=some ob->h'.get? b=some ob)->Q none {s with heap:=h',toks:=tk}):wpAny (model prog w) A (getAttr? (.ref a) "keys") Q E s:=by
 obtain⟨c,cB,dat,sl⟩:=o;simp only at hc SV hd;subst hc SV hd;obtain⟨hp,g,d,tk,os⟩:=s;have hT:∀Q1,(⟨hp,g,d,Q1,os⟩:Shared).TypeIs (.ref a) "tuple":=λ_=>{_,hx,rfl};have f1:=sub_AttributeError;have f3:=F.slot_tuple_getattribute.lookup;have f4:=F.slot_tuple_getattribute.bind<|.ref a;have f5:=am_tuple_getattr_none;unfold getAttr? getAttrBy? getAttrBy;repeat (any_goals (first|assumption|exact hT _|((with_reducible show wpAny _ _ (call (Value.builtin "tuple.__getattribute__") _ _) _ _ _);refine call_meets F.slot_tuple_getattribute (hT _) am_entry_tuple_getattribute (F.args_tuple_getattribute_2 _ _) (meets_getattribute_miss_tuple a xs k sl "keys" _ sT (by trivial)<|by size_fits) {hx,hA,λh' Q1 e GZ=>?_})|wp_step))
 obtain⟨t',u',he⟩:=GZ.there;show wpAny _ _ (getattributeRaised _ _ _ _ _ _ _) _ _ _;unfold getattributeRaised;repeat (any_goals (first|assumption|wp_step))
 exact h _ _ GZ.keeps
end
section
variable{prog:Program}{w:World}{A:Around}{R:Result->Shared->Prop}{I:Addr}{fp wr:List Addr}{G:Array GenState->Array GenState->Prop}{n:Nat}{P:Nat->Value->Prop}{St:Nat->Shared->Prop}
theorem Ez(W:WalksS prog w A.in1 I fp wr G n P St)(D:Addr)(hDf:D∉fp)(kvs:List<|Key×Value)(hx:kvs.length=n)(base:Heap) (OT:∀i v,P i v->∃(b:Addr) (k:Key) (key val:Value) (o:Obj) (m:Nat),kvs[i]?=some (k,val)/\v=.ref b/\(aG prog w).is k key=true/\base.get? b=some o/\o.cls=.type "tuple"/\o.data=.seq #[key,val] m/\b≠D/\b∉wr) (hb:n<=sizeLine): ∀(k i:Nat) (s:Shared) (c:Int) (t:Tok),i+k=n->St i s->s.heap.DictOf (aG prog w) D (merged []<|kvs.take i)->(∀b o,base.get? b=some o->b≠D->b∉wr->s.heap.get? b=some o)->(∀s',Moved (D::wr) G s s'->s'.heap.DictOf (aG prog w) D (merged [] kvs)->R (.ok<|.ret .none) s')->codeAny (model prog w) A (.builtin "dict.update.loop" {[.ref D,.ref I,.int c t,.none],[]}) R s:=by have nw:D∉wr:=λh=>hDf<|W.sub _ h;have up:∀b∈wr,b∈D::wr:=λb hb=>zj _ hb;intro k;induction k with|zero=>(intro i s c t hk lS hS hB hR;have e:i=n:=(by lia);subst e;refine yJ iZ ?_;rw[Around.under_plainId dA _];show wpAny _ A.in1 (pyNext (.ref I) >>=_) _ _ s;refine za<|W.done s _ _ lS λs' hm=>?_;show wpAny _ A.in1 (Builtin.Dict.addKeywords D [] >>=_) _ _ s';have q:s'.heap.DictOf (aG prog w) D (merged []<|kvs.take i):=(by obtain⟨o,es,ep,ho,rest⟩:=hS;exact{o,es,ep,hm.heap D _ nw ho,rest});rw[<-hx,yG]at q;exact za<|zf<|zf<|hR s' (hm.mono up) q)|succ k ih=>intro i s c t hk lS hS hB hR;have lt:i<n:=(by lia);refine yJ iZ ?_;rw[Around.under_plainId dA _];show wpAny _ A.in1 (pyNext (.ref I) >>=_) _ _ s;refine za<|W.item i s _ _ lt lS λv s' hP OU hm=>?_;obtain⟨b,ky,key,val,o,m,ek,rfl,N5,ho,hc,hd,XJ,hbw⟩:=OT i v hP;have q:s'.heap.DictOf (aG prog w) D (merged []<|kvs.take i):=(by obtain⟨o,es,ep,ho,rest⟩:=hS;exact{o,es,ep,hm.heap D _ nw ho,rest});have hb':s'.heap.get? b=some o:=hm.heap b o hbw<|hB b o ho XJ hbw;have room:(merged []<|kvs.take i).length<=sizeLine:=(by have:=merged_length_le ([]:List (Key×Value))<|kvs.take i;rw[yf]at this;simp at this;lia);have tk:merged [] (kvs.take<|i+1)=stored (merged []<|kvs.take i) ky val:=merged_take_succ [] kvs i (ky,val) ek;refine za<|yg<|za<|wpAny_tryCatch ?_;unfold Builtin.Dict.pairItems;refine za<|wpAny_typeOf (T:="tuple") ⟨o,hb',hc⟩ ?_;show wpAny _ A.in1 (seqItems? (.ref b) >>=_) _ _ s';refine za<|wpAny_seqItems hb' hd<|zf ?_;show wpAny _ A.in1 (holding [key,val]<|dictSet D key val) _ _ s';refine yg<|wpAny_dictSet_pairs N5 q (λh' q2 Kq=>?_) room;rw[<-tk]at q2;refine zf {plainId_quiet dA _,ih (i+1) _ _ _ (by lia) (W.frame _ s' _ _ OU (yU _) λb hb o e=>?_) q2 (λb o e h1 h2=>?_) λAX OV XR=>?_};rw[Kq.2 b (λh:b=D=>hDf<|by rw[<-h];exact hb)];exact e;rw[Kq.2 b h1];exact hm.heap b o h2<|hB b o e h1 h2;refine hR AX (Moved.trans W.gtrans ((hm.mono up).then_heap (yU _) λb o hb e=>?_) OV) XR;rw[Kq.2 b (λh:b=D=>hb<|by rw[h];exact zy)];exact e
theorem sV(hh:A.handled=none)(gl:s.heap.get? l=some ol)(cl:ol.cls=.type "tuple")(dl:ol.data=.seq items m)(nl:ol.dict=none)(hx:kvs.length=items.size) (hi:∀(i:Nat) (v:Value),items[i]?=some v->∃(b:Addr) (k:Key) (key val:Value) (o:Obj) (m:Nat),kvs[i]?=some (k,val)/\v=.ref b/\(aG prog w).is k key=true/\s.heap.get? b=some o/\o.cls=.type "tuple"/\o.data=.seq #[key,val] m) (hb:items.size<=sizeLine) (h:∀(h':Heap) (tk:Nat),h'.DictOf (aG prog w) s.heap.objs.size (merged [] kvs)->(∀b o,s.heap.get? b=some o->h'.get? b=some o)->Q (.ref s.heap.objs.size) {s with heap:=h',toks:=tk}): wpAny (model prog w) A (call (.type "dict") [.ref l]) Q E s:=by
 refine callType_codes (Q₁:=λobj aT=>obj=.ref s.heap.objs.size/\aT={s with heap:=s.heap.push {cls:=.type "dict",data:=.dict #[]}}) F.kt_called_dict (F.kt_typeCall_dict_1 _) F.entry_dict_init (kt_code_dict_new _ ⟨rfl,rfl⟩) ?_;rintro obj aT ⟨rfl,rfl⟩;have OZ:(s.heap.push {cls:=.type "dict",data:=.dict #[]}).DictOf (aG prog w) s.heap.objs.size []:=Heap.DictOf.new s.heap;have SU:(s.heap.push {cls:=.type "dict",data:=.dict #[]}).get? l=some ol:=zb _ gl;refine{OZ.typeIs,F.args_dict_init_2 _ _,?_};unfold Builtin.«dict.__init__»;refine za ?_;unfold Builtin.Dict.selfAndRest;refine za<|wpAny_notOrdered_dict OZ.typeIs ?_;show wpAny _ _ (pure (s.heap.objs.size,[Value.ref l])) _ _ _;refine zf ?_;show wpAny _ _ (Builtin.Dict.updateFrom "dict.__init__" s.heap.objs.size (.ref l) [] .none) _ _ _;unfold Builtin.Dict.updateFrom;refine za<|wpAny_typeOf (T:="tuple") ⟨ol,SU,cl⟩ ?_;rw[if_pos<|by decide];have h3:A.in1.in1.handled=none:=by simp[hh]
 refine za<|sU SU cl dl nl h3 λh1 tk1 V2=>?_;have g1:h1.get? l=some ol:=V2 _ _ SU;have d1:h1.DictOf (aG prog w) s.heap.objs.size []:=by obtain⟨o,es,ep,ho,rest⟩:=OZ;exact{o,es,ep,V2 _ _ ho,rest}
 have lD:s.heap.objs.size<h1.objs.size:=by obtain⟨o,es,ep,ho,rest⟩:=d1;exact zq ho
 have ll:l<s.heap.objs.size:=zq gl;show wpAny _ _ (rule _ >>=_) _ _ _;refine za<|yT ?_;have Q2:h1.IsTuple l items:=⟨ol,g1,cl,m,dl⟩;refine za<|wpAny_pyIter_tuple (s:=⟨h1,s.gens,s.drawn,tk1,s.os⟩) Q2 ?_;have ne:l≠h1.objs.size:=zx<|Nat.lt_trans ll lD;have nf:s.heap.objs.size∉[h1.objs.size,l]:=by simp only[zg,zr,zG,or_false,not_or];exact{zx lD,yr ll}
 refine zf {plainId_quiet dA _,?_};refine Ez ((Walks.tuple h3 _ l ne items).toS) s.heap.objs.size nf kvs hx s.heap (λi v e=>?_) hb (items.size-0) 0 _ _ _ (by lia) {{_,zi _ rfl,rfl,rfl},Q2.push _} ?hS0 ?hB ?hR;obtain⟨b,k,key,val,o,m',e1,e2,e3,e4,e5,e6⟩:=hi i v e;have lb:=zq e4;exact{b,k,key,val,o,m',e1,e2,e3,e4,e5,e6,zx lb,by simp;exact zx<|Nat.lt_trans lb lD};case hS0=>exact d1.push _
 case hB=>exact λb o e EA XU=>zb _<|V2 _ _<|zb _ e
 case hR =>
  intro s' hm q
  obtain⟨h',g',d',Q1,R7⟩:=s'
  have eg:g'=s.gens:=hm.gens;have ed:d'=s.drawn:=hm.drawn;have eo:R7=s.os:=hm.os
  subst eg;subst ed;subst eo
  refine{rfl,h h' Q1 q λb o e=>?_}
  have lb:=zq e
  refine hm.heap b o ?_<|zb _<|V2 _ _<|zb _ e
  simp only[zg,zr,zG,or_false,not_or];exact{zx lb,zx<|Nat.lt_trans lb lD}
end
noncomputable def C6(l:List<|Str×V):List (Key×V):=l.foldl (λc p=>putK c (.inr p.1) p.2) []
def Prs(H:Hp)(ps:List V)(kvs:List<|Str×V):Prop:=kvs.length=ps.length/\∀(i:Nat)(x:V)(p:Str×V),ps[i]?=some x->kvs[i]?=some p->∃b,x=.ref b/\H b=some (.tup [.str p.1,p.2])
section
variable{X:Cx}
theorem Bb(hc:X.calm=true):dw X (.type "dict") (λvs H Q=>∃p ps kvs,vs=[.ref p]/\H p=some (.tup ps)/\Prs H ps kvs/\∀l,H l=none->Q (.ref l) (upd H l<|.dK<|C6 kvs)):=by
 intro pins s σ H vs us Q I r h;obtain⟨p,ps,kvs,rfl,hp,⟨hl,hq⟩,q⟩:=h;obtain⟨u,rfl,rx⟩:=vals1 r;cases rx;obtain⟨hz,au,rv,ol,gl,cl,nl,m,dl⟩:=(show aU X.prog X.w H s.heap p (.tup ps) from I.aH p _ hp);have hlen:=rv.length;have each:∀(i:Nat)(x:V)(pr:Str×V),ps[i]?=some x->kvs[i]?=some pr->∃(b:Addr)(key val:Value)(o:Obj)(m:Nat),au[i]?=some (.ref b)/\(aG X.prog X.w).is (.inr pr.1) key=true/\RelV pr.2 val/\s.heap.get? b=some o/\o.cls=.type "tuple"/\o.data=.seq #[key,val] m:=by intro i x pr e1 e2;obtain⟨b,rfl,hb⟩:=hq i x pr e1 e2;obtain⟨u,e3,ru⟩:=rv.get e1;cases ru;obtain⟨_,it2,r2,o,go,co,no,m2,do2⟩:=(show aU X.prog X.w H s.heap b (.tup [.str pr.1,pr.2]) from I.aH b _ hb);obtain⟨k',v',rfl,⟨tk,rfl⟩,rv'⟩:=r2.two;exact{b,_,v',o,m2,e3,jj _ _ _ _,rv',go,co,by simpa using do2}
 have kv:∃vals:List (Key×Value),KV (kvs.map λp=>((.inr p.1:Key),p.2)) vals/\∀(i:Nat)(x:V),ps[i]?=some x->∃(b:Addr)(k:Key)(key val:Value)(o:Obj)(m:Nat),vals[i]?=some (k,val)/\au[i]?=some (.ref b)/\(aG X.prog X.w).is k key=true/\s.heap.get? b=some o/\o.cls=.type "tuple"/\o.data=.seq #[key,val] m:=by clear hp q rv dl hz;induction kvs generalizing ps au with|nil=>refine{[],.nil,λi x e=>?_};have:ps=[]:=List.eq_nil_of_length_eq_zero (by simpa using hl.symm);subst this;simp at e|cons pr r ih=>cases ps with|nil=>simp at hl|cons y ys=>cases au with|nil=>simp at hlen|cons w0 ws=>obtain⟨b,key,val,o,m,e1,e2,e3,e4,e5,e6⟩:=each 0 y pr rfl rfl;obtain⟨vals,k1,k2⟩:=ih ys (by simpa using hl) (λi x p a b=>hq (i+1) x p (by simpa using a)<|by simpa using b) ws (by simpa using hlen) (λi x p a b=>by simpa using each (i+1) x p (by simpa using a) (by simpa using b));refine{(.inr pr.1,val)::vals,.cons ⟨rfl,e3⟩ k1,λi x e=>?_};cases i with|zero=>exact{b,.inr pr.1,key,val,o,m,rfl,e1,e2,e4,e5,e6}|succ i=>simpa using k2 i x (by simpa using e)
 obtain⟨vals,kv1,kv2⟩:=kv;have lv:vals.length=au.length:=by have:=kv1.length;rw[zc]at this;lia
 refine sV (kvs:=vals) (I.ok.hd hc) gl cl dl nl (by simpa using lv) (λi v e=>?_) (by simp;lia) λh' tk qs kp=>?_;have e':au[i]?=some v:=by simpa using e
 have hi:i<au.length:=(zt.mp e').1;obtain⟨b,k,key,val,o,m',e1,e2,e3,e4,e5,e6⟩:=kv2 i (ps[i]'(by lia))<|zh _;rw[e']at e2;exact{b,k,key,val,o,m',e1,zV e2,e3,e4,e5,e6};have rel:KV (C6 kvs) (merged [] vals):=by have all:∀(l:List (Str×V))(vl:List (Key×Value))(c:List (Key×V))(cv:List (Key×Value)),KV (l.map λp=>((.inr p.1:Key),p.2)) vl->KV c cv->KV (l.foldl (λc p=>putK c (.inr p.1) p.2) c) (merged cv vl):=(by intro l;induction l with|nil=>(intro vl c cv h1 h2;cases h1;exact h2)|cons p r ih=>intro vl c cv h1 h2;cases h1 with|@cons _ q _ qs r1 r2=>obtain⟨k,v⟩:=q;obtain⟨rfl,rv⟩:=r1;exact ih qs _ _ r2<|h2.put _ rv);exact all kvs vals [] [] kv1 .nil
 have big:=I.big;refine{.ref s.heap.objs.size,_,I.laid (t':=tk) (λb o e=>kp b o e) (zl _) (o:=.dK<|C6 kvs) {?_,?_,_,rel,qs},rfl,q _<|I.aH.fresh<|zl _};have e1:=rel.length;have e2:=merged_length_le ([]:List (Key×Value)) vals;simp at e2;lia;simp;exact yr big
def SW(K:Frag):R2:=λx y H Q=>∃a b xs ys,x=.ref a/\y=.ref b/\gp K H a xs/\gp K H b ys/\xs.length+ys.length<=sizeLine/\(xs=[]->Q (.ref b) H)/\(xs≠[]->ys=[]->Q (.ref a) H)/\(xs≠[]->ys≠[]->∀p,H p=none->Q (.ref p) (upd H p<|.tup<|xs++ys))
theorem Ks:gR X (binaryOp .Add) (SW X.K):=by intro pins s σ H x y v u Q I rx ry h;obtain⟨a,b,xs,ys,rfl,rfl,ha,hb,hz,q0,q1,q2⟩:=h;by_cases hx:xs=[];cases rx;cases ry;obtain⟨au,r1,p1,_⟩:=I.tuple ha;obtain⟨l6,r2,p2,_⟩:=I.tuple hb;obtain⟨⟨cls,dd,data,sl⟩,ho,hc,n,hd⟩:=id p1;obtain⟨⟨W9,VT,data2,w5⟩,Ob,J2,n2,hd2⟩:=id p2;simp only at hc hd J2 hd2;subst hc hd J2 hd2;have e:au=[]:=r1.pZ.mpr hx;exact concat_meets {_,ho,rfl} {_,Ob,rfl} noFill_tuple_add seq_tuple_add PySem.F.slot_tuple_add PySem.F.entry_tuple_add (PySem.F.args_tuple_add_2 _ _) (tuple_addW0 a b au.toArray l6.toArray n n2 dd VT sl w5<|by simp[e]) {ho,Ob,.ref b,H,I,rfl,q0 hx};exact J6 pins s σ H _ _ v u Q I rx ry {a,b,xs,ys,rfl,rfl,ha,hb,hx,hz,q1 hx,q2 hx}
end
noncomputable def uj:PyData->Kd|.none=>.av|.bool _=>.bl|.int _=>.int|.str _=>.str|.list _=>.lst|.tuple _=>.tup|.dict _=>.cB
section
theorem XW(h:n<=1000):n<=sizeLine:=yM<|gW h
end
abbrev mf(h:Heap)(T:Addr)(arr:Array Value):Prop:=h.get? T=some {cls:=.type "tuple",data:=.seq arr}
theorem vg(hs:Heap.ExtBut b h h')(n:a≠b)(x:h.IsTupleIter a l i):h'.IsTupleIter a l i:=x.extBut hs n
theorem MA{h h':Heap}{a l:Addr}{i:Nat}(k:∀o,h.get? a=some o->h'.get? a=some o)(x:h.IsTupleIter a l i):h'.IsTupleIter a l i:=by obtain⟨o,e,r⟩:=x;exact{o,k o e,r}
section
variable{prog:Program}{w:World}{A:Around}{E:Value->Shared->Prop}{s:Shared}
theorem XX(h:n<=3):n<=sizeLine:=XW<|zK h<|by decide
theorem EB(hT:mf s.heap T arr)(hz:arr.size<=3)(h:∀h',mf h' T (arr.setIfInBounds k x)->Heap.SameBut T s.heap h'->Q () {s with heap:=h'}):wpAny (model prog w) A (updateSeq T (·.setIfInBounds k x)) Q E s:=by refine wpAny_updateSeq hT rfl (h _ ?_<|yD ..) (hz:=XX hz) (_hz':=by have:=XX hz;simp;lia);show Heap.get? _ _=_;rw[yx _ hT rfl];simp[Obj.mapSeq]
theorem Bc(hit:s.heap.IsTupleIter it l i)(hl:s.heap.IsTuple l items)(hx:items[i]?=some x)(hQ:∀h',h'.IsTupleIter it l (i+1)->Heap.SameBut it s.heap h'->Q x {s with heap:=h'}): wpAny (model prog w) A (Builtin.SmallTypes.nextOf<|.ref it) Q E s:=by obtain⟨o,ho,hc,hd⟩:=id hit;obtain⟨ol,XY,_,nl,Kt⟩:=hl;unfold Builtin.SmallTypes.nextOf;refine za<|yp (name:=Str.ofString "__next__") hit.typeIs F.slot_tuple_iterator_next<|yA F.slot_tuple_iterator_next hit.typeIs F.entry_tuple_iterator_next ?_<|F.args_tuple_iterator_next_1 _;show wpAny _ _ (field (.ref it) 0 >>=_) _ _ s;refine za<|ya ho hd (x:=.ref l) rfl ?_;show wpAny _ _ (if (Value.ref l==Value.none)=true then _ else _) _ _ s;rw[if_neg<|show ¬((Value.ref l==Value.none)=true) from zd];show wpAny _ _ (field (.ref it) 1 >>=_) _ _ s;refine za<|ya ho hd (x:=.int i 0) rfl ?_;show wpAny _ _ (seqItems? (.ref l) >>=_) _ _ s;refine za<|wpAny_seqItems XY Kt ?_;simp only[Int.toNat_natCast,hx];refine za<|yR ho hd (by simp)<|zf {x,rfl,zf<|hQ _ {_,yx _ ho<|Obj.isFreed_of_fields<|yz hd _,(Obj.cls_mapFields ..).trans hc,by rw[yz hd];simp[rawInt]}<|yD ..}
theorem qN(hh:A.handled=none)(hit:s.heap.IsTupleIter it l i)(hl:s.heap.IsTuple l items)(hx:items[i]?=none) (hE:∀h' e,Heap.ExtBut it s.heap h'->(∃o,h'.get? e=some o/\o.cls=.type "StopIteration")->E (.ref e) {s with heap:=h'}):wpAny (model prog w) A (Builtin.SmallTypes.nextOf<|.ref it) Q E s:=by
 obtain⟨o,ho,hc,hd⟩:=id hit;obtain⟨ol,XY,_,nl,Kt⟩:=hl;unfold Builtin.SmallTypes.nextOf;refine za<|yp (name:=Str.ofString "__next__") hit.typeIs F.slot_tuple_iterator_next<|yA F.slot_tuple_iterator_next hit.typeIs F.entry_tuple_iterator_next ?_<|F.args_tuple_iterator_next_1 _;show wpAny _ _ (field (.ref it) 0 >>=_) _ _ s;refine za<|ya ho hd (x:=.ref l) rfl ?_;show wpAny _ _ (if (Value.ref l==Value.none)=true then _ else _) _ _ s;rw[if_neg<|show ¬((Value.ref l==Value.none)=true) from zd];show wpAny _ _ (field (.ref it) 1 >>=_) _ _ s;refine za<|ya ho hd (x:=.int i 0) rfl ?_;show wpAny _ _ (seqItems? (.ref l) >>=_) _ _ s;refine za<|wpAny_seqItems XY Kt ?_;simp only[Int.toNat_natCast,hx];refine za<|yT<|za<|yR ho hd (by simp) ?_;show wpAny _ _ (newExc (.type "StopIteration") [] >>=_) _ _ _;refine za ?_;simp only[newExc,newTuple];refine za<|ym ?_ (by size_fits);refine za (m:=firstArgMember _ _)<|yV (a:=Value.none) (by first|rfl|(simp only[firstArgMember];rfl)) ?_;refine ym ?_ (by size_fits);simp only[raiseNew];refine za<|wpAny_handled ?_;first|rw[show A.in1.handled=none from hh]|rw[hh]
 refine za<|zf<|wpAny_throw<|hE _ _ (((yD ..).extBut.push _).push _) {_,zi _ rfl,rfl}
end
def ZS2(n l0 l1:Nat)(i:Nat)(h:Heap):Prop:=IsZip h (n+4) (n+2) (n+3) .none/\mf h (n+2) #[.ref n,.ref<|n+1]/\(∃arr:Array Value,arr.size=2/\mf h (n+3) arr)/\h.IsTupleIter n l0 i/\h.IsTupleIter (n+1) l1 i
section
variable{X:Cx}{pins:List (Addr×Obj)}{σ:St}{H:Hp}{s:Shared}{h':Heap}
theorem Inv.Ku(I:Inv X pins σ H s)(wr:List Addr)(hw:∀b∈wr,sO X pins H b)(k:∀b o,b∉wr->s.heap.get? b=some o->h'.get? b=some o):Inv X pins σ H {s with heap:=h',toks:=t'}:=by refine I.step (g':=s.gens) (d':=s.drawn) (ch:=wr) (λb hb=>by obtain⟨_,a,_,c,d,e⟩:=hw b hb;exact⟨c,a,d,e⟩) (λb o _ _ hc e _=>k b o hc e) (λb o _ _ hc e _=>{o.slots,k b o hc e}) (λ_ _ _ _ n=>n) (λb o hc e=>{o,k b o hc e}) (λ_ _ e=>e) (λ_ _ _ e=>e) (λb ps e=>{#[],by rw[e];simp}) (λm hm=>?_) (λb u e=>?_) I.bare;obtain⟨o,es,ep,ho,r⟩:=hm;exact{o,es,ep,k _ o (λz=>(hw _ z).2.1 rfl) ho,r};refine(I.aH b u e).lX (λc v hc q=>k c v (λz=>?_) q) (λ_ q=>q) λ_ _ q=>q;have n:=(hw c z).1;rcases hc with rfl|hc;rw[n]at e;cases e;rw[n]at hc;cases hc
theorem Inv.Kv(I:Inv X pins σ H s)(wr:List Addr)(hw:∀b∈wr,sO X pins H b)(k:∀b o,b∉wr->s.heap.get? b=some o->h'.get? b=some o)(hT:s.heap.get? T=none)(new:aU X.prog X.w (upd H T o) h' T o): Inv X pins σ (upd H T o) {s with heap:=h',toks:=t'}:=by
 have fr:H T=none:=by cases q:H T with|none=>rfl|some u=>obtain⟨z,e⟩:=(I.aH T u q).get;rw[hT]at e;cases e
 have ne:∀b u,H b=some u->b≠T:=λb u e z=>by rw[z,fr]at e;cases e
 refine I.step (g':=s.gens) (d':=s.drawn) (ch:=wr) (λb hb=>by obtain⟨_,a,_,c,d,e⟩:=hw b hb;exact⟨c,a,d,e⟩) (λb o _ _ hc e _=>k b o hc e) (λb o _ _ hc e _=>{o.slots,k b o hc e}) (λb ob _ e n=>?_) (λb o hc e=>{o,k b o hc e}) (λb xs e=>by rw[ao<|ne b _ e];exact e) (λb ob u e=>by rw[ao<|ne b _ e];exact e) (λb ps e=>{#[],by rw[ao<|ne b _ e,e];simp}) (λm hm=>?_) (λb u e=>?_) I.bare;have:b≠T:=λz=>by rw[z,hT]at e;cases e
 rw[ao this];exact n;obtain⟨o,es,ep,ho,r⟩:=hm;exact{o,es,ep,k _ o (λz=>(hw _ z).2.1 rfl) ho,r};by_cases hb:b=T;subst hb;rw[aD]at e;cases e;exact new;rw[ao hb]at e;refine(I.aH b u e).lX (λc v hc q=>k c v (λz=>?_) q) (λc q=>by rw[ao<|ne c _ q];exact q) λc xs q=>by rw[ao<|ne c _ q];exact q
 have n:=(hw c z).1;rcases hc with rfl|hc;rw[n]at e;cases e;rw[n]at hc;cases hc
end
noncomputable abbrev Kw(h:Heap)(l0:Addr):Heap:=(h).push {cls:=.type "tuple_iterator",data:=.fields #[.ref l0,.int 0 0]}
noncomputable abbrev Kx(h:Heap)(l0 l1:Addr):Heap:=(Kw h l0).push {cls:=.type "tuple_iterator",data:=.fields #[.ref l1,.int 0 0]}
noncomputable abbrev Ky(h:Heap)(l0 l1:Addr):Heap:=(Kx h l0 l1).push {cls:=.type "tuple",data:=.seq #[.ref h.objs.size,.ref (Kw h l0).objs.size]}
noncomputable abbrev Kz(h:Heap)(l0 l1:Addr):Heap:=(Ky h l0 l1).push {cls:=.type "tuple",data:=.seq #[.none,.none]}
noncomputable abbrev Bg(h:Heap)(l0 l1:Addr):Heap:=(Kz h l0 l1).push {cls:=.type "zip",data:=.fields #[.none,.bool false,.bool false,.ref (Kx h l0 l1).objs.size,.ref (Ky h l0 l1).objs.size]}
theorem Bh(l0 l1:Addr)(Be Bf:Array Value):Meets (Builtin.«zip.__new__» {[.type "zip",.ref l0,.ref l1],[]}) (λ_ R s=>s.heap.IsTuple l0 Be/\s.heap.IsTuple l1 Bf/\R (.ok<|.ret<|.ref (Kz s.heap l0 l1).objs.size) {s with heap:=Bg s.heap l0 l1}):=.of_wp λprog w A R s h=>by obtain⟨hp,g,d,tk,os⟩:=s;obtain⟨t0,t1,h⟩:=h;have OQ:=sub_zip;have L0:Heap.IsTuple (Shared.heap ⟨hp,g,d,tk,os⟩) l0 Be:=t0;have L1:Heap.IsTuple (Shared.heap {hp.push {cls:=.type "tuple_iterator",data:=.fields #[.ref l0,.int 0 0]},g,d,tk,os}) l1 Bf:=Heap.IsTuple.push (t1) _;wp_walk using wpAny_pyIter_tuple L0,wpAny_pyIter_tuple L1;exact{_,rfl,h}
theorem Bi(t0:s.heap.IsTuple l0 Be)(t1:s.heap.IsTuple l1 Bf) (h:∀h',ZS2 s.heap.objs.size l0 l1 0 h'->(∀c o,s.heap.get? c=some o->h'.get? c=some o)->Q (.ref<|s.heap.objs.size+4) {s with heap:=h'}):wpAny (model prog w) A (call (.type "zip") [.ref l0,.ref l1]) Q E s:=by
 refine callType_new F.called_zip (by decide) (F.typeCall_zip_2 _ _) (F.newCall_zip_2 _ _) (λobj=>F.args_object_init_3 obj _ _) F.entry_zip_new (Bh l0 l1 Be Bf) {t0,t1,?_};have z1:(Kw s.heap l0).objs.size=s.heap.objs.size+1:=yd ..;have z2:(Kx s.heap l0 l1).objs.size=s.heap.objs.size+2:=by rw[yd,z1]
 have z3:(Ky s.heap l0 l1).objs.size=s.heap.objs.size+3:=by rw[yd,z2]
 have z4:(Kz s.heap l0 l1).objs.size=s.heap.objs.size+4:=by rw[yd,z3]
 have z5:(Bg s.heap l0 l1).objs.size=s.heap.objs.size+5:=by rw[yd,z4]
 have g0:(Bg s.heap l0 l1).get? (s.heap).objs.size=some _:=zb _<|zb _<|zb _<|zb _<|zi _ rfl;have g1:(Bg s.heap l0 l1).get? (Kw s.heap l0).objs.size=some _:=zb _<|zb _<|zb _<|zi _ rfl;have g2:(Bg s.heap l0 l1).get? (Kx s.heap l0 l1).objs.size=some _:=zb _<|zb _<|zi _ rfl;have g3:(Bg s.heap l0 l1).get? (Ky s.heap l0 l1).objs.size=some _:=zb _<|zi _ rfl;have g4:(Bg s.heap l0 l1).get? (Kz s.heap l0 l1).objs.size=some _:=zi _ rfl;show _/\_;rw[z2,z3,z4]at g4;rw[z3]at g3;rw[z1,z2]at g2;rw[z1]at g1;rw[z4];exact{{_,g4,rfl},h _ {g4,g2,!⟨g3⟩,{_,g0,rfl,rfl},{_,g1,rfl,rfl}} λc o x=>zb _<|zb _<|zb _<|zb _<|zb _ x}
def KA(K:Frag):V->List V->Hp->VK->Prop:=λx vs H Q=>∃(a:Addr)(xs:List V)(y z:V)(j:Nat),x=.ref a/\vs=[y]/\ji K H a xs/\gU y=true/\xs.all gU=true/\xs[j]?=some z/\eqV z y=true/\(∀m u,m<j->xs[m]?=some u->eqV u y=false)/\Q (.int j) H
theorem EC:QV X "list.index" (KA X.K):=by
 intro pins s σ H x vs v us Q I rx rv h;obtain⟨a,xs,y,z,j,rfl,rfl,hq,fy,fx,hj,hit,R9,q⟩:=h;cases rx;obtain⟨u,rfl,ru⟩:=rv.one;obtain⟨au,r,p,hz⟩:=I.list hq;obtain⟨⟨cls,dd,data,sl⟩,ho,hc,n,hd⟩:=p.isList;simp only at hc hd;subst hc hd;have hl:=r.length;have j_:j<xs.length:=(zt.mp hj).1;have fl:∀(m:Nat)(w:V),xs[m]?=some w->gU w=true:=λm w e=>yk.mp fx w<|zI e;have at':∀(m:Nat)(hm:m<au.toArray.size)(w:V),xs[m]?=some w->Gs y au.toArray[m]=eqV w y:=λm hm w e=>by obtain⟨u',e',ru'⟩:=r.get e;have:au.toArray[m]=u':=(by have:=zt.mp e';simpa using this.2);rw[this];exact AZ ru'<|fl m w e
 have hs:sizeLine=16777216:=zZ;refine call_meets PySem.F.slot_list_index {_,ho,rfl} PySem.F.entry_list_index (PySem.F.args_list_index_2 _ _) (SeqAt.list_indexAt a au.toArray n dd sl u (Gs y) j (by simp;lia) (by lia) ?_ ?_) {ho,λw hw=>l7 ru fy r fx w<|by simpa using hw,{.int j,H,I.tok _,{_,rfl},q}};rw[at' j _ z hj];exact hit;intro m hm hmj;have hmx:m<xs.length:=by lia
 rw[at' m hm _<|zh hmx];exact R9 m _ hmj<|zh hmx
def SX:R2:=λx y H Q=>∃z n,x=.str z/\y=.int n/\MulOk z n/\Q (.str<|PySem.Txt.mul z n) H
theorem Bj:gR X (binaryOp .Mult) SX:=by intro pins s σ H x y v u Q I rx ry h;obtain⟨z,n,rfl,rfl,hm,q⟩:=h;obtain⟨t,rfl⟩:=rx;obtain⟨t',rfl⟩:=ry;exact SB.mul hm λt'' k=>{.str _,H,I.tok k,{_,rfl},q}
def JA(w:World)(K:Frag)(a:Addr)(kvs:List<|Str×V):Prop:=(a==sysModules)=false/\∃(o:Obj)(es:Array DictEntry)(ep:Nat),K.lookup a=some o/\o.ExactDict/\o.data=.dict es ep/\Paired (λ(e:DictEntry)(kv:Str×V)=>e.hash=hashStr w kv.1/\(∃t,e.key=.str kv.1 t)/\RelV kv.2 e.val) es.toList kvs/\(kvs.map Prod.fst).Nodup
theorem qO(z:Str):∀kvs:List (Str×V),gk (kvs.map λp=>((.inr p.1:Key),p.2)) (.inr z)=kvs.lookup z
 |[]=>rfl
 | (x,v)::r=>by
  rw[zQ,zP];by_cases e:z=x;subst e;rw[qC rfl];simp;have e1:(z==x)=false:=by simpa using e
  rw[qD λq=>e (yL q).symm,e1];exact qO z r
section
variable{X:Cx}{pins:List (Addr×Obj)}{σ:St}{H:Hp}{s:Shared}{a:Addr}{kvs:List (Str×V)}
theorem Bk(I:Inv X pins σ H s)(d:JA X.w X.K a kvs):(a==sysModules)=false/\∃vs,KV (kvs.map λp=>((.inr p.1:Key),p.2)) vs/\s.heap.DictOf (aG X.prog X.w) a vs:=by
 obtain⟨ns,o,es,ep,hk,hx,hd,hp,hn⟩:=d;have all:∀(es:List DictEntry)(kvs:List (Str×V)),Paired (λ(e:DictEntry)(kv:Str×V)=>e.hash=hashStr X.w kv.1/\(∃t,e.key=.str kv.1 t)/\RelV kv.2 e.val) es kvs->∃vs:List (Key×Value),KV (kvs.map λp=>((.inr p.1:Key),p.2)) vs/\Pairs (aG X.prog X.w) es vs/\vs.map (·.1)=kvs.map (λp=>(.inr p.1:Key))/\∀e∈es,∃k,(aG X.prog X.w).is k e.key=true/\e.hash=(aG X.prog X.w).hash k:=by intro es kvs hp;induction hp with|nil=>exact{[],.nil,.nil,rfl,by simp}|@cons e kv VL kvs' h t ih=>obtain⟨vs,k1,k2,k3,k4⟩:=ih;obtain⟨h1,⟨tk,h2⟩,h3⟩:=h;have hi:(aG X.prog X.w).is (.inr kv.1) e.key=true:=(by rw[h2];exact jj _ _ _ _);refine{(.inr kv.1,e.val)::vs,.cons ⟨rfl,h3⟩ k1,.cons hi rfl k2,by rw[zQ,zQ,k3],λe' he=>?_};rcases zg.mp he with rfl|he;exact{.inr kv.1,hi,h1};exact k4 e' he
 obtain⟨vs,k1,k2,k3,k4⟩:=all _ _ hp;refine{ns,vs,k1,o,es,ep,I.kC a o hk,hx,hd,λe he=>k4 e<|by simpa using he,k2,?_};rw[k3];have:(kvs.map λp=>(.inr p.1:Key))=(kvs.map Prod.fst).map Sum.inr:=by rw[zB];rfl
 rw[this];exact List.Pairwise.map _ (λx y h q=>h<|yL q) hn
theorem G0{w:World}{K:Frag}(hw:X.w=w)(hK:X.K=K):gR X (compareOp .In) (λx y H Q=>∃z a kvs,x=.str z/\y=.ref a/\JA w K a kvs/\Q (.bl (kvs.lookup z).isSome) H):=by subst hw hK;intro pins s σ H x y v u Q I rx ry h;obtain⟨z,a,kvs,rfl,rfl,d,q⟩:=h;cases ry;obtain⟨ns,vs,rel,dd⟩:=Bk I d;refine wpAny_in_of (kQ (k:=.inr z) rx) ns dd.mapOf ?_;rw[<-(rel.val<|.inr z).nB,qO];exact{.bl _,H,I.tok _,rfl,q}
def SY(w:World)(K:Frag):V->List V->Hp->VK->Prop:=λx vs H Q=>∃a z kvs,x=.ref a/\vs=[.str z]/\JA w K a kvs/\Q ((kvs.lookup z).getD .av) H
theorem KC{w:World}{K:Frag}(hw:X.w=w)(hK:X.K=K):QV X "dict.get" (SY w K):=by subst hw hK;intro pins s σ H x vs v us Q I rx rv h;obtain⟨a,z,kvs,rfl,rfl,d,q⟩:=h;cases rx;obtain⟨u,rfl,ru⟩:=rv.one;obtain⟨ns,vs,rel,dd⟩:=Bk I d;refine call_meetsIn yy dd.typeIs PySem.F.entry_dict_get (PySem.F.args_dict_get_2 _ _) (meets_dict_get (aG X.prog X.w) a (kQ (k:=.inr z) ru) ns) {_,dd.mapOf,_,H,I.tok _,?_,q};rw[<-qO];exact(rel.val<|.inr z).getD rfl
theorem G1{w:World}{K:Frag}{o e:Expr}{apos aP:Pos}{td ty:TE}(hw:X.w=w)(hK:X.K=K)(ho:PE X o td)(he:PE X e ty)(m:M1 X o "get" apos e aP):PE X (.Call (.Attribute o "get" apos) [e] [] aP) (λσ H Q=>td σ H λx H1=>∃a kvs,x=.ref a/\JA w K a kvs/\ty σ H1 λy H2=>∃z,y=.str z/\Q ((kvs.lookup z).getD .av) H2):=by subst hw hK;intro pins s σ H Q I h;refine wpAny_Call_method m.base m.FJ m.line PySem.F.plainAttrs_dict yy PySem.F.type_dict_get<|bu (ho pins s σ H _ I h) λu s1 ⟨x,H1,I1,rx,a,kvs,ex,d,q1⟩=>?_;subst ex;obtain rfl:u=Value.ref a:=rx;obtain⟨ns,vs,rel,dd⟩:=Bk I1 d;obtain⟨ob,_,_,h1,h2,_⟩:=id dd;refine{dd.typeIs,λb q=>by cases q;exact⟨ob,h1,h2.2.1⟩,?_};rw[m.trees];refine Calls.callWith_builtin rfl<|Calls.evalArgs_plain<|yE<|bu (he pins s1 σ H1 _ I1 q1) λiv s2 ⟨y,H2,I2,ry,z,ey,q2⟩=>Calls.spliced_nil ?_;subst ey;exact KC rfl rfl pins s2 σ H2 (.ref a) [.str z] _ [iv] Q I2 rfl (.cons ry .nil) ⟨a,z,kvs,rfl,rfl,d,q2⟩
end
theorem G4:bootBuiltins "min"= some (.builtin "min"):=by trivial
def ZS3(n l0 l1 l2:Nat)(i:Nat)(h:Heap):Prop:=IsZip h (n+5) (n+3) (n+4) .none/\mf h (n+3) #[.ref n,.ref<|n+1,.ref<|n+2]/\(∃arr:Array Value,arr.size=3/\mf h (n+4) arr)/\h.IsTupleIter n l0 i/\h.IsTupleIter (n+1) l1 i/\h.IsTupleIter (n+2) l2 i
noncomputable abbrev KG(h:Heap)(l0:Addr):Heap:=(h).push {cls:=.type "tuple_iterator",data:=.fields #[.ref l0,.int 0 0]}
noncomputable abbrev KH(h:Heap)(l0 l1:Addr):Heap:=(KG h l0).push {cls:=.type "tuple_iterator",data:=.fields #[.ref l1,.int 0 0]}
noncomputable abbrev KJ(h:Heap)(l0 l1 l2:Addr):Heap:=(KH h l0 l1).push {cls:=.type "tuple_iterator",data:=.fields #[.ref l2,.int 0 0]}
noncomputable abbrev KL(h:Heap)(l0 l1 l2:Addr):Heap:=(KJ h l0 l1 l2).push {cls:=.type "tuple",data:=.seq #[.ref h.objs.size,.ref (KG h l0).objs.size,.ref (KH h l0 l1).objs.size]}
noncomputable abbrev KN(h:Heap)(l0 l1 l2:Addr):Heap:=(KL h l0 l1 l2).push {cls:=.type "tuple",data:=.seq #[.none,.none,.none]}
noncomputable abbrev xt(h:Heap)(l0 l1 l2:Addr):Heap:=(KN h l0 l1 l2).push {cls:=.type "zip",data:=.fields #[.none,.bool false,.bool false,.ref (KJ h l0 l1 l2).objs.size,.ref (KL h l0 l1 l2).objs.size]}
theorem Bl(l0 l1 l2:Addr)(Be Bf Q3:Array Value):Meets (Builtin.«zip.__new__» {[.type "zip",.ref l0,.ref l1,.ref l2],[]}) (λ_ R s=>s.heap.IsTuple l0 Be/\s.heap.IsTuple l1 Bf/\s.heap.IsTuple l2 Q3/\R (.ok<|.ret<|.ref (KN s.heap l0 l1 l2).objs.size) {s with heap:=xt s.heap l0 l1 l2}):=.of_wp λprog w A R s h=>by obtain⟨hp,g,d,tk,os⟩:=s;obtain⟨t0,t1,t2,h⟩:=h;have OQ:=sub_zip;have L0:Heap.IsTuple (Shared.heap ⟨hp,g,d,tk,os⟩) l0 Be:=t0;have L1:Heap.IsTuple (Shared.heap {hp.push {cls:=.type "tuple_iterator",data:=.fields #[.ref l0,.int 0 0]},g,d,tk,os}) l1 Bf:=Heap.IsTuple.push (t1) _;have L2:Heap.IsTuple (Shared.heap {(hp.push {cls:=.type "tuple_iterator",data:=.fields #[.ref l0,.int 0 0]}).push {cls:=.type "tuple_iterator",data:=.fields #[.ref l1,.int 0 0]},g,d,tk,os}) l2 Q3:=Heap.IsTuple.push (Heap.IsTuple.push (t2) _) _;wp_walk using wpAny_pyIter_tuple L0,wpAny_pyIter_tuple L1,wpAny_pyIter_tuple L2;exact{_,rfl,h}
theorem Bn(a0 a1 a2:Value):checkTypeCall "zip" {[a0,a1,a2],[]}=pure ():=by kernel_rfl
theorem Bo(a0 a1 a2:Value):checkBuiltinCall "zip.__new__" {[.type "zip",a0,a1,a2],[]}=pure ():=by kernel_rfl
theorem O0(x a0 a1 a2:Value):argsOk "object.__init__" {[x,a0,a1,a2],[]}:=by unfold argsOk;rw[signature?_of (id:="object.__init__") (n:=['_','_','t','i','n','i','_','_']) (o:=['t','c','e','j','b','o']) (by kernel_rfl) F.owner_object];kernel_rfl
theorem Bp(t0:s.heap.IsTuple l0 Be)(t1:s.heap.IsTuple l1 Bf)(t2:s.heap.IsTuple l2 Q3) (h:∀h',ZS3 s.heap.objs.size l0 l1 l2 0 h'->(∀c o,s.heap.get? c=some o->h'.get? c=some o)->Q (.ref<|s.heap.objs.size+5) {s with heap:=h'}):wpAny (model prog w) A (call (.type "zip") [.ref l0,.ref l1,.ref l2]) Q E s:=by
 refine callType_new F.called_zip (by decide) (Bn _ _ _) (Bo _ _ _) (λobj=>O0 obj _ _ _) F.entry_zip_new (Bl l0 l1 l2 Be Bf Q3) {t0,t1,t2,?_};have z1:(KG s.heap l0).objs.size=s.heap.objs.size+1:=yd ..;have z2:(KH s.heap l0 l1).objs.size=s.heap.objs.size+2:=by rw[yd,z1]
 have z3:(KJ s.heap l0 l1 l2).objs.size=s.heap.objs.size+3:=by rw[yd,z2]
 have z4:(KL s.heap l0 l1 l2).objs.size=s.heap.objs.size+4:=by rw[yd,z3]
 have z5:(KN s.heap l0 l1 l2).objs.size=s.heap.objs.size+5:=by rw[yd,z4]
 have z6:(xt s.heap l0 l1 l2).objs.size=s.heap.objs.size+6:=by rw[yd,z5]
 have g0:(xt s.heap l0 l1 l2).get? (s.heap).objs.size=some _:=zb _<|zb _<|zb _<|zb _<|zb _<|zi _ rfl;have g1:(xt s.heap l0 l1 l2).get? (KG s.heap l0).objs.size=some _:=zb _<|zb _<|zb _<|zb _<|zi _ rfl;have g2:(xt s.heap l0 l1 l2).get? (KH s.heap l0 l1).objs.size=some _:=zb _<|zb _<|zb _<|zi _ rfl;have g3:(xt s.heap l0 l1 l2).get? (KJ s.heap l0 l1 l2).objs.size=some _:=zb _<|zb _<|zi _ rfl;have g4:(xt s.heap l0 l1 l2).get? (KL s.heap l0 l1 l2).objs.size=some _:=zb _<|zi _ rfl;have g5:(xt s.heap l0 l1 l2).get? (KN s.heap l0 l1 l2).objs.size=some _:=zi _ rfl;show _/\_;rw[z3,z4,z5]at g5;rw[z4]at g4;rw[z1,z2,z3]at g3;rw[z1]at g1;rw[z2]at g2;rw[z5];exact{{_,g5,rfl},h _ {g5,g3,!⟨g4⟩,{_,g0,rfl,rfl},{_,g1,rfl,rfl},{_,g2,rfl,rfl}} λc o x=>zb _<|zb _<|zb _<|zb _<|zb _<|zb _ x}
theorem Vals.three(h:Vals [x,y,z] us):∃u v w,us=[u,v,w]/\RelV x u/\RelV y v/\RelV z w:=by cases h with|cons r h=>cases h with|cons q h=>cases h with|cons p h=>cases h;exact{_,_,_,rfl,r,q,p}
section
variable{X:Cx}
def KO:V->List V->Hp->VK->Prop:=λx vs H Q=>∃z y,x=.str z/\vs=[.str y]/\Q (.bl<|PySem.Txt.startswith z y) H
theorem sW:QV X "str.startswith" KO:=by intro pins s σ H x vs v us Q I rx rv h;obtain⟨z,y,rfl,rfl,q⟩:=h;obtain⟨t,rfl⟩:=rx;obtain⟨u,rfl,ru⟩:=rv.one;obtain⟨t',rfl⟩:=ru;exact PySem.SC.startswith {.bl _,H,I,rfl,q}
end
end L2
namespace L2
open PySem PySem.Spec PyProof.Rows PySem.SeqAt
end L2
namespace L2
open PySem PySem.Spec PyProof.Rows
theorem vh(l:Addr)(items:Array Value)(n:Nat)(b:Addr)(qP:Array Value)(n2:Nat)(sl:Array<|Option Value)(Q4:¬(!items.isEmpty&&Builtin.List.listTooLong (items.size+qP.size))=true)(hs1:items.size<=sizeLine)(uQ:items.size+qP.size<=sizeLine+1): Meets (Builtin.«list.extend» {[.ref l,.ref b],[]}) (λ_ R s=>s.heap.get? l=some {cls:=.type "list",dict:=none,data:=.seq items n,slots:=#[]}/\s.heap.get? b=some {cls:=.type "tuple",dict:=none,data:=.seq qP n2,slots:=sl}/\R (.ok<|.ret Value.none) {s with heap:=s.heap.update l<|Obj.mapSeq λx=>x++qP,toks:=s.toks}):=.of_wp λprog w A R s h=>by
 obtain⟨hp,g,d,tk,os⟩:=s;obtain⟨hl,hb,h⟩:=h;have f1:=AutoSeq1.idx_int;have f2:=AutoSeq1.sub_tuple_tuple;have f3:=AutoSeq1.sub_list_list;have f4:=AutoSeq1.sub_tuple_list;have f5:=AutoSeq1.sub_list_tuple;have XZ:(items++qP).size<=sizeLine+1:=by rw[Array.size_append];exact uQ
 wp_walk using (wpAny_updateSeq hl rfl (hz:=hs1) (_hz':=XZ)),AutoSeq1.wpAny_loadPart' hl,AutoSeq1.wpAny_loadPart' hb;exact{_,rfl,h}
theorem nD:fillsNumberSlot (.type "tuple") "mul"= pure false:=PySem.fillsNumberSlot_seq (id:="tuple.__mul__") (r:=some<|.builtin "tuple.__rmul__") F.slot_tuple_mul.lookup (by trivial) F.slot_tuple_rmul.lookup<|by trivial
theorem vi:seqRepeat? (.type "tuple")=pure (some<|.builtin "tuple.__mul__"):=by unfold seqRepeat?;rw[PySem.seqSlot_of (T:="tuple") (name:="__mul__") (id:="tuple.__mul__") F.slot_tuple_mul.lookup<|by trivial,PySem.seqSlot_of (T:="tuple") (name:="__rmul__") (id:="tuple.__rmul__") F.slot_tuple_rmul.lookup<|by trivial];rfl
theorem qQ(a:Int)(t:Tok)(l:Addr)(items:Array Value)(n:Nat)(dd:Option Addr)(sl:Array<|Option Value): Meets (Builtin.«int.__rmul__» {[.int a t,.ref l],[]}) (λ_ R s=>s.heap.get? l=some {cls:=.type "tuple",dict:=dd,data:=.seq items n,slots:=sl}/\R (.ok<|.ret Value.notImplemented) s):=.of_wp λprog w A R s h=>by obtain⟨hp,g,d,tk,os⟩:=s;obtain⟨hl,h⟩:=h;wp_walk;exact{_,rfl,h}
theorem xu(l:Addr)(v:Value)(n:Nat)(dd:Option Addr)(sl:Array<|Option Value)(u:Tok): Meets (Builtin.«tuple.__mul__» {[.ref l,.int 1 u],[]}) (λ_ R s=>s.heap.get? l=some {cls:=.type "tuple",dict:=dd,data:=.seq #[v] n,slots:=sl}/\R (.ok<|.ret<|.ref l) {s with heap:=s.heap,toks:=s.toks}):=.of_wp λprog w A R s h=>by obtain⟨hp,g,d,tk,os⟩:=s;obtain⟨hl,h⟩:=h;have f1:=AutoSeq1.idx_int;have f2:=AutoSeq1.sub_tuple_tuple;wp_walk using AutoSeq1.wpAny_loadPart' hl;exact{_,rfl,h}
theorem Bq(l:Addr)(v:Value)(n:Nat)(dd:Option Addr)(sl:Array<|Option Value)(x:Int)(u:Tok)(h1:2<=x)(h2:x<=1000): Meets (Builtin.«tuple.__mul__» {[.ref l,.int x u],[]}) (λ_ R s=>s.heap.get? l=some {cls:=.type "tuple",dict:=dd,data:=.seq #[v] n,slots:=sl}/\R (.ok<|.ret<|Value.ref s.heap.objs.size) {s with heap:=s.heap.push {cls:=Value.type "tuple",data:=Data.seq<|List.foldl (λx1 x2=>x1++x2) #[] (List.replicate x.toNat #[v])},toks:=s.toks}):=.of_wp λprog w A R s h=>by
 obtain⟨hp,g,d,tk,os⟩:=s;obtain⟨hl,h⟩:=h;have f1:=AutoSeq1.idx_int;have f2:=AutoSeq1.sub_tuple_tuple;have c0:-9223372036854775808<=x:=by lia
 have c1:x<9223372036854775808:=by lia
 have c2:¬x=1:=by lia
 have c3:0<x:=by lia
 have c4:x<=1152921504606846975:=by lia
 have c5:Builtin.Tuple.tupleTooMany x=false:=by simp[Builtin.Tuple.tupleTooMany,sizeLine];lia
 have hsz:(List.foldl (λx1 x2=>x1++x2) #[] (List.replicate x.toNat #[v])).size<=sizeLine:=by rw[AutoSeq1.size_joined];show 0+x.toNat*1<=16777216;lia
 wp_walk using AutoSeq1.wpAny_loadPart' hl;exact{_,rfl,h}
section
variable{X:Cx}{K:Frag}
def G5:V->List V->Hp->VK->Prop:=λx vs H Q=>∃l b xs zs,x=.ref l/\vs=[.ref b]/\H l=some (.lst xs)/\H b=some (.tup zs)/\xs.length+zs.length<=sizeLine/\Q .av (upd H l<|.lst<|xs++zs)
theorem Br:Xg X "list.extend" G5:=by
 intro pins s σ H x vs v us Q I rx rv h;obtain⟨l,b,xs,zs,rfl,rfl,hH,hB,hz,q⟩:=h;cases rx;obtain⟨u,rfl,ru⟩:=rv.one;cases ru;obtain⟨z,au,n,r,hl,e⟩:=I.Gw hH;obtain⟨z2,l6,r2,⟨c2,d2,dt2,w5⟩,e2,ec,ed,n2,en⟩:=(show aU X.prog X.w H s.heap b (.tup zs) from I.aH b _ hB);dsimp only at ec ed en;subst ec ed en;have Gz:=r2.length;have hsz:au.toArray.size+l6.toArray.size<=sizeLine:=by rw[zk,zk];lia
 have S_:¬(!au.toArray.isEmpty&&Builtin.List.listTooLong (au.toArray.size+l6.toArray.size))=true:=by rw[Gx hsz,Bool.and_false];exact zd
 refine call_meets F.slot_list_extend {_,e,rfl} F.entry_list_extend (F.args_list_extend_2 _ _) (vh l au.toArray n b l6.toArray n2 w5 S_ (by rw[zk];lia)<|by lia) {e,e2,?_};refine{.av,_,I.Om (its':=au++l6) hH e (by simp) (r.append r2) ?_,rfl,q};rw[zp];lia
theorem sX(hK:X.K=K):dw X (.builtin "isinstance") (λxs H Q=>∃a C b cs r,xs=[.ref a,.ref b]/\H a=some (sS a<|.ref C)/\XC K C/\XA K C/\H b=some (.tup cs)/\(∀au,Vals cs au->kitAny K (.ref C) au=some r)/\Q (.bl r) H):=by subst hK;intro pins s σ H xs us Q I r h;obtain⟨a,C,b,cs,r',rfl,ha,cC,xa,hb,e,q⟩:=h;obtain⟨v,w',rfl,rv,nz⟩:=vals2 r;cases (show v=Value.ref a from rv);cases (show w'=Value.ref b from nz);obtain⟨p,_⟩:=I.aH a _ ha;obtain⟨z2,l6,r2,⟨c2,d2,dt2,w5⟩,e2,ec,ed,n2,en⟩:=(show aU X.prog X.w H s.heap b (.tup cs) from I.aH b _ hb);dsimp only at ec ed en;subst ec ed en;exact PySem.W.kia_tup (xo cC xa) I.kC p e2 (e _ r2) (λz=>nomatch z) λtk=>{.bl r',H,I.tok tk,rfl,q}
theorem C7(v:Value):∀(n:Nat)(acc:List Value),List.foldl (λx1 x2=>x1++x2) acc.toArray (List.replicate n #[v])=(acc++List.replicate n v).toArray|0,acc=>by simp|n+1,acc=>by rw[List.replicate_succ,yI,show acc.toArray++#[v]=(acc++[v]).toArray by simp,C7 v n,List.append_assoc];rfl
theorem xw(r:RelV x v):∀n,Vals (List.replicate n x) (List.replicate n v)|0=>.nil|n+1=>.cons r<|xw r n
def Tc:R2:=λx y H Q=>∃a z n,x=.ref a/\y=.int n/\H a=some (.tup [z])/\1<=n/\n<=1000/\(n=1->Q (.ref a) H)/\(2<=n->∀p,H p=none->Q (.ref p) (upd H p<|.tup<|List.replicate n.toNat z))
theorem KP:gR X (binaryOp .Mult) Tc:=by
 intro pins s σ H x y v u Q I rx ry h;obtain⟨a,z,n,rfl,rfl,ha,h1,h2,q1,q2⟩:=h;cases rx;obtain⟨t',rfl⟩:=ry;obtain⟨z2,l6,r2,⟨c2,d2,dt2,w5⟩,ho,ec,ed,n2,en⟩:=(show aU X.prog X.w H s.heap a (.tup [z]) from I.aH a _ ha);dsimp only at ec ed en;subst ec ed en;obtain⟨w,rfl,nz⟩:=r2.one;refine wpAny_binaryOp_repeat_ref (T:="tuple") (U:="int") (by decide) {_,ho,rfl} (λs'=>typeIs_int s' n t') nD F.fills_int_mul F.slot_int_rmul vi F.slot_int_index.lookup<|call_meets F.slot_int_rmul (typeIs_int s n t') F.entry_int_rmul (F.args_int_rmul_2 _ _) (qQ n t' a #[w] n2 none w5) {ho,rfl,{_,ho,rfl},?_};by_cases e:n=1;subst e;exact call_meets F.slot_tuple_mul {_,ho,rfl} F.entry_tuple_mul (F.args_tuple_mul_2 _ _) (xu a w n2 none w5 t') {ho,.ref a,H,I.tok _,rfl,q1 rfl};have h3:2<=n:=by lia
 refine call_meets F.slot_tuple_mul {_,ho,rfl} F.entry_tuple_mul (F.args_tuple_mul_2 _ _) (Bq a w n2 none w5 n t' h3 h2) {ho,?_};rw[show(#[]:Array Value)=([]:List Value).toArray from rfl,C7,List.nil_append];refine{.ref s.heap.objs.size,_,I.laid (t':=s.toks) (λ_ _ q=>zb _ q) (zl _) ?_,rfl,q2 h3 _ I.fresh};exact(show aU X.prog X.w _ _ _ (.tup<|List.replicate n.toNat z) from{by rw[yi];exact XW<|by lia,_,xw nz _,fF.new _ _})
end
set_option genInjectivity true in
set_option genSizeOfSpec true in
inductive D where
 |av|bl (b:Bool)|int (i:Int)|str (x:Str)|tup (ds:List D)|jd (ds:List D)|kt (ds:List D)|ref (a:Addr)|ty (n:String)
def X0(K:Frag)(a:Addr)(xs:List V):Prop:=∃(o:Obj)(au:Array Value)(n:Nat),K.lookup a=some o/\o.cls=.type "tuple"/\o.data=.seq au n/\au.size<=sizeLine/\Vals xs au.toList
def MB(K:Frag)(H:Hp)(a:Addr)(xs:List V):Prop:=(∃o,H a=some (.lj o<|.lst xs))\/∃(o:Obj)(au:Array Value)(n:Nat),K.lookup a=some o/\o.cls=.type "list"/\o.dict=none/\o.data=.seq au n/\au.size<=sizeLine/\Vals xs au.toList
theorem MB.sq{K:Frag}{H:Hp}{a:Addr}{xs:List V}(h:MB K H a xs):ji K H a xs:=by rcases h with h|h;exact .inl<|.inr h;exact .inr h
structure Kp(K:Frag)(H H':Hp):Prop where
 t:∀a xs,H a=some (.tup xs)->H' a=some (.tup xs)
 r:∀a xs,MB K H a xs->MB K H' a xs
 f:∀a o u,H a=some (.lj o u)->H' a=some (.lj o u)
theorem Kp.refl{K:Frag}(H:Hp):Kp K H H:={λ_ _ h=>h,λ_ _ h=>h,λ_ _ _ h=>h}
theorem Kp.trans{K:Frag}{H H1 H2:Hp}(a:Kp K H H1)(b:Kp K H1 H2):Kp K H H2:={λp xs h=>b.t p xs<|a.t p xs h,λp xs h=>b.r p xs<|a.r p xs h,λp o u h=>b.f p o u<|a.f p o u h}
theorem Kp.of{K:Frag}{H H':Hp}(h:∀b o,H b=some o->H' b=some o\/(∀xs,o≠.tup xs)/\∀u v,o≠.lj u v):Kp K H H' where
 t:=λa xs q=>(h _ _ q).resolve_right λz=>z.1 _ rfl
 r:=λa xs q=>by
  rcases q with⟨o,q⟩|q
  ·exact .inl {o,(h _ _ q).resolve_right λz=>z.2 _ _ rfl}
  ·exact .inr q
 f:=λa o u q=>(h _ _ q).resolve_right λz=>z.2 _ _ rfl
theorem Kp.new{K:Frag}{H:Hp}{a:Addr}{o:HO}(h:H a=none):Kp K H (upd H a o):=.of λb u e=>.inl<|by rw[ao<|aw e h];exact e
theorem Kp.put{K:Frag}{H:Hp}{a:Addr}{o u:HO}(h:H a=some o)(h1:∀xs,o≠.tup xs)(h2:∀u v,o≠.lj u v):Kp K H (upd H a u):=.of λb v e=>by by_cases q:b=a;subst q;rw[h]at e;cases e;exact .inr ⟨h1,h2⟩;exact .inl<|by rw[ao q];exact e
mutual
def Rv(K:Frag)(H:Hp):D->V->Prop|.av,v=>v=.av|.bl b,v=>v=.bl b|.int i,v=>v=.int i|.str z,v=>v=.str z|.tup ds,v=>∃a xs,v=.ref a/\H a=some (.tup xs)/\RvAll K H ds xs|.jd ds,v=>∃a xs,v=.ref a/\MB K H a xs/\RvAll K H ds xs|.kt ds,v=>∃a xs,v=.ref a/\X0 K a xs/\RvAll K H ds xs|.ref a,v=>v=.ref a|.ty n,v=>v=.ty n
def RvAll(K:Frag)(H:Hp):List D->List V->Prop|[],xs=>xs=[]|d::ds,xs=>∃y ys,xs=y::ys/\Rv K H d y/\RvAll K H ds ys
end
section
variable{K:Frag}{H H':Hp}
theorem iA:Rv K H .av .av:=by simp only[Rv]
theorem bS(b:Bool):Rv K H (.bl b) (.bl b):=by simp only[Rv]
theorem aQ(i:Int):Rv K H (.int i) (.int i):=by simp only[Rv]
theorem jr(z:Str):Rv K H (.str z) (.str z):=by simp only[Rv]
theorem dG(a:Addr):Rv K H (.ref a) (.ref a):=by simp only[Rv]
theorem Td(n:String):Rv K H (.ty n) (.ty n):=by simp only[Rv]
theorem MC(h:X0 K a xs)(t:RvAll K H ds xs):Rv K H (.kt ds) (.ref a):=by simp only[Rv];exact⟨a,xs,rfl,h,t⟩
theorem iB(h:H a=some (.tup xs))(t:RvAll K H ds xs):Rv K H (.tup ds) (.ref a):=by simp only[Rv];exact⟨a,xs,rfl,h,t⟩
theorem G6(h:MB K H a xs)(t:RvAll K H ds xs):Rv K H (.jd ds) (.ref a):=by simp only[Rv];exact⟨a,xs,rfl,h,t⟩
theorem Rv.av(h:Rv K H .av v):v=.av:=by simpa only[Rv]using h
theorem Rv.bl(h:Rv K H (.bl b) v):v=.bl b:=by simpa only[Rv]using h
theorem Rv.int(h:Rv K H (.int i) v):v=.int i:=by simpa only[Rv]using h
theorem Rv.str(h:Rv K H (.str z) v):v=.str z:=by simpa only[Rv]using h
theorem Rv.ref(h:Rv K H (.ref a) v):v=.ref a:=by simpa only[Rv]using h
theorem Rv.ty(h:Rv K H (.ty n) v):v=.ty n:=by simpa only[Rv]using h
theorem Rv.kt(h:Rv K H (.kt ds) v):∃a xs,v=.ref a/\X0 K a xs/\RvAll K H ds xs:=by simpa only[Rv]using h
theorem Rv.tup(h:Rv K H (.tup ds) v):∃a xs,v=.ref a/\H a=some (.tup xs)/\RvAll K H ds xs:=by simpa only[Rv]using h
theorem Rv.jd(h:Rv K H (.jd ds) v):∃a xs,v=.ref a/\MB K H a xs/\RvAll K H ds xs:=by simpa only[Rv]using h
theorem bE:RvAll K H [] []:=by simp only[RvAll]
theorem aS(h:Rv K H d x)(t:RvAll K H ds xs):RvAll K H (d::ds) (x::xs):=by simp only[RvAll];exact⟨x,xs,rfl,h,t⟩
theorem RvAll.nil(h:RvAll K H [] xs):xs=[]:=by simpa only[RvAll]using h
theorem RvAll.cons(h:RvAll K H (d::ds) xs):∃y ys,xs=y::ys/\Rv K H d y/\RvAll K H ds ys:=by simpa only[RvAll]using h
mutual
theorem Rv.ts(s:Kp K H H'):∀(d:D){v:V},Rv K H d v->Rv K H' d v|.av,v,h=>by simpa only[Rv]using h|.bl b,v,h=>by simpa only[Rv]using h|.int i,v,h=>by simpa only[Rv]using h|.str z,v,h=>by simpa only[Rv]using h|.tup ds,v,h=>(by obtain⟨a,xs,rfl,e,t⟩:=h.tup;exact iB (s.t _ _ e)<|RvAll.ts s ds t)|.jd ds,v,h=>(by obtain⟨a,xs,rfl,e,t⟩:=h.jd;exact G6 (s.r _ _ e)<|RvAll.ts s ds t)|.kt ds,v,h=>(by obtain⟨a,xs,rfl,e,t⟩:=h.kt;exact MC e<|RvAll.ts s ds t)|.ref a,v,h=>by simpa only[Rv]using h|.ty n,v,h=>by simpa only[Rv]using h
theorem RvAll.ts(s:Kp K H H'):∀(ds:List D){xs:List V},RvAll K H ds xs->RvAll K H' ds xs|[],xs,h=>by rw[h.nil];exact bE|d::ds,xs,h=>by obtain⟨y,ys,rfl,h1,h2⟩:=h.cons;exact aS (Rv.ts s d h1)<|RvAll.ts s ds h2
end
theorem RvAll.len:∀{ds:List D}{xs:List V},RvAll K H ds xs->xs.length=ds.length|[],xs,h=>by rw[h.nil];rfl|d::ds,xs,h=>by obtain⟨y,ys,rfl,_,h2⟩:=h.cons;rw[zD,zD,h2.len]
theorem RvAll.get:∀{ds:List D}{xs:List V}{i:Nat}{d:D},RvAll K H ds xs->ds[i]?=some d->∃v,xs[i]?=some v/\Rv K H d v|[],xs,i,d,h,e=>by simp at e|d0::ds,xs,0,d,h,e=>(by obtain⟨y,ys,rfl,h1,h2⟩:=h.cons;simp at e;subst e;exact⟨y,rfl,h1⟩)|d0::ds,xs,i+1,d,h,e=>by obtain⟨y,ys,rfl,h1,h2⟩:=h.cons;obtain⟨v,e1,e2⟩:=h2.get (i:=i) (by simpa using e);exact{v,by simpa using e1,e2}
theorem RvAll.app:∀{ds es:List D}{xs ys:List V},RvAll K H ds xs->RvAll K H es ys->RvAll K H (ds++es) (xs++ys)|[],es,xs,ys,h,k=>by rw[h.nil];exact k|d::ds,es,xs,ys,h,k=>by obtain⟨y,zs,rfl,h1,h2⟩:=h.cons;exact aS h1<|h2.app k
theorem RvAll.take:∀{ds:List D}{xs:List V}(n:Nat),RvAll K H ds xs->RvAll K H (ds.take n) (xs.take n)|[],xs,n,h=>by rw[h.nil];simp only[List.take_nil];exact bE|d::ds,xs,0,h=>by simp only[List.take_zero];exact bE|d::ds,xs,n+1,h=>by obtain⟨y,zs,rfl,h1,h2⟩:=h.cons;exact aS h1<|h2.take n
theorem RvAll.drop:∀{ds:List D}{xs:List V}(n:Nat),RvAll K H ds xs->RvAll K H (ds.drop n) (xs.drop n)|[],xs,n,h=>by rw[h.nil];simp only[List.drop_nil];exact bE|d::ds,xs,0,h=>h|d::ds,xs,n+1,h=>by obtain⟨y,zs,rfl,h1,h2⟩:=h.cons;exact h2.drop n
theorem RvAll.set:∀{ds:List D}{xs:List V}{d:D}{v:V}(n:Nat),RvAll K H ds xs->Rv K H d v->RvAll K H (ds.set n d) (xs.set n v)|[],xs,d,v,n,h,r=>by rw[h.nil];exact bE|d0::ds,xs,d,v,0,h,r=>(by obtain⟨y,zs,rfl,h1,h2⟩:=h.cons;exact aS r h2)|d0::ds,xs,d,v,n+1,h,r=>by obtain⟨y,zs,rfl,h1,h2⟩:=h.cons;exact aS h1<|h2.set n r
theorem RvAll.dropLast:∀{ds:List D}{xs:List V},RvAll K H ds xs->RvAll K H ds.dropLast xs.dropLast|[],xs,h=>by rw[h.nil];exact bE|[d],xs,h=>(by obtain⟨y,zs,rfl,h1,h2⟩:=h.cons;rw[h2.nil];exact bE)|d::e::ds,xs,h=>by obtain⟨y,zs,rfl,h1,h2⟩:=h.cons;obtain⟨y2,zs2,rfl,h3,h4⟩:=id h2.cons;exact aS h1<|RvAll.dropLast h2
theorem RvAll.bools:∀{bs:List Bool}{xs:List V},RvAll K H (bs.map D.bl) xs->xs=bs.map V.bl|[],xs,h=>h.nil|b::bs,xs,h=>by obtain⟨y,ys,rfl,h1,h2⟩:=h.cons;rw[h1.bl,h2.bools];rfl
theorem RvAll.ints:∀{bs:List Int}{xs:List V},RvAll K H (bs.map D.int) xs->xs=bs.map V.int|[],xs,h=>h.nil|b::bs,xs,h=>by obtain⟨y,ys,rfl,h1,h2⟩:=h.cons;rw[h1.int,h2.ints];rfl
theorem RvAll.strs:∀{bs:List Str}{xs:List V},RvAll K H (bs.map D.str) xs->xs=bs.map V.str|[],xs,h=>h.nil|b::bs,xs,h=>by obtain⟨y,ys,rfl,h1,h2⟩:=h.cons;rw[h1.str,h2.strs];rfl
theorem C8:∀(bs:List Int),RvAll K H (bs.map D.int) (bs.map V.int)|[]=>bE|b::bs=>aS (aQ b)<|C8 bs
theorem vj:∀(bs:List Str),RvAll K H (bs.map D.str) (bs.map V.str)|[]=>bE|b::bs=>aS (jr b)<|vj bs
def bZ{κ:Type}(K:Frag)(H:Hp):List (κ×D)->List (κ×V)->Prop:=Paired λp q=>p.1=q.1/\Rv K H p.2 q.2
theorem bZ.ts(s:Kp K H H'):∀{ks:List (κ×D)}{vs:List (κ×V)},bZ K H ks vs->bZ K H' ks vs|_,_,.nil=>.nil|_,_,.cons r t=>.cons {r.1,Rv.ts s _ r.2}<|bZ.ts s t
theorem bZ.look(h:bZ K H ks vs)(f:Str):(∀d,ks.lookup f=some d->∃v,vs.lookup f=some v/\Rv K H d v)/\(ks.lookup f=none->vs.lookup f=none):=by induction h with|nil=>(exact{λd e=>(by cases e),λ_=>rfl})|@cons a b l m r t ih=>obtain⟨k,d⟩:=a;obtain⟨k',v⟩:=b;obtain⟨rfl,r⟩:=r;simp only[zP];cases q:f==k with|true=>(exact{λd' e=>{v,rfl,(by cases e;exact r)},λe=>(by cases e)})|false=>exact ih
end
set_option genInjectivity true in
set_option genSizeOfSpec true in
inductive Ce where
 |lst (ds:List D)|cB (kvs:List<|Key×D)|ins (c:Addr) (fs:List<|Str×D)|well|exc (c:Addr)|tab (q:Str)
def C9(H:Hp)(q:Str)(ps:Array Value):Prop:=TriplesOk ps.toList/\∀pos cv,codeAmong pos ps.toList=some cv->∃c o vs t,cv=.ref c/\H c=some (.lj o<|.own 0)/\o.data=.fields vs/\vs[1]?=some (.str q t)
abbrev ax:=Addr->Option Ce
noncomputable def ax.set(S:ax)(a:Addr)(c:Ce):ax:=λb=>if b=a then some c else S b
theorem aa{S:ax}{a:Addr}{c:Ce} : S.set a c a=some c:=by unfold ax.set;rw[if_pos rfl]
theorem ag{S:ax}{a b:Addr}{c:Ce}(h:b≠a):S.set a c b=S b:=by unfold ax.set;rw[if_neg h]
theorem b_{S:ax}{a:Addr}{c e:Ce} : (S.set a c).set a e=S.set a e:=by funext b;unfold ax.set;split<;>rfl
theorem iu{S:ax}{a b:Addr}{c:Ce}(h:S a=some c)(h':S b=none):a≠b:=by intro e;subst e;rw[h]at h';cases h'
def Rc(K:Frag)(H:Hp)(a:Addr):Ce->Prop|.lst ds=>∃xs,H a=some (.lst xs)/\RvAll K H ds xs|.cB kvs=>∃vs,H a=some (.dK vs)/\bZ K H kvs vs|.ins c fs=>∃dx vs,H a=some (.ins c dx vs)/\bZ K H fs vs|.well=>∃x y z:Int,H a=some (.lst [.int x,.int y,.int z])|.exc c=>H a=some (sS a<|.ref c)|.tab q=>∃ps,H a=some (.pU ps)/\C9 H q ps
def Rs(K:Frag)(S:ax)(H:Hp):Prop:=∀a c,S a=some c->Rc K H a c
section
variable{K:Frag}{H H':Hp}{S:ax}{a b:Addr}{c:Ce}
theorem Rc.has(h:Rc K H a c):∃o,H a=some o/\(∀xs,o≠.tup xs)/\∀u v,o≠.lj u v:=by cases c with|lst ds=>(obtain⟨xs,e,_⟩:=h;exact{_,e,λ_=>nofun,λ_ _=>nofun})|cB ds=>(obtain⟨xs,e,_⟩:=h;exact{_,e,λ_=>nofun,λ_ _=>nofun})|ins c fs=>(obtain⟨dx,vs,e,_⟩:=h;exact{_,e,λ_=>nofun,λ_ _=>nofun})|well=>(obtain⟨x,y,z,e⟩:=h;exact{_,e,λ_=>nofun,λ_ _=>nofun})|exc c=>exact{_,h,λ_=>nofun,λ_ _=>nofun}|tab q=>obtain⟨ps,e,_⟩:=h;exact{_,e,λ_=>nofun,λ_ _=>nofun}
theorem Rc.keep(h:Rc K H a c)(e:∀o,H a=some o->H' a=some o)(s:Kp K H H'):Rc K H' a c:=by cases c with|lst ds=>(obtain⟨xs,e1,r⟩:=h;exact{xs,e _ e1,RvAll.ts s _ r})|cB ds=>(obtain⟨xs,e1,r⟩:=h;exact{xs,e _ e1,r.ts s})|ins c fs=>(obtain⟨dx,vs,e1,r⟩:=h;exact{dx,vs,e _ e1,r.ts s})|well=>(obtain⟨x,y,z,e1⟩:=h;exact{x,y,z,e _ e1})|exc c=>exact e _ h|tab q=>obtain⟨ps,e1,r,r2⟩:=h;exact{ps,e _ e1,r,λpos cv z=>by obtain⟨c,o,vs,t,z1,z2,z3⟩:=r2 pos cv z;exact{c,o,vs,t,z1,s.f _ _ _ z2,z3}}
theorem Rs.fresh(h:Rs K S H)(e:H a=none):S a=none:=by cases q:S a with|none=>rfl|some c=>obtain⟨o,e1,_⟩:=(h a c q).has;rw[e]at e1;cases e1
theorem Rs.new(h:Rs K S H)(e:H a=none){o:HO}(r:Rc K (upd H a o) a c):Rs K (S.set a c) (upd H a o):=λb x hb=>by by_cases q:b=a;subst q;rw[aa]at hb;cases hb;exact r;rw[ag q]at hb;exact(h b x hb).keep (λo e1=>by rw[ao q];exact e1)<|Kp.new e
theorem Rs.grow(h:Rs K S H)(e:H a=none):Rs K S (upd H a o):=λb x hb=>by obtain⟨u,e1,_⟩:=(h b x hb).has;have q:b≠a:=aw e1 e;exact(h b x hb).keep (λo e1=>by rw[ao q];exact e1)<|Kp.new e
theorem Rs.iC(h:Rs K S H)(ha:S a=some e):Kp K H (upd H a o):=by obtain⟨u,e1,n1,n2⟩:=(h a e ha).has;exact Kp.put e1 n1 n2
theorem Rs.put(h:Rs K S H){e:Ce}(ha:S a=some e){o:HO}(r:Rc K (upd H a o) a c):Rs K (S.set a c) (upd H a o):=λb x hb=>by by_cases q:b=a;subst q;rw[aa]at hb;cases hb;exact r;rw[ag q]at hb;exact(h b x hb).keep (λo e1=>by rw[ao q];exact e1)<|h.iC ha
theorem Rs.lst(h:Rs K S H)(e:S a=some (.lst ds)):∃xs,H a=some (.lst xs)/\RvAll K H ds xs:=h a _ e
theorem Rs.cB(h:Rs K S H)(e:S a=some (.cB ds)):∃xs,H a=some (.dK xs)/\bZ K H ds xs:=h a _ e
theorem Rs.ins{c:Addr}{fs:List<|Str×D}(h:Rs K S H)(e:S a=some (.ins c fs)):∃dx vs,H a=some (.ins c dx vs)/\bZ K H fs vs:=h a _ e
end
abbrev KD:=D->ax->Prop
abbrev KX:=Addr->ax->Prop
abbrev SD:=List<|Option D
def gb(K:Frag)(H:Hp):SD->St->Prop:=Paired λ(o:Option D)(u:Option V)=>∀d,o=some d->∃v,u=some v/\Rv K H d v
section
variable{K:Frag}{H H':Hp}
theorem gb.ts(s:Kp K H H'):∀{σ:SD}{τ:St},gb K H σ τ->gb K H' σ τ|_,_,.nil=>.nil|_,_,.cons r t=>.cons (λd e=>by obtain⟨v,e1,r1⟩:=r d e;exact{v,e1,Rv.ts s _ r1})<|gb.ts s t
theorem gb.get:∀{σ:SD}{τ:St}{i:Nat}{d:D},gb K H σ τ->σ[i]?=some (some d)->∃v,τ[i]?=some (some v)/\Rv K H d v|_,_,i,d,.nil,e=>by simp at e|_,_,0,d,.cons r t,e=>(by simp at e;obtain⟨v,e1,r1⟩:=r d e;exact{v,by simp[e1],r1})|_,_,i+1,d,.cons r t,e=>by obtain⟨v,e1,r1⟩:=gb.get (i:=i) t (by simpa using e);exact{v,by simpa using e1,r1}
theorem gb.set:∀{σ:SD}{τ:St}(i:Nat){d:D}{v:V},gb K H σ τ->Rv K H d v->gb K H (σ.set i<|some d) (τ.set i<|some v)|_,_,i,d,v,.nil,r=>.nil|_,_,0,d,v,.cons r t,q=>(.cons (λd' e=>by cases e;exact⟨v,rfl,q⟩) t)|_,_,i+1,d,v,.cons r t,q=>.cons r<|gb.set i t q
theorem gb.unset:∀{σ:SD}{τ:St}(i:Nat)(o:Option V),gb K H σ τ->gb K H (σ.set i none) (τ.set i o)|_,_,i,o,.nil=>.nil|_,_,0,o,.cons r t=>(.cons (λd' e=>by cases e) t)|_,_,i+1,o,.cons r t=>.cons r<|gb.unset i o t
theorem mh:∀(n:Nat)(τ:St),τ.length=n->gb K H (List.replicate n none) τ|0,[],_=>.nil|n+1,_::τ,h=>.cons (λd e=>by cases e)<|mh n τ<|by simpa using h
theorem mi:∀{ds:List D}{vs:List V},RvAll K H ds vs->gb K H (ds.map some) (vs.map some)|[],vs,h=>by rw[h.nil];exact .nil|d::ds,vs,h=>by obtain⟨y,ys,rfl,h1,h2⟩:=h.cons;exact .cons (λd' e=>by cases e;exact⟨y,rfl,h1⟩)<|mi h2
theorem gb.app:∀{σ aq:SD}{τ Q5:St},gb K H σ τ->gb K H aq Q5->gb K H (σ++aq) (τ++Q5)|_,_,_,_,.nil,h=>h|_,_,_,_,.cons r t,h=>.cons r<|gb.app t h
end
structure Rdy(Y:Cx)(E:St->XK)(b:Bool):Prop where
 call:∀p2 τ H s e s',Inv Y p2 τ H s->fj Y.prog Y.w Y.mg Y.stack H s (E τ) e s'->Y.xe e s'
 own:b=true->∀p2 τ H s h' a cls args,Inv Y p2 τ H s->Heap.MadeExcOf s.heap h' a cls args->E τ cls none H->Y.xe (.ref a) {s with heap:=h'}
 loop:b=true->PassesOwn (model Y.prog Y.w) Y.A Y.env Y.xe
structure Ev(X:Cx)(b:Bool) where
 pn:List (Addr×Obj)
 xe:Value->Shared->Prop
 E:St->XK
 ok:Rdy {X with pn:=pn,xe:=xe} E b
noncomputable abbrev Ev.cx{X:Cx}{b:Bool}(y:Ev X b):Cx:={X with pn:=y.pn,xe:=y.xe}
def Cn(K:Frag)(H:Hp)(R:KD)(Q:VK):Prop:=∀d S v H',R d S->Rv K H' d v->Rs K S H'->Kp K H H'->Q v H'
def ED(K:Frag)(H:Hp)(Z:KX)(e:XK):Prop:=∀C S H',Z C S->Rs K S H'->Kp K H H'->e (.ref C) none H'
theorem Cn.kp{K:Frag}{H H1:Hp}{R:KD}{Q:VK}(h:Cn K H R Q)(k:Kp K H H1):Cn K H1 R Q:=λd S v H' r v1 s1 k1=>h d S v H' r v1 s1<|k.trans k1
theorem ED.kp{K:Frag}{H H1:Hp}{Z:KX}{e:XK}(h:ED K H Z e)(k:Kp K H H1):ED K H1 Z e:=λC S H' r s1 k1=>h C S H' r s1<|k.trans k1
abbrev TD:=SD->ax->KD->KX->Prop
def T(K:Frag)(E:St->XK)(t:TD):TE:=λτ H Q=>∃σ S R Z,gb K H σ τ/\Rs K S H/\t σ S R Z/\Cn K H R Q/\ED K H Z (E τ)
structure DE(K:Frag)(X:Cx)(e:Expr)(t:TD):Prop where
 of:∀{b:Bool}(y:Ev X b),PE y.cx e<|T K y.E t
abbrev mj:=SD->ax->(Bool->ax->Prop)->KX->Prop
def V3(K:Frag)(H:Hp)(R:Bool->ax->Prop)(Q:Bool->Hp->Prop):Prop:=∀b S H',R b S->Rs K S H'->Kp K H H'->Q b H'
theorem V3.kp{K:Frag}{H H1:Hp}{R:Bool->ax->Prop}{Q:Bool->Hp->Prop}(h:V3 K H R Q)(k:Kp K H H1):V3 K H1 R Q:=λd S H' r s1 k1=>h d S H' r s1<|k.trans k1
def Tt(K:Frag)(E:St->XK)(t:mj):TT:=λτ H Q=>∃σ S R Z,gb K H σ τ/\Rs K S H/\t σ S R Z/\V3 K H R Q/\ED K H Z (E τ)
structure DT(K:Frag)(X:Cx)(e:Expr)(t:mj):Prop where
 of:∀{b:Bool}(y:Ev X b),PT y.cx e<|Tt K y.E t
abbrev iD:=SD->ax->(List D->ax->Prop)->KX->Prop
def CnA(K:Frag)(H:Hp)(R:List D->ax->Prop)(Q:List V->Hp->Prop):Prop:=∀ds S vs H',R ds S->RvAll K H' ds vs->Rs K S H'->Kp K H H'->Q vs H'
def Ta(K:Frag)(E:St->XK)(t:iD):TA:=λτ H Q=>∃σ S R Z,gb K H σ τ/\Rs K S H/\t σ S R Z/\CnA K H R Q/\ED K H Z (E τ)
structure DA(K:Frag)(X:Cx)(es:List Expr)(t:iD):Prop where
 of:∀{b:Bool}(y:Ev X b),PA y.cx es<|Ta K y.E t
theorem PE.mono{t t':TE}(h:PE X e t)(i:∀τ H Q,t' τ H Q->t τ H Q):PE X e t':=λpins s τ H Q I q=>h pins s τ H Q I<|i τ H Q q
theorem PT.mono{t t':TT}(h:PT X e t)(i:∀τ H Q,t' τ H Q->t τ H Q):PT X e t':=λpins s τ H Q I q=>h pins s τ H Q I<|i τ H Q q
theorem PA.mono{t t':TA}(h:PA X e t)(i:∀τ H Q,t' τ H Q->t τ H Q):PA X e t':=λpos pins s τ H Q I q=>h pos pins s τ H Q I<|i τ H Q q
section
variable{K:Frag}{X:Cx}
inductive Te (i:Nat) (σ:SD) (S:ax) (R:KD):Prop where
 |mk (d:D) (h:σ[i]?=some (some d)) (r:R d S)
def Tf(i:Nat):TD:=λσ S R _=>Te i σ S R
inductive Q6 (x:D) (S:ax) (R:Bool->ax->Prop):Prop where
 |mk (b:Bool) (h:x=.bl b) (r:R b S)
def dC(d:D):TD:=λ_ S R _=>R d S
theorem dv(i:Nat)(hN:autoParam (X.N[i]?=some x) qQJ)(hv:Nz X.env.scope x:=by first|exact Or.inl rfl|exact Or.inr (Or.inl rfl)|exact Or.inr (Or.inr rfl))(hd:autoParam ((x==("__debug__": Str))=false) qQZ) (pW:autoParam ((x==("__classdict__": Str))=false) qQZ):DE K X (.Name x pos) (Tf i):=⟨λy=>(NC (X:=y.cx) hN hv hd pW).mono <| by rintro τ H Q ⟨σ,S,R,Z,aB,hS,⟨d,e,r⟩,hR,_⟩;exact by obtain⟨v,e1,rv⟩:=aB.get e;exact{v,e1,hR d S v H r rv hS<|Kp.refl _}⟩
theorem DE.const(h:∀Y:Cx,Y.env=X.env->Y.mg=X.mg->PE Y e (tC v))(r:∀H,Rv K H d v):DE K X e (dC d):=⟨λy=>(h y.cx rfl rfl).mono <| by rintro τ H Q ⟨σ,S,R,Z,aB,hS,q,hR,_⟩;exact hR d S v H q (r H) hS<|Kp.refl _⟩
theorem di:DE K X (.Constant (.int i) j pos) (dC<|.int i):=.const (λ_ _ _=>ND) λ_=>aQ i
theorem ds:DE K X (.Constant (.str i) j pos) (dC<|.str i):=.const (λ_ _ _=>NG) λ_=>jr i
theorem db:DE K X (.Constant (.bool i) j pos) (dC<|.bl i):=.const (λ_ _ _=>Ml) λ_=>bS i
theorem dn:DE K X (.Constant .none j pos) (dC .av):=.const (λ_ _ _=>NF) λ_=>iA
theorem dg(hm:X.mg x=some u)(r:RelV v u)(rd:∀H,Rv K H d v)(hg:autoParam (Gl X x) qQJ)(hd:autoParam ((x==("__debug__": Str))=false) qQZ):DE K X (.Name x pos) (dC d):=.const (λY e1 e2=>CK (X:=Y) (u:=u) (show Y.env.kindOf x=_ by rw[e1];exact hg) (by rw[e2];exact hm) r hd) rd
theorem sH(hm:X.mg x=none)(hv:bootBuiltins x=some (.type n))(hg:autoParam (Gl X x) qQJ)(hn:autoParam (x≠"__name__") qQZ)(hd:autoParam ((x==("__debug__": Str))=false) qQZ):DE K X (.Name x pos) (dC<|.ty n):=.const (λY e1 e2=>JL (X:=Y) (v:=.ty n) (show Y.env.kindOf x=_ by rw[e1];exact hg) (by rw[e2];exact hm) hv rfl hn hd) λ_=>Td n
def G7:iD:=λ_ S R _=>R [] S
def MD(t:TD)(u:iD):iD:=λσ S R Z=>t σ S (λd S1=>u σ S1 (λds S2=>R (d::ds) S2) Z) Z
theorem an:DA K X [] G7:=⟨λy=>(AV (X:=y.cx)).mono <| by rintro τ H Q ⟨σ,S,R,Z,aB,hS,q,hR,_⟩;exact hR [] S [] H q bE hS<|Kp.refl _⟩
theorem ac{t:TD}(h:DE K X e t)(hr:DA K X es u)(hp:autoParam (isPlain e=true) qQJ):DA K X (e::es) (MD t u):=
 ⟨λy=>(XG (h.of y) (hr.of y) hp).mono <| by rintro τ H Q ⟨σ,S,R,Z,aB,hS,q,hR,hZ⟩;exact
  ⟨σ,S,_,Z,aB,hS,q,λd S1 x H1 r1 v1 s1 k1=>⟨σ,S1,_,Z,aB.ts k1,s1,r1,λds S2 xs H2 r2 v2 s2 k2=>hR (d::ds) S2 (x::xs) H2 r2 (aS (Rv.ts k2 _ v1) v2) s2<|k1.trans k2,hZ.kp k1⟩,hZ⟩⟩
abbrev uk:=D->D->ax->KD->Prop
theorem al{x:Str}{pos:Pos}(i:Nat)(hr:DA K X es u)(hN:autoParam (X.N[i]?=some x) qQJ)(hv:Nz X.env.scope x:=by first|exact Or.inl rfl|exact Or.inr (Or.inl rfl)|exact Or.inr (Or.inr rfl))(hd:autoParam ((x==("__debug__": Str))=false) qQZ) (pW:autoParam ((x==("__classdict__": Str))=false) qQZ):DA K X (.Name x pos::es) (MD (Tf i) u):=ac (dv i hN hv hd pW) hr rfl
def Lr(K:Frag)(r:uk):R2:=λx y H Q=>∃d e S R,Rv K H d x/\Rv K H e y/\Rs K S H/\r d e S R/\Cn K H R Q
def pE(K:Frag)(f:Value->Value->Sem Value)(r:uk):Prop:=∀X:Cx,X.K=K->X.A.units+64<cLine->gR X f (Lr K r)
def O3(r:uk)(ta tb:TD):TD:=λσ S R Z=>ta σ S (λx S1=>tb σ S1 (λy S2=>r x y S2 R) Z) Z
theorem T.op(h:T K E (O3 r ta tb) τ H Q):QT (Lr K r) (T K E ta) (T K E tb) τ H Q:=by obtain⟨σ,S,R,Z,aB,hS,q,hR,hZ⟩:=h;exact{σ,S,_,Z,aB,hS,q,λd S1 x H1 r1 v1 s1 k1=>{σ,S1,_,Z,aB.ts k1,s1,r1,λe S2 y H2 r2 v2 s2 k2=>{d,e,S2,R,Rv.ts k2 _ v1,v2,s2,r2,hR.kp<|k1.trans k2},hZ.kp k1},hZ}
theorem bo(ho:pE K (binaryOp op) r)(hu:X.A.units+64<cLine)(ha:DE K X a ta)(hb:DE K X b tb)(hK:autoParam (X.K=K) qQJ):DE K X (.BinOp a op b pos) (O3 r ta tb):=⟨λy=>(RV (ho y.cx hK hu) (ha.of y)<|hb.of y).mono λ_ _ _ h=>h.op⟩
theorem cm(ho:pE K (compareOp op) r)(hu:X.A.units+64<cLine)(ha:DE K X a ta)(hb:DE K X b tb)(hm:autoParam (behindInMarks op b=false) qQ2)(hK:autoParam (X.K=K) qQJ):DE K X (.Compare a [op] [b] pos) (O3 r ta tb):=⟨λy=>(CU (ho y.cx hK hu) (ha.of y) (hb.of y) hm).mono λ_ _ _ h=>h.op⟩
def dB(t:TD):mj:=λσ S R Z=>t σ S (λx S1=>Q6 x S1 R) Z
theorem Tt.b{t:TD}(h:Tt K E (dB t) τ H Q):T K E t τ H λx H'=>∃k,x=.bl k/\Q k H':=by obtain⟨σ,S,R,Z,aB,hS,q,hR,hZ⟩:=h;exact{σ,S,_,Z,aB,hS,q,by rintro d S1 x H1 ⟨b,e,r1⟩ v1 s1 k1;exact by subst e;exact{b,v1.bl,hR b S1 H1 r1 s1 k1},hZ}
theorem Tt.bop(h:Tt K E (dB<|O3 r ta tb) τ H Q):Gg (QT (Lr K r) (T K E ta)<|T K E tb) τ H Q:=h.b.op
theorem bH(ho:pE K (compareOp op) r)(hu:X.A.units+64<cLine)(ha:DE K X a ta)(hb:DE K X b tb)(hm:autoParam (behindInMarks op b=false) qQ2)(hK:autoParam (X.K=K) qQJ):DT K X (.Compare a [op] [b] pos) (dB<|O3 r ta tb):=⟨λy=>(JW (ho y.cx hK hu) (ha.of y) (hb.of y) hm).mono λ_ _ _ h=>h.bop⟩
theorem tv{t:TD}(h:DE K X e t)(he:autoParam (∀whole,isTrue e X.env whole=(do let v <-whole;standAt e.pos;holding [v] (truthy v))) qQ0):DT K X e (dB t):=⟨λy=>(NH (X:=y.cx) (h.of y) he).mono λ_ _ _ h=>h.b⟩
def Bs(r r':uk)(ta tb tc:TD):TD:=λσ S R Z=>ta σ S (λx S1=>tb σ S1 (λy S2=>r x y S2 λz S3=>Q6 z S3 λk S3=>if k=true then tc σ S3 (λw S4=>r' y w S4 R) Z else R (.bl false) S3) Z) Z
theorem T.chain(h:T K E (Bs r r' ta tb tc) τ H Q):AN (Lr K r) (Lr K r') (T K E ta) (T K E tb) (T K E tc) τ H Q:=by obtain⟨σ,S,R,Z,aB,hS,q,hR,hZ⟩:=h;refine{σ,S,_,Z,aB,hS,q,λd S1 x H1 r1 v1 s1 k1=>{σ,S1,_,Z,aB.ts k1,s1,r1,λe S2 y H2 r2 v2 s2 k2=>{d,e,S2,_,Rv.ts k2 _ v1,v2,s2,r2,λz S3 v H3 r3 v3 s3 k3=>?_},hZ.kp k1},hZ};obtain⟨k,rfl,r3⟩:=r3;refine{k,v3.bl,?_};cases k with|true=>rw[if_pos rfl]at r3⊢;exact{σ,S3,_,Z,((aB.ts k1).ts k2).ts k3,s3,r3,λw S4 wv H4 r4 v4 s4 k4=>{e,w,S4,R,Rv.ts (k3.trans k4) _ v2,v4,s4,r4,hR.kp<|((k1.trans k2).trans k3).trans k4},hZ.kp<|(k1.trans k2).trans k3}|false=>rw[if_neg zd]at r3⊢;exact hR _ S3 _ H3 r3 (bS false) s3<|(k1.trans k2).trans k3
theorem cc(ho:pE K (compareOp op) r)(AI:pE K (compareOp Ee) r')(hu:X.A.units+64<cLine)(ha:DE K X a ta)(hb:DE K X b tb)(hc:DE K X c tc) (hm:autoParam (lastMarks [op,Ee] [b,c]=false) qQ2) (hK:autoParam (X.K=K) qQJ):DE K X (.Compare a [op,Ee] [b,c] pos) (Bs r r' ta tb tc):=⟨λy=>(Gi (ho y.cx hK hu) (AI y.cx hK hu) (ha.of y) (hb.of y) (hc.of y) hm).mono λ_ _ _ h=>h.chain⟩
theorem V4(ho:pE K (compareOp op) r)(AI:pE K (compareOp Ee) r')(hu:X.A.units+64<cLine)(ha:DE K X a ta)(hb:DE K X b tb)(hc:DE K X c tc) (hm:autoParam (lastMarks [op,Ee] [b,c]=false) qQ2) (hK:autoParam (X.K=K) qQJ):DT K X (.Compare a [op,Ee] [b,c] pos) (dB<|Bs r r' ta tb tc):=⟨λy=>(Gj (ho y.cx hK hu) (AI y.cx hK hu) (ha.of y) (hb.of y) (hc.of y) hm).mono λ_ _ _ h=>h.b.chain⟩
def Th(ta tb:TD):TD:=λσ S R Z=>ta σ S (λx S1=>Q6 x S1 λc S1=>if c=true then tb σ S1 R Z else R (.bl false) S1) Z
def X1(ta tb:TD):TD:=λσ S R Z=>ta σ S (λx S1=>Q6 x S1 λc S1=>if c=true then R (.bl true) S1 else tb σ S1 R Z) Z
def Tj(ta:TD):TD:=λσ S R Z=>ta σ S (λx S1=>Q6 x S1 λc S1=>R (.bl<|!c) S1) Z
theorem G8{t:TD}(h:DE K X a t):DE K X (.BoolOp op [a] pos) t:=⟨λy=>NJ<|h.of y⟩
theorem qR{a b:Expr}{rest:List Expr}{ta tb:TD}{pos:Pos}(ha:DE K X a ta)(hb:DE K X (.BoolOp .And (b::rest) pos) tb):DE K X (.BoolOp .And (a::b::rest) pos) (Th ta tb):=
 ⟨λy=>(NK (ha.of y)<|hb.of y).mono <| by rintro τ H Q ⟨σ,S,R,Z,aB,hS,q,hR,hZ⟩;exact
  ⟨σ,S,_,Z,aB,hS,q,by
   rintro d S1 x H1 ⟨c,e,r1⟩ v1 s1 k1
   subst e
   refine{c,v1.bl,?_}
   cases c with
   |true=>rw[if_pos rfl]at r1⊢;exact{σ,S1,R,Z,aB.ts k1,s1,r1,hR.kp k1,hZ.kp k1}
   |false=>rw[if_neg zd]at r1⊢;exact hR _ S1 _ H1 r1 (bS false) s1 k1,hZ⟩⟩
theorem eor{a b:Expr}{rest:List Expr}{ta tb:TD}{pos:Pos}(ha:DE K X a ta)(hb:DE K X (.BoolOp .Or (b::rest) pos) tb):DE K X (.BoolOp .Or (a::b::rest) pos) (X1 ta tb):=
 ⟨λy=>(RK (ha.of y)<|hb.of y).mono <| by rintro τ H Q ⟨σ,S,R,Z,aB,hS,q,hR,hZ⟩;exact
  ⟨σ,S,_,Z,aB,hS,q,by
   rintro d S1 x H1 ⟨c,e,r1⟩ v1 s1 k1
   subst e
   refine{c,v1.bl,?_}
   cases c with
   |false=>rw[if_neg zd]at r1⊢;exact{σ,S1,R,Z,aB.ts k1,s1,r1,hR.kp k1,hZ.kp k1}
   |true=>rw[if_pos rfl]at r1⊢;exact hR _ S1 _ H1 r1 (bS true) s1 k1,hZ⟩⟩
theorem Tp(ha:DE K X a ta):DE K X (.UnaryOp .Not a pos) (Tj ta):=
 ⟨λy=>(NL<|ha.of y).mono <| by rintro τ H Q ⟨σ,S,R,Z,aB,hS,q,hR,hZ⟩;exact
  ⟨σ,S,_,Z,aB,hS,q,by rintro d S1 x H1 ⟨c,e,r1⟩ v1 s1 k1;exact by subst e;exact⟨c,v1.bl,hR _ S1 _ H1 r1 (bS _) s1 k1⟩,hZ⟩⟩
def X2(t:mj):mj:=λσ S R Z=>t σ S (λc S1=>R (!c) S1) Z
def X3(t u:mj):mj:=λσ S R Z=>t σ S (λc S1=>if c=true then u σ S1 R Z else R false S1) Z
def dOr(t u:mj):mj:=λσ S R Z=>t σ S (λc S1=>if c=true then R true S1 else u σ S1 R Z) Z
theorem cG{t:mj}(ha:DT K X a t):DT K X (.UnaryOp .Not a pos) (X2 t):=⟨λy=>(NI<|ha.of y).mono <| by rintro τ H Q ⟨σ,S,R,Z,aB,hS,q,hR,hZ⟩;exact{σ,S,_,Z,aB,hS,q,λc S1 H1 r1 s1 k1=>hR _ S1 H1 r1 s1 k1,hZ}⟩
structure DW(K:Frag)(X:Cx)(e:Expr)(t:mj):Prop where
 of:∀{b:Bool}(y:Ev X b),PW y.cx e<|Tt K y.E t
theorem PW.mono{t t':TT}(h:PW X e t)(i:∀τ H Q,t' τ H Q->t τ H Q):PW X e t':=λwh pins s τ H Q I q=>h wh pins s τ H Q I<|i τ H Q q
theorem twd{t:mj}(h:DW K X e t):DT K X e t:=⟨λy=>(h.of y).pt⟩
theorem tw1{t:mj}(h:DT K X a t):DW K X (.BoolOp op [a] pos) t:=⟨λy=>by cases op with|And=>exact pw_and1 (h.of y)|Or=>exact pw_or1<|h.of y⟩
theorem twand{a b:Expr}{rest:List Expr}{t u:mj}{pos:Pos}(ha:DT K X a t)(hb:DW K X (.BoolOp .And (b::rest) pos) u):DW K X (.BoolOp .And (a::b::rest) pos) (X3 t u):=
 ⟨λy=>(pw_and (ha.of y)<|hb.of y).mono <| by rintro τ H Q ⟨σ,S,R,Z,aB,hS,q,hR,hZ⟩;exact
  ⟨σ,S,_,Z,aB,hS,q,λc S1 H1 r1 s1 k1=>by
   cases c with
   |true=>rw[if_pos rfl]at r1⊢;exact{σ,S1,R,Z,aB.ts k1,s1,r1,hR.kp k1,hZ.kp k1}
   |false=>rw[if_neg zd]at r1⊢;exact hR _ S1 H1 r1 s1 k1,hZ⟩⟩
theorem twor{a b:Expr}{rest:List Expr}{t u:mj}{pos:Pos}(ha:DT K X a t)(hb:DW K X (.BoolOp .Or (b::rest) pos) u):DW K X (.BoolOp .Or (a::b::rest) pos) (dOr t u):=
 ⟨λy=>(pw_or (ha.of y)<|hb.of y).mono <| by rintro τ H Q ⟨σ,S,R,Z,aB,hS,q,hR,hZ⟩;exact
  ⟨σ,S,_,Z,aB,hS,q,λc S1 H1 r1 s1 k1=>by
   cases c with
   |false=>rw[if_neg zd]at r1⊢;exact{σ,S1,R,Z,aB.ts k1,s1,r1,hR.kp k1,hZ.kp k1}
   |true=>rw[if_pos rfl]at r1⊢;exact hR _ S1 H1 r1 s1 k1,hZ⟩⟩
def X4(t:mj)(ta tb:TD):TD:=λσ S R Z=>t σ S (λc S1=>if c=true then ta σ S1 R Z else tb σ S1 R Z) Z
theorem ME{t:mj}(hc:DT K X c t)(ha:DE K X a ta)(hb:DE K X b tb):DE K X (.IfExp c a b pos) (X4 t ta tb):=
 ⟨λy=>(FX (hc.of y) (ha.of y)<|hb.of y).mono <| by rintro τ H Q ⟨σ,S,R,Z,aB,hS,q,hR,hZ⟩;exact
  ⟨σ,S,_,Z,aB,hS,q,λc S1 H1 r1 s1 k1=>by
   cases c with
   |true=>rw[if_pos rfl]at r1⊢;exact{σ,S1,R,Z,aB.ts k1,s1,r1,hR.kp k1,hZ.kp k1}
   |false=>rw[if_neg zd]at r1⊢;exact{σ,S1,R,Z,aB.ts k1,s1,r1,hR.kp k1,hZ.kp k1},hZ⟩⟩
def X5(t:iD):TD:=λσ S R Z=>t σ S (λds S1=>ds.length<=sizeLine/\∀p,S1 p=none->R (.ref p) (S1.set p<|.lst ds)) Z
def X6(t:iD):TD:=λσ S R Z=>t σ S (λds S1=>ds.length<=sizeLine/\R (.tup ds) S1) Z
theorem bV{t:iD}(h:DA K X es t):DE K X (.List es pos) (X5 t):=
 ⟨λy=>(N9<|h.of y).mono <| by rintro τ H Q ⟨σ,S,R,Z,aB,hS,q,hR,hZ⟩;exact
  ⟨σ,S,_,Z,aB,hS,q,by rintro ds S1 xs H1 ⟨hl,r1⟩ v1 s1 k1;exact⟨by rw[v1.len];exact hl,λp hp=>hR _ _ _ _ (r1 p<|s1.fresh hp) (dG p) (s1.new hp ⟨xs,aD,RvAll.ts (.new hp) _ v1⟩)<|k1.trans<|.new hp⟩,hZ⟩⟩
theorem a_{t:iD}(h:DA K X es t):DE K X (.Tuple es x1 pos) (X6 t):=
 ⟨λy=>(N8<|h.of y).mono <| by rintro τ H Q ⟨σ,S,R,Z,aB,hS,q,hR,hZ⟩;exact
  ⟨σ,S,_,Z,aB,hS,q,by rintro ds S1 xs H1 ⟨hl,r1⟩ v1 s1 k1;exact⟨by rw[v1.len];exact hl,λp hp=>hR _ _ _ _ r1 (iB aD<|RvAll.ts (.new hp) _ v1) (s1.grow hp)<|k1.trans<|.new hp⟩,hZ⟩⟩
def X7:TD:=λ_ S R _=>∀p,S p=none->R (.ref p) (S.set p<|.cB [])
theorem Tq:DE K X (.Dict [] [] pos) X7:=⟨λy=>(GF (X:=y.cx)).mono <| by rintro τ H Q ⟨σ,S,R,Z,aB,hS,q,hR,hZ⟩ p hp;exact hR _ _ _ _ (q p<|hS.fresh hp) (dG p) (hS.new hp {[],aD,.nil})<|.new hp⟩
def Lc(K:Frag)(r:List D->ax->KD->Prop):List V->Hp->VK->Prop:=λxs H Q=>∃ds S R,RvAll K H ds xs/\Rs K S H/\r ds S R/\Cn K H R Q
def gX(K:Frag)(f:Value)(r:List D->ax->KD->Prop):Prop:=∀X:Cx,X.K=K->X.calm=true->dw X f (Lc K r)
def Tr(r:List D->ax->KD->Prop)(t:iD):TD:=λσ S R Z=>t σ S (λds S1=>r ds S1 R) Z
theorem T.cb{t:iD}(h:T K E (Tr r t) τ H Q):W8 (Lc K r) (Ta K E t) τ H Q:=by obtain⟨σ,S,R,Z,aB,hS,q,hR,hZ⟩:=h;exact{σ,S,_,Z,aB,hS,q,λds S1 xs H1 r1 v1 s1 k1=>{ds,S1,R,v1,s1,r1,hR.kp k1},hZ}
theorem cb{x:Str}{id:String}{r:List D->ax->KD->Prop}{e:Expr}{es:List Expr}{t:iD}{p pos:Pos}(hc:gX K (.builtin id) r)(hm:X.mg x=none)(hv:bootBuiltins x=some (.builtin id))(ha:DA K X (e::es) t)(hg:autoParam (Gl X x) qQJ) (hn:autoParam (x≠"__name__") qQZ) (jb:autoParam ((x==("__debug__": Str))=false) qQZ) (he:autoParam (starEach (e::es) X.env=(false,eval e X.env)::starEach es X.env) qQJ) (eE:autoParam ((backTo pos<|starEach es X.env).any (·.1)=false) qQJ) (hK:autoParam (X.K=K) qQJ) (hC:autoParam (X.calm=true) qQJ): DE K X (.Call (.Name x p) (e::es) [] pos) (Tr r t):=⟨λy=>(qA (X:=y.cx) (hc _ hK hC) hg hm hv (ha.of y) hn jb he eE).mono λ_ _ _ h=>h.cb⟩
theorem ct{x:Str}{id:String}{r:List D->ax->KD->Prop}{e:Expr}{es:List Expr}{t:iD}{p pos:Pos}(hc:gX K (.type id) r)(hm:X.mg x=none)(hv:bootBuiltins x=some (.type id))(ha:DA K X (e::es) t)(hg:autoParam (Gl X x) qQJ) (hn:autoParam (x≠"__name__") qQZ) (jb:autoParam ((x==("__debug__": Str))=false) qQZ) (he:autoParam (starEach (e::es) X.env=(false,eval e X.env)::starEach es X.env) qQJ) (eE:autoParam ((backTo pos<|starEach es X.env).any (·.1)=false) qQJ) (hK:autoParam (X.K=K) qQJ) (hC:autoParam (X.calm=true) qQJ): DE K X (.Call (.Name x p) (e::es) [] pos) (Tr r t):=⟨λy=>(t_ (X:=y.cx) (hc _ hK hC) hg hm hv (ha.of y) hn jb he eE).mono λ_ _ _ h=>h.cb⟩
end
section
variable{K:Frag}
theorem Cn.now(h:Cn K H R Q)(hS:Rs K S H)(r:R d S)(rv:Rv K H d v):Q v H:=h d S v H r rv hS<|.refl _
theorem Cn.new{H:Hp}{R:KD}{Q:VK}{S:ax}{p:Addr}{ds:List D}{xs:List V}(h:Cn K H R Q)(hS:Rs K S H)(hp:H p=none)(r:S p=none->R (.ref p) (S.set p<|.lst ds))(rv:RvAll K H ds xs):Q (.ref p) (upd H p<|.lst xs):=h _ _ _ _ (r<|hS.fresh hp) (dG p) (hS.new hp {xs,aD,RvAll.ts (.new hp) _ rv})<|.new hp
theorem Cn.KQ{H:Hp}{R:KD}{Q:VK}{S:ax}{p:Addr}{ds:List D}{xs:List V}(h:Cn K H R Q)(hS:Rs K S H)(hp:H p=none)(r:R (.tup ds) S)(rv:RvAll K H ds xs):Q (.ref p) (upd H p<|.tup xs):=h _ _ _ _ r (iB aD<|RvAll.ts (.new hp) _ rv) (hS.grow hp)<|.new hp
theorem Cn.put{H:Hp}{R:KD}{Q:VK}{S:ax}{p:Addr}{ds es:List D}{xs:List V}{d:D}{v:V}(h:Cn K H R Q)(hS:Rs K S H)(hp:S p=some (.lst es))(r:R d<|S.set p<|.lst ds)(rd:Rv K H d v)(rv:RvAll K H ds xs):Q v (upd H p<|.lst xs):=h _ _ _ _ r (Rv.ts (hS.iC hp) _ rd) (hS.put hp {xs,aD,RvAll.ts (hS.iC hp) _ rv})<|hS.iC hp
def vk(S:ax):D->List D->Prop|.ref a,ds=>S a=some (.lst ds)|.jd es,ds=>es=ds|_,_=>False
theorem vk.at{H:Hp}{S:ax}{d:D}{ds:List D}{v:V}(h:vk S d ds)(hS:Rs K S H)(r:Rv K H d v):∃a xs,v=.ref a/\ji K H a xs/\RvAll K H ds xs:=by cases d with|ref a=>(obtain⟨xs,e,q⟩:=hS.lst h;exact{a,xs,r.ref,.of e,q})|jd es=>(have h:es=ds:=h;subst h;obtain⟨a,xs,e,q,t⟩:=r.jd;exact⟨a,xs,e,q.sq,t⟩)|_=>exact h.elim
def X8:uk:=λx y S R=>match x,y with|.int i,.int j=>R (.int<|i+j) S|.str a,.str b=>a.length+b.length<=sizeLine/\R (.str<|a++b) S|.tup a,.tup b=>a.length+b.length<=sizeLine/\R (.tup<|a++b) S|.ref a,.ref b=>∃xs ys,S a=some (.lst xs)/\S b=some (.lst ys)/\xs.length+ys.length<=sizeLine/\∀p,S p=none->R (.ref p) (S.set p<|.lst<|xs++ys)|_,_=>False
theorem G9:pE K (binaryOp .Add) X8:=by rintro X hK hu pins s σ H x y v u Q I rx ry ⟨d,e,S,R,r1,r2,hS,h,hR⟩;subst hK;cases d with|int i=>(cases e with|int j=>exact Ge pins s σ H x y v u Q I rx ry {i,j,r1.int,r2.int,hR.now hS h<|aQ _}|_=>exact h.elim)|str i=>(cases e with|str j=>exact qw pins s σ H x y v u Q I rx ry {i,j,r1.str,r2.str,h.1,hR.now hS h.2<|jr _}|_=>exact h.elim)|tup i=>(cases e with|tup j=>(obtain⟨a,xs,rfl,q1,t1⟩:=r1.tup;obtain⟨b,ys,rfl,q2,t2⟩:=r2.tup;refine Ks pins s σ H _ _ v u Q I rx ry {a,b,xs,ys,rfl,rfl,.of q1,.of q2,by rw[t1.len,t2.len];exact h.1,λe=>?_,λ_ e=>?_,λ_ _ p hp=>hR.KQ hS hp h.2<|t1.app t2};subst e;have:i=[]:=List.length_eq_zero_iff.mp t1.len.symm;subst this;exact hR.now hS h.2<|iB q2 t2;subst e;have:j=[]:=List.length_eq_zero_iff.mp t2.len.symm;subst this;exact hR.now hS h.2<|by rw[ye];exact iB q1 t1)|_=>exact h.elim)|ref a=>(cases e with|ref b=>(obtain⟨xs,ys,e1,e2,hl,q⟩:=h;obtain⟨vs,h1,t1⟩:=hS.lst e1;obtain⟨ws,h2,t2⟩:=hS.lst e2;exact Gy pins s σ H x y v u Q I rx ry {a,b,vs,ws,r1.ref,r2.ref,h1,h2,by rw[t1.len,t2.len];exact hl,λp hp=>hR.new hS hp (q p)<|t1.app t2})|_=>exact h.elim)|_=>exact h.elim
def X9:uk:=λx y S R=>match x,y with|.int i,.int j=>R (.int<|i-j) S|_,_=>False
theorem xx:pE K (binaryOp .Sub) X9:=by rintro X hK hu pins s σ H x y v u Q I rx ry ⟨d,e,S,R,r1,r2,hS,h,hR⟩;cases d<;>cases e<;>first|exact False.elim h|exact NY pins s σ H x y v u Q I rx ry {_,_,r1.int,r2.int,hR.now hS h<|aQ _}
def X_:uk:=λx y S R=>match x,y with|.int i,.int j=>JU i j/\R (.int<|i*j) S|.str z,.int n=>MulOk z n/\R (.str<|PySem.Txt.mul z n) S|_,_=>False
theorem qS:pE K (binaryOp .Mult) X_:=by rintro X hK hu pins s σ H x y v u Q I rx ry ⟨d,e,S,R,r1,r2,hS,h,hR⟩;cases d<;>cases e<;>first|exact False.elim h|exact NZ pins s σ H x y v u Q I rx ry {_,_,r1.int,r2.int,h.1,hR.now hS h.2<|aQ _}|exact Bj pins s σ H x y v u Q I rx ry {_,_,r1.str,r2.int,h.1,hR.now hS h.2<|jr _}
def Ya:uk:=λx y S R=>match x,y with|.int i,.int j=>0<j/\R (.int<|i%j) S|_,_=>False
theorem cn:pE K (binaryOp .Mod) Ya:=by rintro X hK hu pins s σ H x y v u Q I rx ry ⟨d,e,S,R,r1,r2,hS,h,hR⟩;cases d<;>cases e<;>first|exact False.elim h|exact N1 pins s σ H x y v u Q I rx ry {_,_,r1.int,r2.int,h.1,hR.now hS h.2<|aQ _}
def Ts:uk:=λx y S R=>match x,y with|.int i,.int j=>GJ i j/\R (.int<|i/j) S|_,_=>False
theorem fc:pE K (binaryOp .FloorDiv) Ts:=by rintro X hK hu pins s σ H x y v u Q I rx ry ⟨d,e,S,R,r1,r2,hS,h,hR⟩;cases d<;>cases e<;>first|exact False.elim h|exact GK pins s σ H x y v u Q I rx ry {_,_,r1.int,r2.int,h.1,hR.now hS h.2<|aQ _}
def Yb:uk:=λx y S R=>match x,y with|.int i,.int j=>RY i j/\R (.int<|i^j.toNat) S|_,_=>False
theorem js:pE K (binaryOp .Pow) Yb:=by rintro X hK hu pins s σ H x y v u Q I rx ry ⟨d,e,S,R,r1,r2,hS,h,hR⟩;cases d<;>cases e<;>first|exact False.elim h|exact N2 pins s σ H x y v u Q I rx ry {_,_,r1.int,r2.int,h.1,hR.now hS h.2<|aQ _}
def jt(f:Int->Int->Bool)(g:Str->Str->Bool):uk:=λx y S R=>match x,y with|.int i,.int j=>R (.bl<|f i j) S|.str i,.str j=>R (.bl<|g i j) S|_,_=>False
theorem C_(h1:∀X:Cx,gR X (compareOp op)<|JS λi j=>.bl<|f i j) (h2:∀X:Cx,gR X (compareOp op) λx y H Q=>∃i j,x=.str i/\y=.str j/\Q (.bl<|g i j) H):pE K (compareOp op) (jt f g):=by rintro X hK hu pins s σ H x y v u Q I rx ry ⟨d,e,S,R,r1,r2,hS,h,hR⟩;cases d<;>cases e<;>first|exact False.elim h|exact h1 X pins s σ H x y v u Q I rx ry {_,_,r1.int,r2.int,hR.now hS h<|bS _}|exact h2 X pins s σ H x y v u Q I rx ry {_,_,r1.str,r2.str,hR.now hS h<|bS _}
theorem Bu:pE K (compareOp .Lt) (jt (λi j=>decide<|i<j) λi j=>Xq i j):=C_ (λ_=>R1) λ_=>Ec
theorem ju:pE K (compareOp .LtE) (jt (λi j=>decide<|i<=j) λi j=>FK i j):=C_ (λ_=>R3) λ_=>Er
theorem vm:pE K (compareOp .Gt) (jt (λi j=>decide<|j<i) λi j=>Xq j i):=C_ (λ_=>R4) λ_=>Et
theorem Yc:pE K (compareOp .GtE) (jt (λi j=>decide<|j<=i) λi j=>FK j i):=C_ (λ_=>R5) λ_=>Es
noncomputable def ay:D->Bool|.av=>true|_=>false
theorem xy(r:Rv K H d v):decide (v=.av)=ay d:=by cases d with|av=>rw[r.av];rfl|bl b=>rw[r.bl];rfl|int b=>rw[r.int];rfl|str b=>rw[r.str];rfl|ref b=>rw[r.ref];rfl|ty b=>rw[r.ty];rfl|tup b=>(obtain⟨a,xs,rfl,_⟩:=r.tup;rfl)|jd b=>(obtain⟨a,xs,rfl,_⟩:=r.jd;rfl)|kt b=>obtain⟨a,xs,rfl,_⟩:=r.kt;rfl
def Yd:uk:=λx y S R=>match y with|.av=>R (.bl<|ay x) S|_=>False
def Tu:uk:=λx y S R=>match y with|.av=>R (.bl<|!ay x) S|_=>False
theorem kE:pE K (compareOp .Is) Yd:=by rintro X hK hu pins s σ H x y v u Q I rx ry ⟨d,e,S,R,r1,r2,hS,h,hR⟩;cases e<;>first|exact False.elim h|exact N4 pins s σ H x y v u Q I rx ry {r2.av,by rw[xy r1];exact hR.now hS h<|bS _}
theorem nE:pE K (compareOp .IsNot) Tu:=by rintro X hK hu pins s σ H x y v u Q I rx ry ⟨d,e,S,R,r1,r2,hS,h,hR⟩;cases e<;>first|exact False.elim h|exact JV pins s σ H x y v u Q I rx ry {r2.av,by rw[xy r1];exact hR.now hS h<|bS _}
mutual
def Dp(S:ax):D->PyData->Prop|.av,p=>p=.none|.bl b,p=>p=.bool b|.int i,p=>p=.int i|.str z,p=>p=.str z|.tup ds,p=>∃ps,p=.tuple ps/\DpAll S ds ps|.jd ds,p=>∃ps,p=.list ps/\DpAll S ds ps|.kt _,_=>False|.ref _,_=>False|.ty _,_=>False
def DpAll(S:ax):List D->List PyData->Prop|[],ps=>ps=[]|d::ds,ps=>∃q qs,ps=q::qs/\Dp S d q/\DpAll S ds qs
end
mutual
theorem Dp.dt:∀(d:D){p:PyData}{v:V},Dp S d p->Rv K H d v->Dt K H p v|.av,p,v,h,r=>by simp only[Dp]at h;subst h;simp only[Dt];exact r.av|.bl b,p,v,h,r=>by simp only[Dp]at h;subst h;simp only[Dt];exact r.bl|.int b,p,v,h,r=>by simp only[Dp]at h;subst h;simp only[Dt];exact r.int|.str b,p,v,h,r=>by simp only[Dp]at h;subst h;simp only[Dt];exact r.str|.tup ds,p,v,h,r=>(by simp only[Dp]at h;obtain⟨ps,rfl,h⟩:=h;obtain⟨a,xs,rfl,q,t⟩:=r.tup;simp only[Dt];exact{a,xs,rfl,.of q,DpAll.dt ds h t})|.jd ds,p,v,h,r=>(by simp only[Dp]at h;obtain⟨ps,rfl,h⟩:=h;obtain⟨a,xs,rfl,q,t⟩:=r.jd;simp only[Dt];exact{a,xs,rfl,q.sq,DpAll.dt ds h t})|.kt a,p,v,h,r=>by simp only[Dp]at h|.ref a,p,v,h,r=>by simp only[Dp]at h|.ty a,p,v,h,r=>by simp only[Dp]at h
theorem DpAll.dt:∀(ds:List D){ps:List PyData}{vs:List V},DpAll S ds ps->RvAll K H ds vs->DtAll K H ps vs|[],ps,vs,h,r=>by simp only[DpAll]at h;subst h;rw[r.nil];simp only[DtAll]|d::ds,ps,vs,h,r=>by simp only[DpAll]at h;obtain⟨q,qs,rfl,h1,h2⟩:=h;obtain⟨y,ys,rfl,r1,r2⟩:=r.cons;simp only[DtAll];exact{y,ys,rfl,Dp.dt d h1 r1,DpAll.dt ds h2 r2}
end
def Dl(S:ax):D->PyData->Prop|.ref a,p=>∃ds ps,S a=some (.lst ds)/\p=.list ps/\DpAll S ds ps|d,p=>Dp S d p
theorem Dl.dt(h:Dl S d p)(hS:Rs K S H)(r:Rv K H d v):Dt K H p v:=by cases d with|ref a=>(obtain⟨ds,ps,e,rfl,h⟩:=h;obtain⟨xs,e1,t⟩:=hS.lst e;rw[r.ref];simp only[Dt];exact{a,xs,rfl,.of e1,DpAll.dt ds h t})|_=>exact Dp.dt _ h r
def KR(neg:Bool):uk:=λx y S R=>match x,y with|.int i,.int j=>(R (.bl<|if neg then !decide (i=j) else decide (i=j)) S)|.str i,.str j=>(R (.bl<|if neg then !decide (i=j) else decide (i=j)) S)|x,y=>∃p q,Dl S x p/\Dl S y q/\p.canLay0=true/\q.canLay0=true/\(p.depth<=64\/q.depth<=64)/\R (.bl<|if neg then !PyData.eqv p q else PyData.eqv p q) S
theorem G_(h:KR neg x y S R):(∃i j,x=.int i/\y=.int j/\R (.bl<|if neg then !decide (i=j) else decide (i=j)) S)\/(∃i j,x=.str i/\y=.str j/\R (.bl<|if neg then !decide (i=j) else decide (i=j)) S)\/∃p q,Dl S x p/\Dl S y q/\p.canLay0=true/\q.canLay0=true/\(p.depth<=64\/q.depth<=64)/\R (.bl<|if neg then !PyData.eqv p q else PyData.eqv p q) S:=by cases x<;>cases y<;>first|exact .inl {_,_,rfl,rfl,h}|exact .inr (.inl {_,_,rfl,rfl,h})|exact .inr (.inr h)
theorem bP:pE K (compareOp .Eq) (KR false):=by
 rintro X hK hu pins s σ H x y v u Q I rx ry ⟨d,e,S,R,r1,r2,hS,h,hR⟩;subst hK;rcases G_ h with⟨i,j,rfl,rfl,h⟩|⟨i,j,rfl,rfl,h⟩|⟨p,q,h1,h2,c1,c2,dp,h⟩;cases r1.int;cases r2.int;refine Mn pins s σ H _ _ v u Q I rx ry {rfl,?_};have e:decide (V.int i=V.int j)=decide (i=j):=by simp
 rw[e];exact hR.now hS h<|bS _;cases r1.str;cases r2.str;refine Mn pins s σ H _ _ v u Q I rx ry {rfl,?_};have e:decide (V.str i=V.str j)=decide (i=j):=by simp
 rw[e];exact hR.now hS h<|bS _;exact OJ hu pins s σ H x y v u Q I rx ry {p,q,h1.dt hS r1,h2.dt hS r2,c1,c2,dp,hR.now hS h<|bS _}
theorem jv:pE K (compareOp .NotEq) (KR true):=by
 rintro X hK hu pins s σ H x y v u Q I rx ry ⟨d,e,S,R,r1,r2,hS,h,hR⟩;subst hK;rcases G_ h with⟨i,j,rfl,rfl,h⟩|⟨i,j,rfl,rfl,h⟩|⟨p,q,h1,h2,c1,c2,dp,h⟩;cases r1.int;cases r2.int;refine Mp pins s σ H _ _ v u Q I rx ry {rfl,?_};have e:decide (V.int i=V.int j)=decide (i=j):=by simp
 rw[e];exact hR.now hS h<|bS _;cases r1.str;cases r2.str;refine Mp pins s σ H _ _ v u Q I rx ry {rfl,?_};have e:decide (V.str i=V.str j)=decide (i=j):=by simp
 rw[e];exact hR.now hS h<|bS _;exact OL hu pins s σ H x y v u Q I rx ry {p,q,h1.dt hS r1,h2.dt hS r2,c1,c2,dp,hR.now hS h<|bS _}
noncomputable def bW(kvs:List<|Key×D)(k:Key):Option D:=(kvs.find? λkv=>decide<|kv.1=k).map (·.2)
noncomputable def dput(kvs:List<|Key×D)(k:Key)(v:D):List (Key×D):=if (kvs.any λkv=>decide<|kv.1=k)=true then kvs.map (λkv=>if kv.1=k then (kv.1,v) else kv) else kvs++[(k,v)]
noncomputable def xA(kvs:List<|Key×D)(k:Key):List (Key×D):=kvs.filter λkv=>decide<|kv.1≠k
theorem bZ.val(h:bZ K H ks vs)(k:Key):(∀d,bW ks k=some d->∃v,gk vs k=some v/\Rv K H d v)/\(bW ks k=none->gk vs k=none):=by induction h with|nil=>(exact{λd e=>(by cases e),λ_=>rfl})|@cons a b l m r t ih=>obtain⟨k',d⟩:=a;obtain⟨k'',v⟩:=b;obtain⟨e0,r⟩:=r;dsimp only at e0;subst e0;unfold bW gk;simp only[yb];by_cases q:k'=k;rw[zA q];exact{λd' e=>{v,rfl,(by cases e;exact r)},λe=>(by cases e)};rw[zw q];exact ih
theorem bZ.any(h:bZ K H ks vs)(k:Key):(ks.any λkv=>decide<|kv.1=k)=(vs.any λkv=>decide<|kv.1=k):=by induction h with|nil=>rfl|cons r t ih=>rw[yP,yP,ih,r.1]
theorem bZ.len(h:bZ K H ks vs):vs.length=ks.length:=(yS h).symm
theorem bZ.app:∀{ks ls:List (κ×D)}{vs ws:List (κ×V)},bZ K H ks vs->bZ K H ls ws->bZ K H (ks++ls) (vs++ws)|_,_,_,_,.nil,h=>h|_,_,_,_,.cons r t,h=>.cons r<|bZ.app t h
theorem bZ.Oq(h:bZ K H ks vs)(k:Key)(rd:Rv K H d v):bZ K H (ks.map λkv=>if kv.1=k then (kv.1,d) else kv) (vs.map λkv=>if kv.1=k then (kv.1,v) else kv):=by induction h with|nil=>exact .nil|@cons a b l m r t ih=>refine .cons ?_ ih;dsimp only;by_cases q:b.1=k;rw[if_pos q,if_pos<|r.1.trans q];exact⟨r.1,rd⟩;rw[if_neg q,if_neg λz=>q<|r.1.symm.trans z];exact r
theorem bZ.put(h:bZ K H ks vs)(k:Key)(rd:Rv K H d v):bZ K H (dput ks k d) (putK vs k v):=by unfold dput putK;rw[h.any k];split;exact h.Oq k rd;exact h.app<|.cons ⟨rfl,rd⟩ .nil
theorem bZ.drop(h:bZ K H ks vs)(k:Key):bZ K H (xA ks k) (oG vs k):=by unfold xA oG;induction h with|nil=>exact .nil|@cons a b l m r t ih=>rw[List.filter_cons,List.filter_cons,r.1];by_cases q:b.1=k;rw[if_neg<|by simp[q],if_neg<|by simp[q]];exact ih;rw[if_pos<|by simp[q],if_pos<|by simp[q]];exact .cons r ih
noncomputable def Bv:D->Option Key|.int i=>some (.inl i)|.str z=>some (.inr z)|_=>none
theorem nF(h:Bv d=some k)(r:Rv K H d v):v=kV k:=by cases d with|int i=>(cases h;exact r.int)|str i=>(cases h;exact r.str)|_=>cases h
noncomputable def kT:D->Bool|.av=>true|.bl _=>true|.int _=>true|.str _=>true|_=>false
noncomputable def p5:D->V|.av=>.av|.bl b=>.bl b|.int i=>.int i|.str z=>.str z|.ref a=>.ref a|.ty n=>.ty n|_=>.av
theorem qU(h:kT d=true)(r:Rv K H d v):v=p5 d/\gU v=true:=by cases d with|av=>(cases r.av;exact⟨rfl,rfl⟩)|bl b=>(cases r.bl;exact⟨rfl,rfl⟩)|int b=>(cases r.int;exact⟨rfl,rfl⟩)|str b=>(cases r.str;exact⟨rfl,rfl⟩)|_=>cases h
theorem mm:∀{ds:List D}{vs:List V},ds.all kT=true->RvAll K H ds vs->vs=ds.map p5/\vs.all gU=true|[],vs,_,r=>by rw[r.nil];exact⟨rfl,rfl⟩|d::ds,vs,h,r=>by obtain⟨y,ys,rfl,r1,r2⟩:=r.cons;rw[List.all_cons,zR]at h;obtain⟨e1,f1⟩:=qU h.1 r1;obtain⟨e2,f2⟩:=mm h.2 r2;refine{by rw[e1,e2];rfl,?_};rw[List.all_cons,f1,f2];rfl
def inD(neg:Bool):uk:=λx y S R=>match y with|.str j=>(∃i,x=.str i/\R (.bl<|if neg then !(!(Builtin.Str.occurrences j i 0 j.length 1).isEmpty) else !(Builtin.Str.occurrences j i 0 j.length 1).isEmpty) S)|.kt ds=>(kT x=true/\ds.all kT=true/\R (.bl<|if neg then !Gu (p5 x) (ds.map p5) else Gu (p5 x) (ds.map p5)) S)|.tup ds=>(kT x=true/\ds.all kT=true/\R (.bl<|if neg then !Gu (p5 x) (ds.map p5) else Gu (p5 x) (ds.map p5)) S)|.ref a=>((∃ds,S a=some (.lst ds)/\kT x=true/\ds.all kT=true/\R (.bl<|if neg then !Gu (p5 x) (ds.map p5) else Gu (p5 x) (ds.map p5)) S)\/∃kvs k,S a=some (.cB kvs)/\Bv x=some k/\R (.bl<|if neg then !(bW kvs k).isSome else (bW kvs k).isSome) S)|_=>False
theorem vn(hS:Rs K S H)(e:S a=some (.cB kvs)):∃o,pB H a (kV k) o/\o.isSome=(bW kvs k).isSome/\∀d,bW kvs k=some d->∃v,o=some v/\Rv K H d v:=by obtain⟨vs,e1,t⟩:=hS.cB e;refine{_,pB.k e1,?_,λd h=>(t.val k).1 d h};cases q:bW kvs k with|none=>rw[(t.val k).2 q];rfl|some d=>obtain⟨v,e2,_⟩:=(t.val k).1 d q;rw[e2];rfl
theorem Bx:pE K (compareOp .In) (inD false):=by rintro X hK hu pins s σ H x y v u Q I rx ry ⟨d,e,S,R,r1,r2,hS,h,hR⟩;subst hK;cases e with|str j=>(obtain⟨i,rfl,h⟩:=h;exact Ed pins s σ H x y v u Q I rx ry {i,j,r1.str,r2.str,hR.now hS h<|bS _})|tup ds=>(obtain⟨f1,f2,h⟩:=h;obtain⟨a,xs,rfl,q,t⟩:=r2.tup;obtain⟨e1,g1⟩:=qU f1 r1;obtain⟨e2,g2⟩:=mm f2 t;subst e1 e2;exact nA pins s σ H _ _ v u Q I rx ry {a,_,rfl,.inr<|.of q,g1,g2,hR.now hS h<|bS _})|kt ds=>(obtain⟨f1,f2,h⟩:=h;obtain⟨a,xs,rfl,q,t⟩:=r2.kt;obtain⟨e1,g1⟩:=qU f1 r1;obtain⟨e2,g2⟩:=mm f2 t;subst e1 e2;exact nA pins s σ H _ _ v u Q I rx ry {a,_,rfl,.inr<|.inr q,g1,g2,hR.now hS h<|bS _})|ref a=>(cases r2.ref;rcases h with⟨ds,e,f1,f2,h⟩|⟨kvs,k,e,hk,h⟩;obtain⟨xs,e1,t⟩:=hS.lst e;obtain⟨e2,g1⟩:=qU f1 r1;obtain⟨e3,g2⟩:=mm f2 t;subst e2 e3;exact nA pins s σ H _ _ v u Q I rx ry {a,_,rfl,.inl<|.of e1,g1,g2,hR.now hS h<|bS _};cases nF hk r1;cases ry;obtain⟨o,g,e1,_⟩:=vn (k:=k) hS e;refine Xl (by lia) I g rx λs' I'=>{.bl o.isSome,H,I',rfl,?_};rw[e1];exact hR.now hS h<|bS _)|_=>exact h.elim
def IxD(K:Frag)(r:uk):Prop:=∀X:Cx,X.K=K->X.A.units+64<cLine->Sb X (Lr K r)
inductive V5 (ds:List D) (i:Int) (S:ax) (R:KD):Prop where
 |mk (d:D) (h:j9 ds i=some d) (r:R d S)
inductive Tv (a:Addr) (i:Int) (S:ax) (R:KD):Prop where
 |mk (ds:List D) (d:D) (e:S a=some (.lst ds)) (h:j9 ds i=some d) (r:R d S)
def ixD:uk:=λx y S R=>match x,y with|.tup ds,.int i=>V5 ds i S R|.kt ds,.int i=>V5 ds i S R|.jd ds,.int i=>V5 ds i S R|.str z,.int i=>∃c,z.length<=sizeLine/\j9 z.cps.toList i=some c/\R (.str ⟨#[c]⟩) S|.ref a,.int i=>Tv a i S R|.ref a,.str z=>∃kvs d,S a=some (.cB kvs)/\bW kvs (.inr z)=some d/\R d S|_,_=>False
theorem RvAll.at{H:Hp}{ds:List D}{xs:List V}{i:Int}{d:D}(h:RvAll K H ds xs)(e:j9 ds i=some d):∃v,j9 xs i=some v/\Rv K H d v:=by unfold j9 at e⊢;rw[h.len];cases q:Gq ds.length i with|none=>(rw[q]at e;cases e)|some j=>rw[q]at e;exact h.get e
theorem Ye:IxD K ixD:=by rintro X hK hu value slice pins s σ H x y v u Q I rx ry ⟨d,e,S,R,r1,r2,hS,h,hR⟩ hs;subst hK;cases d with|tup ds=>(cases e with|int i=>(obtain⟨d,e,h⟩:=h;obtain⟨a,xs,rfl,q,t⟩:=r1.tup;obtain⟨z,e1,r⟩:=t.at e;exact Gr value slice pins s σ H _ _ v u Q I rx ry {a,xs,i,z,rfl,r2.int,.of q,e1,hR.now hS h r} hs)|_=>exact h.elim)|kt ds=>(cases e with|int i=>(obtain⟨d,e,h⟩:=h;obtain⟨a,xs,rfl,q,t⟩:=r1.kt;obtain⟨z,e1,r⟩:=t.at e;exact Gr value slice pins s σ H _ _ v u Q I rx ry {a,xs,i,z,rfl,r2.int,.inr q,e1,hR.now hS h r} hs)|_=>exact h.elim)|jd ds=>(cases e with|int i=>(obtain⟨d,e,h⟩:=h;obtain⟨a,xs,rfl,q,t⟩:=r1.jd;obtain⟨z,e1,r⟩:=t.at e;exact CZ value slice pins s σ H _ _ v u Q I rx ry {a,xs,i,z,rfl,r2.int,q.sq,e1,hR.now hS h r} hs)|_=>exact h.elim)|str w=>(cases e with|int i=>(obtain⟨c,e0,e,h⟩:=h;exact Oe value slice pins s σ H _ _ v u Q I rx ry {w,i,c,r1.str,r2.int,e0,e,hR.now hS h<|jr _} hs)|_=>exact h.elim)|ref a=>(cases e with|int i=>(obtain⟨ds,d,e,e1,h⟩:=h;obtain⟨xs,e2,t⟩:=hS.lst e;obtain⟨z,e3,r⟩:=t.at e1;exact CZ value slice pins s σ H _ _ v u Q I rx ry {a,xs,i,z,r1.ref,r2.int,.of e2,e3,hR.now hS h r} hs)|str w=>(obtain⟨kvs,d,e,e1,h⟩:=h;cases r1.ref;cases r2.str;cases rx;obtain⟨o,g,_,e2⟩:=vn (k:=.inr w) hS e;obtain⟨z,rfl,r⟩:=e2 d e1;exact tail_any (w_ I g) PySem.F.slot_dict_getitem.lookup (El (by lia) I g ry λw' s' I' nz=>{z,H,I',nz,hR.now hS h r}) hs)|_=>exact h.elim)|_=>exact h.elim
theorem ix(hu:X.A.units+64<cLine)(ha:DE K X a ta)(hb:DE K X b tb)(hs:CY b:=by exact λ_ _=>rfl)(hK:autoParam (X.K=K) qQJ):DE K X (.Subscript a b pos) (O3 ixD ta tb):=⟨λy=>(Sd (Ye y.cx hK hu) (ha.of y) (hb.of y) hs).mono λ_ _ _ h=>h.op⟩
end
section
variable{K:Frag}{X:Cx}
abbrev MF:=SD->ax->(Option Int->ax->Prop)->KX->Prop
def To(K:Frag)(E:St->XK)(t:MF):TO:=λτ H Q=>∃σ S R Z,gb K H σ τ/\Rs K S H/\t σ S R Z/\(∀o S' H',R o S'->Rs K S' H'->Kp K H H'->Q o H')/\ED K H Z (E τ)
structure DO(K:Frag)(X:Cx)(e:Option Expr)(t:MF):Prop where
 of:∀{b:Bool}(y:Ev X b),PO y.cx e<|To K y.E t
theorem PO.mono{t t':TO}(h:PO X e t)(i:∀τ H Q,t' τ H Q->t τ H Q):PO X e t':=λpins s τ H Q I q=>h pins s τ H Q I<|i τ H Q q
def Tw:MF:=λ_ S R _=>R none S
inductive Tx (d:D) (S:ax) (R:Option Int->ax->Prop):Prop where
 |mk (i:Int) (h:d=.int i) (r:R (some i) S)
def Tz(t:TD):MF:=λσ S R Z=>t σ S (λd S1=>Tx d S1 R) Z
theorem o0:DO K X none Tw:=⟨λy=>(J4 (X:=y.cx)).mono <| by rintro τ H Q ⟨σ,S,R,Z,aB,hS,q,hR,hZ⟩;exact hR _ S H q hS<|.refl _⟩
theorem o1{t:TD}(h:DE K X e t):DO K X (some e) (Tz t):=⟨λy=>(J5<|h.of y).mono <| by rintro τ H Q ⟨σ,S,R,Z,aB,hS,q,hR,hZ⟩;exact{σ,S,_,Z,aB,hS,q,by rintro d S1 x H1 ⟨i,e,r1⟩ v1 s1 k1;exact by subst e;exact{i,v1.int,hR _ S1 H1 r1 s1 k1},hZ}⟩
noncomputable def cW{α:Type}(xs:List α)(lo hi:Option Int):List α:=(xs.drop<|HT.sIx xs.length 0 lo).take<|HT.sIx xs.length xs.length hi-HT.sIx xs.length 0 lo
theorem RvAll.cut{H:Hp}{ds:List D}{xs:List V}(h:RvAll K H ds xs)(lo hi:Option Int):RvAll K H (cW ds lo hi) (w9 xs lo hi):=by unfold cW w9;rw[h.len];exact(h.drop _).take _
def Yf(te:TD):TD:=λσ S R Z=>te σ S (λx S1=>∃i,x=.int i/\R (.int (-i)) S1) Z
theorem EF(he:DE K X e te):DE K X (.UnaryOp .USub e pos) (Yf te):=⟨λy=>(RW N3<|he.of y).mono <| by rintro τ H Q ⟨σ,S,R,Z,aB,hS,q,hR,hZ⟩;exact{σ,S,_,Z,aB,hS,q,by rintro d S1 x H1 ⟨i,e,r1⟩ v1 s1 k1;exact by subst e;exact{i,v1.int,hR _ S1 _ H1 r1 (aQ _) s1 k1},hZ}⟩
def Yg(T:String)(S:ax):D->Prop|.str _=>T ="str"|.ref a=>T ="list"/\∃ds,S a=some (.lst ds)|.jd _=>T ="list"|_=>False
theorem MG{H:Hp}{S:ax}{T:String}{d:D}{v:V}(h:Yg T S d)(hS:Rs K S H)(r:Rv K H d v):VV K T v H:=by cases d with|str z=>rw[r.str];exact h|ref a=>(obtain⟨e,ds,h⟩:=h;obtain⟨xs,e1,_⟩:=hS.lst h;rw[r.ref];exact .inl {e,xs,.of e1})|jd ds=>(obtain⟨a,xs,rfl,q,_⟩:=r.jd;exact .inl ⟨h,xs,q.sq⟩)|_=>exact h.elim
abbrev Ha:=D->List D->ax->KD->Prop
def Lm(K:Frag)(r:Ha):V->List V->Hp->VK->Prop:=λx xs H Q=>∃d ds S R,Rv K H d x/\RvAll K H ds xs/\Rs K S H/\r d ds S R/\Cn K H R Q
def O4(K:Frag)(id:String)(r:Ha):Prop:=∀X:Cx,X.K=K->QV X id (Lm K r)
def dBM(T:String)(r:Ha)(to:TD)(t:iD):TD:=λσ S R Z=>to σ S (λx S1=>Yg T S1 x/\t σ S1 (λds S2=>r x ds S2 R) Z) Z
def Yh(T:String)(r:Ha)(to:TD):TD:=λσ S R Z=>to σ S (λx S1=>Yg T S1 x/\r x [] S1 R) Z
theorem bm{o e:Expr}{es:List Expr}{T id:String}{name:Str}{r:Ha}{to:TD}{t:iD}{apos aP:Pos}(pa:PlainAttrs T)(slot:Slot T name id)(Oj:typeOf (.builtin id)=pure (.type "method_descriptor"))(hm:O4 K id r)(ho:DE K X o to)(ha:DA K X (e::es) t) (l9:autoParam (attributeBase o name X.env (eval o X.env)=eval o X.env) qQJ) (Ol:autoParam (((backTo aP<|starEach (e::es) X.env).all (λx=>!x.1)&&(backToKw aP<|keywordEach [] X.env).all (λx=>x.1.isSome)&&decide ((e::es).length+([]:List Keyword).length+(if ([]:List Keyword).isEmpty then 0 else 1)<30))=true) qQJ) (qB:autoParam ((apos.endLine==aP.line)=true) qQJ) (hs:autoParam (starEach (e::es) X.env=(false,eval e X.env)::starEach es X.env) qQJ) (A1:autoParam ((backTo aP<|starEach es X.env).any (·.1)=false) qQJ) (hK:autoParam (X.K=K) qQJ): DE K X (.Call (.Attribute o name apos) (e::es) [] aP) (dBM T r to t):=by
 subst hK
 exact⟨λy=>(Sf (X:=y.cx) pa slot Oj (hm _ rfl) (ho.of y) (ha.of y) l9 Ol qB hs A1).mono <| by rintro τ H Q ⟨σ,S,R,Z,aB,hS,q,hR,hZ⟩;exact
  ⟨σ,S,_,Z,aB,hS,q,by rintro d S1 x H1 ⟨h1,r1⟩ v1 s1 k1;exact⟨MG h1 s1 v1,σ,S1,_,Z,aB.ts k1,s1,r1,λds S2 xs H2 r2 v2 s2 k2=>⟨d,ds,S2,R,Rv.ts k2 _ v1,v2,s2,r2,hR.kp<|k1.trans k2⟩,hZ.kp k1⟩,hZ⟩⟩
theorem bm0{o:Expr}{T id:String}{name:Str}{r:Ha}{to:TD}{apos aP:Pos}(pa:PlainAttrs T)(slot:Slot T name id)(Oj:typeOf (.builtin id)=pure (.type "method_descriptor"))(hm:O4 K id r)(ho:DE K X o to) (l9:autoParam (attributeBase o name X.env (eval o X.env)=eval o X.env) qQJ) (qB:autoParam ((apos.endLine==aP.line)=true) qQJ) (hK:autoParam (X.K=K) qQJ): DE K X (.Call (.Attribute o name apos) [] [] aP) (Yh T r to):=by
 subst hK
 exact⟨λy=>(Oi (X:=y.cx) pa slot Oj (hm _ rfl) (ho.of y) l9 qB).mono <| by rintro τ H Q ⟨σ,S,R,Z,aB,hS,q,hR,hZ⟩;exact
  ⟨σ,S,_,Z,aB,hS,q,by rintro d S1 x H1 ⟨h1,r1⟩ v1 s1 k1;exact⟨MG h1 s1 v1,d,[],S1,R,v1,bE,s1,r1,hR.kp k1⟩,hZ⟩⟩
theorem RvAll.one(h:RvAll K H [d] xs):∃v,xs=[v]/\Rv K H d v:=by obtain⟨y,ys,rfl,h1,h2⟩:=h.cons;rw[h2.nil];exact⟨y,rfl,h1⟩
inductive TB (x:D) (ds:List D) (S:ax) (R:KD):Prop where
 |mk (a:Addr) (es:List D) (d:D) (e1:x=.ref a) (e2:ds=[d]) (e3:S a=some (.lst es)) (e4:es.length<sizeLine) (r:R .av<|S.set a<|.lst<|es++[d])
def KY:Ha:=λx ds S R=>TB x ds S R
theorem bq:O4 K "list.append" KY:=by rintro X hK pins s σ H x xs v us Q I rx rs ⟨d,ds,S,R,r1,r2,hS,⟨a,es,y,e1,e2,e3,hl,h⟩,hR⟩;subst e1 e2;obtain⟨w0,rfl,q2⟩:=r2.one;obtain⟨zs,e4,t⟩:=hS.lst e3;exact Ek pins s σ H x _ v us Q I rx rs {a,zs,w0,r1.ref,rfl,e4,by rw[t.len];exact hl,hR.put hS e3 h iA<|t.app<|aS q2 bE}
def Yi:Ha:=λx ds S R=>∃a es d,x=.ref a/\ds=[]/\S a=some (.lst es)/\es[es.length-1]?=some d/\R d (S.set a<|.lst es.dropLast)
theorem TC:O4 K "list.pop" Yi:=by rintro X hK pins s σ H x xs v us Q I rx rs ⟨d,ds,S,R,r1,r2,hS,⟨a,es,y,e1,e2,e3,hl,h⟩,hR⟩;subst e1 e2;obtain⟨zs,e4,t⟩:=hS.lst e3;obtain⟨w,e5,r⟩:=t.get hl;exact Oo pins s σ H x _ v us Q I rx rs {a,zs,w,r1.ref,r2.nil,e4,by rw[t.len];exact e5,hR.put hS e3 h r t.dropLast}
def KZ:Ha:=λx ds S R=>∃(es:List D)(d:D)(j:Nat),ds=[d]/\vk S x es/\kT d=true/\es.all kT=true/\(∃z,es[j]?=some z/\eqV (p5 z) (p5 d)=true)/\(∀m u,m<j->es[m]?=some u->eqV (p5 u) (p5 d)=false)/\R (.int j) S
theorem Hb:O4 K "list.index" KZ:=by rintro X hK pins s σ H x xs v us Q I rx rs ⟨d,ds,S,R,r1,r2,hS,⟨es,y,j,e2,e3,f1,f2,⟨z,e4,e5⟩,h4,h⟩,hR⟩;subst hK e2;obtain⟨w0,rfl,q2⟩:=r2.one;obtain⟨a,zs,rfl,q,t⟩:=e3.at hS r1;obtain⟨g1,g2⟩:=qU f1 q2;obtain⟨g3,g4⟩:=mm f2 t;subst g1 g3;refine EC pins s σ H _ _ v us Q I rx rs {a,_,_,p5 z,j,rfl,rfl,q,g2,g4,by rw[zu,e4];rfl,e5,λm u hm e=>?_,hR.now hS h<|aQ _};rw[zu]at e;cases q2:es[m]? with|none=>(rw[q2]at e;cases e)|some u'=>rw[q2]at e;cases e;exact h4 m u' hm q2
def K0:Ha:=λx ds S R=>∃z y,x=.str z/\ds=[.str y]/\R (.bl<|PySem.Txt.startswith z y) S
theorem Hc:O4 K "str.startswith" K0:=by rintro X hK pins s σ H x xs v us Q I rx rs ⟨d,ds,S,R,r1,r2,hS,⟨z,y,e1,e2,h⟩,hR⟩;subst e1 e2;obtain⟨w0,rfl,q2⟩:=r2.one;exact sW pins s σ H _ _ v us Q I rx rs {z,y,r1.str,by rw[q2.str],hR.now hS h<|bS _}
def MH(S:ax)(R:KD):D->Prop|.str z=>z.length<=sizeLine/\R (.int z.length) S|.tup es=>R (.int es.length) S|.kt es=>R (.int es.length) S|.jd es=>R (.int es.length) S|.ref a=>(∃es,S a=some (.lst es)/\R (.int es.length) S)\/∃kvs,S a=some (.cB kvs)/\R (.int kvs.length) S|_=>False
inductive TF (ds:List D) (S:ax) (R:KD):Prop where
 |mk (x:D) (h:ds=[x]) (r:MH S R x)
def Yj:List D->ax->KD->Prop:=λds S R=>TF ds S R
theorem bj:gX K (.builtin "len") Yj:=by rintro X hK hc pins s σ H xs us Q I rx ⟨ds,S,R,r,hS,⟨x,e,h⟩,hR⟩;subst hK e;obtain⟨w,rfl,r'⟩:=r.one;cases x with|str z=>(cases r'.str;exact jk pins s σ H _ us Q I rx {_,_,rfl,⟨h.1,rfl⟩,hR.now hS h.2<|aQ _})|tup es=>(obtain⟨a,xs,rfl,q,t⟩:=r'.tup;exact jk pins s σ H _ us Q I rx {_,_,rfl,.inr {xs,.of q,t.len.symm},hR.now hS h<|aQ _})|kt es=>(obtain⟨a,xs,rfl,q,t⟩:=r'.kt;exact jk pins s σ H _ us Q I rx {_,_,rfl,.inr {xs,.inr q,t.len.symm},hR.now hS h<|aQ _})|jd es=>(obtain⟨a,xs,rfl,q,t⟩:=r'.jd;exact jk pins s σ H _ us Q I rx {_,_,rfl,.inl ⟨xs,q.sq,t.len.symm⟩,hR.now hS h<|aQ _})|ref a=>(cases r'.ref;rcases h with⟨es,e,h⟩|⟨kvs,e,h⟩;obtain⟨xs,e1,t⟩:=hS.lst e;exact jk pins s σ H _ us Q I rx {_,_,rfl,.inl {xs,.of e1,t.len.symm},hR.now hS h<|aQ _};obtain⟨xs,e1,t⟩:=hS.cB e;exact Ep pins s σ H _ us Q I rx {a,xs,rfl,e1,by rw[t.len];exact hR.now hS h<|aQ _})|_=>exact h.elim
def O5(S:ax):D->Kd->Prop|.av,k=>k=.av|.bl _,k=>k=.bl|.int _,k=>k=.int|.str _,k=>k=.str|.ref a,k=>(k=.lst/\∃ds,S a=some (.lst ds))\/(k=.cB/\∃ds,S a=some (.cB ds))|.tup _,k=>k=.tup|_,_=>False
theorem TH(h:O5 S d k)(hS:Rs K S H)(r:Rv K H d v):qI H v k:=by cases d with|av=>(cases h;rw[r.av];exact .av)|bl b=>(cases h;rw[r.bl];exact .bl b)|int b=>(cases h;rw[r.int];exact .int b)|str b=>(cases h;rw[r.str];exact .str b)|tup b=>(cases h;obtain⟨a,xs,rfl,q,_⟩:=r.tup;exact .tup q)|ref a=>(rw[r.ref];rcases h with⟨rfl,ds,h⟩|⟨rfl,ds,h⟩;obtain⟨xs,e,_⟩:=hS.lst h;exact .lst e;obtain⟨xs,e,_⟩:=hS.cB h;exact .cB e)|_=>exact h.elim
inductive TJ (ds:List D) (S:ax) (R:KD):Prop where
 |mk (x:D) (n:String) (k:Kd) (g:Kd->Bool) (e:ds=[x,.ty n]) (a:xk n=some g) (b:O5 S x k) (r:R (.bl<|g k) S)
def Yk:List D->ax->KD->Prop:=λds S R=>TJ ds S R
theorem RvAll.two(h:RvAll K H [d,e] xs):∃v u,xs=[v,u]/\Rv K H d v/\Rv K H e u:=by obtain⟨y,ys,rfl,h1,h2⟩:=h.cons;obtain⟨u,rfl,h3⟩:=h2.one;exact⟨y,u,rfl,h1,h3⟩
theorem dh:gX K (.builtin "isinstance") Yk:=by rintro X hK hc pins s σ H xs us Q I rx ⟨ds,S,R,r,hS,⟨x,n,k,g,e,h1,h2,h⟩,hR⟩;subst hK e;obtain⟨v,u,rfl,r1,r2⟩:=r.two;rw[r2.ty]at rx;exact GQ pins s σ H _ us Q I rx {v,n,k,g,rfl,h1,TH h2 hS r1,hR.now hS h<|bS _}
inductive TK (ds:List D) (S:ax) (f:List Bool->Bool) (R:KD):Prop where
 |mk (x:D) (bs:List Bool) (e:ds=[x]) (h:vk S x<|bs.map D.bl) (r:R (.bl<|f bs) S)
def TL:List D->ax->KD->Prop:=λds S R=>TK ds S (λbs=>bs.all id) R
theorem kU:gX K (.builtin "all") TL:=by rintro X hK hc pins s σ H xs us Q I rx ⟨ds,S,R,r,hS,⟨x,bs,e,h1,h⟩,hR⟩;subst hK e;obtain⟨v,rfl,r1⟩:=r.one;obtain⟨a,zs,rfl,q,t⟩:=h1.at hS r1;rw[t.bools]at q;exact sQ hc pins s σ H _ us Q I rx {a,bs,rfl,q,hR.now hS h<|bS _}
def Yl:List D->ax->KD->Prop:=λds S R=>∃(x:D)(bs:List Bool),ds=[x]/\vk S x (bs.map D.bl)/\R (.bl<|bs.any id) S
theorem TM:gX K (.builtin "any") Yl:=by rintro X hK hc pins s σ H xs us Q I rx ⟨ds,S,R,r,hS,⟨x,bs,e,h1,h⟩,hR⟩;subst hK e;obtain⟨v,rfl,r1⟩:=r.one;obtain⟨a,zs,rfl,q,t⟩:=h1.at hS r1;rw[t.bools]at q;exact sR hc pins s σ H _ us Q I rx {a,bs,rfl,q,hR.now hS h<|bS _}
def intD:List D->ax->KD->Prop:=λds S R=>(∃i,ds=[.int i]/\R (.int i) S)\/∃k,ds=[.bl k]/\R (.int<|if k then 1 else 0) S
theorem MI:gX K (.type "int") intD:=by rintro X hK hc pins s σ H xs us Q I rx ⟨ds,S,R,r,hS,h,hR⟩;rcases h with⟨i,rfl,h⟩|⟨k,rfl,h⟩;obtain⟨v,rfl,r1⟩:=r.one;exact tX pins s σ H _ us Q I rx<|.inl {i,by rw[r1.int],hR.now hS h<|aQ _};obtain⟨v,rfl,r1⟩:=r.one;exact tX pins s σ H _ us Q I rx<|.inr {k,by rw[r1.bl],hR.now hS h<|aQ _}
def TN:List D->ax->KD->Prop:=λds S R=>∃x es,ds=[x]/\(vk S x es\/x=.tup es)/\∀p,S p=none->R (.ref p) (S.set p<|.lst es)
theorem By:gX K (.type "list") TN:=by rintro X hK hc pins s σ H xs us Q I rx ⟨ds,S,R,r,hS,⟨x,es,e,h1,h⟩,hR⟩;subst hK e;obtain⟨v,rfl,r1⟩:=r.one;rcases h1 with h1|rfl;obtain⟨a,zs,rfl,q,t⟩:=h1.at hS r1;exact l8 pins s σ H _ us Q I rx {a,zs,rfl,.inl q,λp hp=>hR.new hS hp (h p) t};obtain⟨a,zs,rfl,q,t⟩:=r1.tup;exact l8 pins s σ H _ us Q I rx {a,zs,rfl,.inr<|.of q,λp hp=>hR.new hS hp (h p) t}
inductive TQ (ds:List D) (S:ax) (R:KD):Prop where
 |mk (x:D) (es:List D) (e:ds=[x]) (h:vk S x es\/x=.tup es) (r:R (.tup es) S)
def O6:List D->ax->KD->Prop:=λds S R=>TQ ds S R
theorem mn:gX K (.type "tuple") O6:=by rintro X hK hc pins s σ H xs us Q I rx ⟨ds,S,R,r,hS,⟨x,es,e,h1,h⟩,hR⟩;subst hK e;obtain⟨v,rfl,r1⟩:=r.one;rcases h1 with h1|rfl;obtain⟨a,zs,rfl,q,t⟩:=h1.at hS r1;exact kP pins s σ H _ us Q I rx {a,zs,rfl,.inl {q,λp hp=>hR.KQ hS hp h t}};obtain⟨a,zs,rfl,q,t⟩:=r1.tup;exact kP pins s σ H _ us Q I rx {a,zs,rfl,.inr {.of q,hR.now hS h<|iB q t}}
def minD(f:Int->Int->Bool):List D->ax->KD->Prop:=λds S R=>∃i j,ds=[.int i,.int j]/\R (.int<|if f j i then j else i) S
theorem MJ:gX K (.builtin "min") (minD λa b=>decide<|a<b):=by rintro X hK hc pins s σ H xs us Q I rx ⟨ds,S,R,r,hS,⟨i,j,e,h⟩,hR⟩;subst e;obtain⟨v,u,rfl,r1,r2⟩:=r.two;refine Eg hc pins s σ H _ us Q I rx {i,j,by rw[r1.int,r2.int],?_};have:=hR.now hS h<|aQ _;simpa using this
theorem TR:gX K (.builtin "max") (minD λa b=>decide<|b<a):=by rintro X hK hc pins s σ H xs us Q I rx ⟨ds,S,R,r,hS,⟨i,j,e,h⟩,hR⟩;subst e;obtain⟨v,u,rfl,r1,r2⟩:=r.two;refine Ef hc pins s σ H _ us Q I rx {i,j,by rw[r1.int,r2.int],?_};have:=hR.now hS h<|aQ _;simpa using this
end
abbrev gY:=List D->ax->KD->KX->Prop
def qW(K:Frag)(sp:gY):Sp:=λvs H Q e=>∃ds S R Z,RvAll K H ds vs/\Rs K S H/\sp ds S R Z/\Cn K H R Q/\ED K H Z e
section
variable{K:Frag}{X:Cx}{k:Nat}{f C:Addr}{fd:FuncData}{ps:List Str}{sp:Sp}{ng:List V}{ds:List Value}{x m:Str}{p pos apos:Pos}{e o:Expr}{es:List Expr}{b:Bool}{y:Ev X b}
theorem p7(F:bK X.prog X.w X.K X.mg X.base (fj X.prog X.w X.mg) k f fd ps sp)(hr:bB k X.A)(hb:Binds X.K fd ps ds)(hd:Vals ng ds) (I:Inv y.cx p2 σ H s) (r:Vals vs us) (h:sp (vs++ng) H Q<|y.E σ):wpAny (model X.prog X.w) X.A (call (.ref f) us) (EP y.cx p2 σ Q) y.xe s:=by
 have r2:Vals (vs++ng) (us++ds):=r.append hd;have hl:(us++ds).length=ps.length:=by rw[<-r2.length];exact F.len _ _ _ _ h
 refine wpAny_call<|yO (F.run X.A X.stack s H {us,[]} (us++ds) (vs++ng) Q (y.E σ) hr I.N_ (hb s us I.kC hl) r2 h) λres s' hq=>?_;cases res with|error e=>exact y.ok.call p2 σ H s e s' I hq|ok fl=>cases fl with|ret u=>exact I.after hq|next=>exact False.elim hq|brk=>exact False.elim hq|cont=>exact False.elim hq
theorem Hd{t:TA}(F:bK X.prog X.w X.K X.mg X.base (fj X.prog X.w X.mg) k f fd ps sp)(hr:bB k X.A)(hg:Gl X x)(hm:X.mg x=some (.ref f))(hk:keepIn X.K (.ref f)=true)(hb:Binds X.K fd ps ds)(hd:Vals ng ds) (ha:PA y.cx (e::es) t) (jb:(x==("__debug__": Str))=false) (he:starEach (e::es) X.env=(false,eval e X.env)::starEach es X.env) (eE:(backTo pos<|starEach es X.env).any (·.1)=false): PE y.cx (.Call (.Name x p) (e::es) [] pos) (λσ H Q=>t σ H λvs H1=>sp (vs++ng) H1 Q<|y.E σ):=by intro p2 s σ H Q I h;refine yF<|iw I hg hm ?_ jb;refine callWith_K (h₀:=X.base) I.ok.mod.Mh hk (bu (ha pos p2 s σ H _ I h) λus s1 ⟨vs,H1,I1,r,q⟩=>{I1.kC,?_}) he eE;exact p7 F hr hb hd I1 r q
theorem EG(F:bK X.prog X.w X.K X.mg X.base (fj X.prog X.w X.mg) k f fd ps sp)(hr:bB k X.A)(hg:Gl X x)(hm:X.mg x=some (.ref f))(hk:keepIn X.K (.ref f)=true)(hb:Binds X.K fd ps ds)(hd:Vals ng ds) (jb:(x==("__debug__": Str))=false):PE y.cx (.Call (.Name x p) [] [] pos) (λσ H Q=>sp ng H Q<|y.E σ):=by intro p2 s σ H Q I h;refine yF<|iw I hg hm ?_ jb;exact callWith_K0 I.kC hk<|p7 (us:=[]) (vs:=[]) F hr hb hd I .nil h
theorem He{pl:Sem Bool}{ta:TE}{t:TA}(he:PE y.cx o ta)(c:qx X.K C)(hm:Meth X.K C m f)(F:bK X.prog X.w X.K X.mg X.base (fj X.prog X.w X.mg) k f fd ps sp)(hr:bB k X.A)(hb:Binds X.K fd ps ds)(hd:Vals ng ds)(ha:PA y.cx (e::es) t)
  (lS:starEach (e::es) X.env=(false,eval e X.env)::starEach es X.env) (eE:(backTo pos<|starEach es X.env).any (·.1)=false)
  (ht:eval (.Call (.Attribute o m apos) (e::es) [] pos) X.env=(do
   let ov <-eval o X.env
   standAt apos.atName
   let (f,first) <-holding [ov] (getMethod ov m pl)
   callWith pos f first (backTo pos<|starEach (e::es) X.env) (backToKw pos<|keywordEach [] X.env))):
  PE y.cx (.Call (.Attribute o m apos) (e::es) [] pos) (λσ H Q=>ta σ H λx H1=>∃a dx fs,x=.ref a/\H1 a=some (.ins C dx fs)/\fs.lookup m=none/\t σ H1 λvs H2=>sp (x::(vs++ng)) H2 Q<|y.E σ):=by
 intro p2 s σ H Q I h
 refine methodCall_KW (pl:=pl) (bu (he p2 s σ H _ I h) λu s1 ⟨x,H1,I1,rx,a,dx,fs,ex,ea,l,q⟩=>?_) ht
 subst ex
 obtain rfl:u=Value.ref a:=rx
 refine qy I1 ea c hm l ?_
 refine callWith_K (first:=[.ref a]) (h₀:=X.base) I.ok.mod.Mh hm.kp (bu (ha pos p2 s1 σ H1 _ I1 q) λus s2 ⟨vs,H2,I2,r,q2⟩=>{I2.kC,?_}) lS eE
 exact p7 (us:=.ref a::us) (vs:=.ref a::vs) F hr hb hd I2 (.cons rfl r) q2
theorem EH(he:PE y.cx o ta)(c:qx X.K C)(hm:Meth X.K C m f)(F:bK X.prog X.w X.K X.mg X.base (fj X.prog X.w X.mg) k f fd ps sp)(hr:bB k X.A)(hb:Binds X.K fd ps ds)(hd:Vals ng ds)
  (ht:eval (.Call (.Attribute o m apos) [] [] pos) X.env=(do
   let ov <-eval o X.env
   standAt apos.atName
   let (f,first) <-holding [ov] (getMethod ov m pl)
   callWith pos f first (backTo pos<|starEach [] X.env) (backToKw pos<|keywordEach [] X.env))):
  PE y.cx (.Call (.Attribute o m apos) [] [] pos) (λσ H Q=>ta σ H λx H1=>∃a dx fs,x=.ref a/\H1 a=some (.ins C dx fs)/\fs.lookup m=none/\sp (x::ng) H1 Q (y.E σ)):=by
 intro p2 s σ H Q I h
 refine methodCall_KW (pl:=pl) (bu (he p2 s σ H _ I h) λu s1 ⟨x,H1,I1,rx,a,dx,fs,ex,ea,l,q⟩=>?_) ht
 subst ex
 obtain rfl:u=Value.ref a:=rx
 refine qy I1 ea c hm l ?_
 exact callWith_K0 (first:=[.ref a]) I1.kC hm.kp<|p7 (us:=[.ref a]) (vs:=[.ref a]) F hr hb hd I1 (.cons rfl .nil) q
theorem EI(M:Mk X.K C f)(F:bK X.prog X.w X.K X.mg X.base (fj X.prog X.w X.mg) k f fd ps sp)(hr:bB (k+1) X.A)(hb:Binds X.K fd ps ds)(hd:Vals ng ds) (I:Inv y.cx p2 σ H s) (r:Vals vs us) (h:∀x dx,H x=none->H dx=none->dx≠x->sp (.ref x::(vs++ng)) (upd (upd H dx<|.own x) x<|.ins C dx []) (λv H2=>v=.av/\Q (.ref x) H2) (y.E σ)): wpAny (model X.prog X.w) X.A (call (.ref C) us) (EP y.cx p2 σ Q) y.xe s:=by
 have hq:=h (s.heap.objs.size+1) s.heap.objs.size (I.aH.fresh<|yU _) (I.aH.fresh<|zl _)<|zx<|Nat.lt_succ_self _;have I2:=Inv.made (C:=C) I;have r2:Vals (V.ref (s.heap.objs.size+1)::(vs++ng)) (Value.ref (s.heap.objs.size+1)::(us++ds)):=.cons rfl<|r.append hd;have hl:(Value.ref (s.heap.objs.size+1)::us++ds).length=ps.length:=by have e:=r2.length;rw[F.len _ _ _ _ hq]at e;exact e.symm
 refine wpAny_call<|Gm (f:=f) I.kC M.makes M.init (beq_iff_eq.mp M.fn)<|yO (F.run _ X.stack _ _ {Value.ref (s.heap.objs.size+1)::us,[]} (Value.ref (s.heap.objs.size+1)::(us++ds)) _ _ (y.E σ) (hr.make C us []) (I2.N_.make C us []) (hb _ (Value.ref (s.heap.objs.size+1)::us) I2.kC hl) r2 hq) λr s' FO=>?_;cases r with|error e=>exact y.ok.call p2 σ _ _ e s' I2 FO|ok fl=>cases fl with|ret u=>(obtain⟨v,H',I3,rv,ev,q3⟩:=I2.after FO;subst ev;exact{rv,{V.ref<|s.heap.objs.size+1,H',I3,rfl,q3}})|next=>exact False.elim FO|brk=>exact False.elim FO|cont=>exact False.elim FO
theorem Hf{t:TA}(M:Mk X.K C f)(F:bK X.prog X.w X.K X.mg X.base (fj X.prog X.w X.mg) k f fd ps sp)(hr:bB (k+1) X.A)(hg:Gl X x)(hm:X.mg x=some (.ref C))(hb:Binds X.K fd ps ds)(hd:Vals ng ds) (ha:PA y.cx (e::es) t) (jb:(x==("__debug__": Str))=false) (he:starEach (e::es) X.env=(false,eval e X.env)::starEach es X.env) (eE:(backTo pos<|starEach es X.env).any (·.1)=false): PE y.cx (.Call (.Name x p) (e::es) [] pos) (λσ H Q=>t σ H λvs H1=>∀x dx,H1 x=none->H1 dx=none->dx≠x->sp (.ref x::(vs++ng)) (upd (upd H1 dx<|.own x) x<|.ins C dx []) (λv H2=>v=.av/\Q (.ref x) H2) (y.E σ)):=by intro p2 s σ H Q I h;refine yF<|iw I hg hm ?_ jb;refine callWith_K (h₀:=X.base) I.ok.mod.Mh M.kp (bu (ha pos p2 s σ H _ I h) λus s1 ⟨vs,H1,I1,r,q⟩=>{I1.kC,?_}) he eE;exact EI M F hr hb hd I1 r q
end
section
variable{K:Frag}{X:Cx}{k:Nat}{f C:Addr}{fd:FuncData}{ps:List Str}{sp:gY}{um:List D}{ng:List V}{ds:List Value}{x m:Str}{p pos apos:Pos}{e o:Expr}{es:List Expr}
structure O7(K:Frag)(um:List D)(ng:List V)(ds:List Value):Prop where
 v:Vals ng ds
 d:∀H,RvAll K H um ng
theorem d0:O7 K [] [] []:={.nil,λ_=>bE}
theorem d1:O7 K [.av] [.av] [.none]:={.cons rfl .nil,λ_=>aS iA bE}
def Hg(sp:gY)(um:List D)(t:iD):TD:=λσ S R Z=>t σ S (λds S1=>sp (ds++um) S1 R Z) Z
theorem cf{t:iD}(F:bK X.prog X.w K X.mg X.base (fj X.prog X.w X.mg) k f fd ps<|qW K sp)(hr:bB k X.A)(hm:X.mg x=some (.ref f))(hk:keepIn K (.ref f)=true)(hb:Binds K fd ps ds)(hd:O7 K um ng ds)(ha:DA K X (e::es) t) (hg:autoParam (Gl X x) qQJ) (jb:autoParam ((x==("__debug__": Str))=false) qQZ) (he:autoParam (starEach (e::es) X.env=(false,eval e X.env)::starEach es X.env) qQJ) (eE:autoParam ((backTo pos<|starEach es X.env).any (·.1)=false) qQJ) (hK:autoParam (X.K=K) qQJ): DE K X (.Call (.Name x p) (e::es) [] pos) (Hg sp um t):=by
 subst hK
 exact⟨λy=>(Hd F hr hg hm hk hb hd.v (ha.of y) jb he eE).mono <| by rintro τ H Q ⟨σ,S,R,Z,aB,hS,q,hR,hZ⟩;exact
  ⟨σ,S,_,Z,aB,hS,q,λes S1 xs H1 r1 v1 s1 k1=>⟨es++um,S1,R,Z,v1.app<|hd.d _,s1,r1,hR.kp k1,hZ.kp k1⟩,hZ⟩⟩
theorem cf0(F:bK X.prog X.w K X.mg X.base (fj X.prog X.w X.mg) k f fd ps<|qW K sp)(hr:bB k X.A)(hm:X.mg x=some (.ref f))(hk:keepIn K (.ref f)=true)(hb:Binds K fd ps ds)(hd:O7 K um ng ds) (hg:autoParam (Gl X x) qQJ) (jb:autoParam ((x==("__debug__": Str))=false) qQZ) (hK:autoParam (X.K=K) qQJ): DE K X (.Call (.Name x p) [] [] pos) (Hg sp um G7):=by subst hK;exact⟨λy=>(EG F hr hg hm hk hb hd.v jb).mono <| by rintro τ H Q ⟨σ,S,R,Z,aB,hS,q,hR,hZ⟩;exact{um,S,R,Z,hd.d _,hS,q,hR,hZ}⟩
inductive MeR (C:Addr) (m:Str) (x:D) (S:ax) (p:Prop):Prop where
 |mk (a:Addr) (fs:List<|Str×D) (e1:x=.ref a) (e2:S a=some (.ins C fs)) (e3:fs.lookup m=none) (r:p)
def Dc(C:Addr)(m:Str)(sp:gY)(um:List D)(ta:TD)(t:iD):TD:=λσ S R Z=>ta σ S (λx S1=>MeR C m x S1<|t σ S1 (λds S2=>sp (x::(ds++um)) S2 R Z) Z) Z
theorem Ym{t:iD}(he:DE K X o ta)(c:qx K C)(hm:Meth K C m f)(F:bK X.prog X.w K X.mg X.base (fj X.prog X.w X.mg) k f fd ps<|qW K sp)(hr:bB k X.A)(hb:Binds K fd ps ds)(hd:O7 K um ng ds)(ha:DA K X (e::es) t)
  (lS:autoParam (starEach (e::es) X.env=(false,eval e X.env)::starEach es X.env) qQJ) (eE:autoParam ((backTo pos<|starEach es X.env).any (·.1)=false) qQJ)
  (ht:autoParam (eval (.Call (.Attribute o m apos) (e::es) [] pos) X.env=(do
   let ov <-eval o X.env
   standAt apos.atName
   let (f,first) <-holding [ov] (getMethod ov m pl)
   callWith pos f first (backTo pos<|starEach (e::es) X.env) (backToKw pos<|keywordEach [] X.env))) qQJ) (hK:autoParam (X.K=K) qQJ):
  DE K X (.Call (.Attribute o m apos) (e::es) [] pos) (Dc C m sp um ta t):=by
 subst hK
 exact⟨λy=>(He (he.of y) c hm F hr hb hd.v (ha.of y) lS eE ht).mono <| by rintro τ H Q ⟨σ,S,R,Z,aB,hS,q,hR,hZ⟩;exact
  ⟨σ,S,_,Z,aB,hS,q,by
   rintro d S1 x H1 ⟨a,fs,e1,e2,e3,r1⟩ v1 s1 k1
   subst e1
   obtain⟨dx,vs,e4,t4⟩:=s1.ins e2
   exact{a,dx,vs,v1.ref,e4,(t4.look m).2 e3,σ,S1,_,Z,aB.ts k1,s1,r1,λes S2 xs H2 r2 v2 s2 k2=>{_,S2,R,Z,aS (Rv.ts k2 _ v1)<|v2.app<|hd.d _,s2,r2,hR.kp<|k1.trans k2,hZ.kp<|k1.trans k2},hZ.kp k1},hZ⟩⟩
theorem TU(he:DE K X o ta)(c:qx K C)(hm:Meth K C m f)(F:bK X.prog X.w K X.mg X.base (fj X.prog X.w X.mg) k f fd ps<|qW K sp)(hr:bB k X.A)(hb:Binds K fd ps ds)(hd:O7 K um ng ds)
  (ht:autoParam (eval (.Call (.Attribute o m apos) [] [] pos) X.env=(do
   let ov <-eval o X.env
   standAt apos.atName
   let (f,first) <-holding [ov] (getMethod ov m pl)
   callWith pos f first (backTo pos<|starEach [] X.env) (backToKw pos<|keywordEach [] X.env))) qQJ) (hK:autoParam (X.K=K) qQJ):
  DE K X (.Call (.Attribute o m apos) [] [] pos) (Dc C m sp um ta G7):=by
 subst hK
 exact⟨λy=>(EH (he.of y) c hm F hr hb hd.v ht).mono <| by rintro τ H Q ⟨σ,S,R,Z,aB,hS,q,hR,hZ⟩;exact
  ⟨σ,S,_,Z,aB,hS,q,by
   rintro d S1 x H1 ⟨a,fs,e1,e2,e3,r1⟩ v1 s1 k1
   subst e1
   obtain⟨dx,vs,e4,t4⟩:=s1.ins e2
   exact{a,dx,vs,v1.ref,e4,(t4.look m).2 e3,_,S1,R,Z,aS v1<|hd.d _,s1,r1,hR.kp k1,hZ.kp k1},hZ⟩⟩
def TV(C:Addr)(sp:gY)(um:List D)(t:iD):TD:=λσ S R Z=>t σ S (λds S1=>∀x,S1 x=none->sp (.ref x::(ds++um)) (S1.set x<|.ins C []) (λd S2=>d=.av/\R (.ref x) S2) Z) Z
theorem mk{t:iD}(M:Mk K C f)(F:bK X.prog X.w K X.mg X.base (fj X.prog X.w X.mg) k f fd ps<|qW K sp)(hr:bB (k+1) X.A)(hm:X.mg x=some (.ref C))(hb:Binds K fd ps ds)(hd:O7 K um ng ds)(ha:DA K X (e::es) t) (hg:autoParam (Gl X x) qQJ) (jb:autoParam ((x==("__debug__": Str))=false) qQZ) (he:autoParam (starEach (e::es) X.env=(false,eval e X.env)::starEach es X.env) qQJ) (eE:autoParam ((backTo pos<|starEach es X.env).any (·.1)=false) qQJ) (hK:autoParam (X.K=K) qQJ): DE K X (.Call (.Name x p) (e::es) [] pos) (TV C sp um t):=by
 subst hK
 exact⟨λy=>(Hf M F hr hg hm hb hd.v (ha.of y) jb he eE).mono <| by rintro τ H Q ⟨σ,S,R,Z,aB,hS,q,hR,hZ⟩;exact
  ⟨σ,S,_,Z,aB,hS,q,λes S1 xs H1 r1 v1 s1 k1 x dx hx hdx ne=>by
   have GW:upd H1 dx (.own x) x=none:=by rw[ao ne.symm];exact hx
   have k2:Kp X.K H1 (upd (upd H1 dx<|.own x) x<|.ins C dx []):=(Kp.new hdx).trans<|Kp.new GW
   exact{_,_,_,Z,aS (dG x)<|RvAll.ts k2 _<|v1.app<|hd.d _,(s1.grow hdx).new (c:=.ins C []) GW {dx,[],aD,.nil},r1 x<|s1.fresh hx,by rintro d S2 v H2 ⟨e,r2⟩ v2 s2 k3;exact by subst e;exact{v2.av,hR _ _ _ _ r2 (dG x) s2<|(k1.trans k2).trans k3},(hZ.kp k1).kp k2},hZ⟩⟩
inductive FlR (C:Addr) (f:Str) (x:D) (S:ax) (R:KD):Prop where
 |mk (a:Addr) (fs:List<|Str×D) (d:D) (e1:x=.ref a) (e2:S a=some (.ins C fs)) (e3:fs.lookup f=some d) (r:R d S)
def Yn(C:Addr)(f:Str)(ta:TD):TD:=λσ S R Z=>ta σ S (λx S1=>FlR C f x S1 R) Z
theorem fl{f:Str}{ta:TD}(c:qx K C)(n:jl K C f)(he:DE K X e ta)(hb:autoParam (attributeBase e f X.env (eval e X.env)=eval e X.env) qQJ)(hK:autoParam (X.K=K) qQJ):DE K X (.Attribute e f pos) (Yn C f ta):=by
 subst hK
 exact⟨λy=>(N6 (X:=y.cx) (he.of y) hb).mono <| by rintro τ H Q ⟨σ,S,R,Z,aB,hS,q,hR,hZ⟩;exact
  ⟨σ,S,_,Z,aB,hS,q,by
   rintro d S1 x H1 ⟨a,fs,y,e1,e2,e3,r1⟩ v1 s1 k1
   subst e1
   obtain⟨dx,vs,e4,t4⟩:=s1.ins e2
   obtain⟨v,e5,r5⟩:=(t4.look f).1 y e3
   exact{a,C,dx,vs,v,v1.ref,e4,c,n,e5,(hR.kp k1).now s1 r1 r5},hZ⟩⟩
end
structure uo where
 nx:SD->ax->Prop
 rt:KD
 bk:SD->ax->Prop:=λ_ _=>False
 ct:SD->ax->Prop:=λ_ _=>False
abbrev kF:=uo->SD->ax->(SD->KX)->Prop
def MK(K:Frag)(H:Hp)(R:SD->ax->Prop)(Q:St->Hp->Prop):Prop:=∀σ S τ H',R σ S->gb K H' σ τ->Rs K S H'->Kp K H H'->Q τ H'
structure V6(K:Frag)(H:Hp)(De:uo)(Dv:Ends):Prop where
 nx:MK K H De.nx Dv.nx
 rt:Cn K H De.rt Dv.rt
 bk:MK K H De.bk Dv.bk
 ct:MK K H De.ct Dv.ct
def xB(K:Frag)(H:Hp)(Z:SD->KX)(E:St->XK):Prop:=∀σ τ C S H',Z σ C S->gb K H' σ τ->Rs K S H'->Kp K H H'->E τ (.ref C) none H'
section
variable{K:Frag}{H H1:Hp}{De:uo}{Dv:Ends}{Z:SD->KX}{E:St->XK}{σ:SD}{τ:St}{S:ax}
theorem MK.kp(h:MK K H R Q)(k:Kp K H H1):MK K H1 R Q:=λσ S τ H' r a b c=>h σ S τ H' r a b<|k.trans c
theorem V6.kp(h:V6 K H De Dv)(k:Kp K H H1):V6 K H1 De Dv:={h.nx.kp k,h.rt.kp k,h.bk.kp k,h.ct.kp k}
theorem xB.kp(h:xB K H Z E)(k:Kp K H H1):xB K H1 Z E:=λσ τ C S H' r a b c=>h σ τ C S H' r a b<|k.trans c
theorem xB.at(h:xB K H Z E)(r:gb K H σ τ):ED K H (Z σ) (E τ):=λC S H' z s k=>h σ τ C S H' z (r.ts k) s k
theorem xB.on(h:xB K H Z E)(k:Kp K H H1)(r:gb K H1 σ τ):ED K H1 (Z σ) (E τ):=(h.kp k).at r
end
def Tl(K:Frag)(E:St->XK)(t:kF):TS:=λDv τ H=>∃σ S De Z,gb K H σ τ/\Rs K S H/\t De σ S Z/\V6 K H De Dv/\xB K H Z E
structure DS(K:Frag)(X:Cx)(b:Bool)(st:Stmt)(t:kF):Prop where
 of:∀y:Ev X b,PS y.cx st<|Tl K y.E t
structure xC(K:Frag)(X:Cx)(b:Bool)(st:List Stmt)(t:kF):Prop where
 of:∀y:Ev X b,AJ y.cx st<|Tl K y.E t
theorem PS.mono{t t':TS}(h:PS X e t)(i:∀D τ H,t' D τ H->t D τ H):PS X e t':=λpins s τ H D I q=>h pins s τ H D I<|i D τ H q
theorem AJ.mono{t t':TS}(h:AJ X e t)(i:∀D τ H,t' D τ H->t D τ H):AJ X e t':=λpins s τ H D I q=>h pins s τ H D I<|i D τ H q
section
variable{K:Frag}{X:Cx}{b:Bool}{pos:Pos}
def TY:kF:=λDe σ S _=>De.nx σ S
def Yo(t u:kF):kF:=λDe σ S Z=>t {De with nx:=λaq S'=>u De aq S' Z} σ S Z
theorem s0:xC K X b [] TY:=⟨λy=>(CL (X:=y.cx)).mono <| by rintro D τ H ⟨σ,S,De,Z,aB,hS,q,hD,hZ⟩;exact hD.nx _ _ _ _ q aB hS<|.refl _⟩
theorem sc{st:Stmt}{r:List Stmt}{t u:kF}(h1:DS K X b st t)(h2:xC K X b r u):xC K X b (st::r) (Yo t u):=
 ⟨λy=>(FY (h1.of y)<|h2.of y).mono <| by rintro D τ H ⟨σ,S,De,Z,aB,hS,q,hD,hZ⟩;exact
  ⟨σ,S,_,Z,aB,hS,q,⟨λuP S1 V7 H1 r1 a b c=>⟨uP,S1,De,Z,a,b,r1,hD.kp c,hZ.kp c⟩,hD.rt,hD.bk,hD.ct⟩,hZ⟩⟩
theorem s1{st:Stmt}{t:kF}(h:DS K X b st t):xC K X b [st] t:=⟨λy=>JM<|h.of y⟩
def TZ(t:TD):kF:=λDe σ S Z=>t σ S (λ_ S1=>De.nx σ S1)<|Z σ
theorem se{t:TD}(h:DE K X e t)(hs:autoParam (swapsWith e none pos.line X.env=pure false) qQJ):DS K X b (.Expr e pos) (TZ t):=⟨λy=>(JN (X:=y.cx) (h.of y) hs).mono <| by rintro D τ H ⟨σ,S,De,Z,aB,hS,q,hD,hZ⟩;exact{σ,S,_,_,aB,hS,q,λd S1 v H1 r1 _ s1 k1=>hD.nx _ _ _ _ r1 (aB.ts k1) s1 k1,hZ.at aB}⟩
def Yp(t:TD):kF:=λDe σ S Z=>t σ S De.rt<|Z σ
theorem sr{t:TD}(h:DE K X e t):DS K X b (.Return (some e) pos) (Yp t):=⟨λy=>(NM<|h.of y).mono <| by rintro D τ H ⟨σ,S,De,Z,aB,hS,q,hD,hZ⟩;exact{σ,S,_,_,aB,hS,q,hD.rt,hZ.at aB}⟩
def dIf(c:mj)(t u:kF):kF:=λDe σ S Z=>c σ S (λb S1=>if b=true then t De σ S1 Z else u De σ S1 Z)<|Z σ
theorem si{t u:kF}(hc:DT K X c tc)(ha:xC K X b a t)(hb:xC K X b a' u):DS K X b (.If c a a' pos) (dIf tc t u):=
 ⟨λy=>(RN (hc.of y) (ha.of y)<|hb.of y).mono <| by rintro D τ H ⟨σ,S,De,Z,aB,hS,q,hD,hZ⟩;exact
  ⟨σ,S,_,_,aB,hS,q,λc S1 H1 r1 s1 k1=>by
   cases c with
   |true=>rw[if_pos rfl]at r1⊢;exact{σ,S1,De,Z,aB.ts k1,s1,r1,hD.kp k1,hZ.kp k1}
   |false=>rw[if_neg zd]at r1⊢;exact{σ,S1,De,Z,aB.ts k1,s1,r1,hD.kp k1,hZ.kp k1},hZ.at aB⟩⟩
abbrev xD:=D->SD->ax->(SD->ax->Prop)->Prop
def Tg(K:Frag)(g:xD):TG:=λv τ H Q=>∃d σ S R,Rv K H d v/\gb K H σ τ/\Rs K S H/\g d σ S R/\MK K H R Q
structure DG(K:Frag)(X:Cx)(e:Expr)(g:xD):Prop where
 of:∀Y:Cx,Y.K=X.K->Y.N=X.N->Y.env=X.env->Y.fn=X.fn->Y.calm=X.calm->PG Y e (Tg K g)
theorem PG.mono{t t':TG}(h:PG X e t)(i:∀v τ H Q,t' v τ H Q->t v τ H Q):PG X e t':=λpins s τ H v u Q I r q=>h pins s τ H v u Q I r<|i v τ H Q q
def V8(i:Nat):xD:=λd σ S R=>R (σ.set i<|some d) S
theorem gn(hN:X.N.Nodup)(hi:autoParam (X.N[i]?=some x) qQJ)(hx:autoParam (Loc X.env.scope x) qJK)(hf:autoParam (X.fn x=true\/X.env.scope.names.lookup x=some .local) qQ8):DG K X (.Name x pos) (V8 i):=⟨λY _ e2 e3 e4 _=>(pX (X:=Y) (by rw[e2];exact hN) (by rw[e2];exact hi) (by rw[e3];exact hx)<|by rw[e3,e4];exact hf).mono <| by rintro v τ H Q ⟨d,σ,S,R,rv,aB,hS,q,hR⟩;exact hR _ S _ H q (aB.set i rv) hS<|.refl _⟩
abbrev Bz:=List D->SD->ax->(SD->ax->Prop)->Prop
def Tgs(K:Frag)(g:Bz):Jx:=λvs τ H Q=>∃ds σ S R,RvAll K H ds vs/\gb K H σ τ/\Rs K S H/\g ds σ S R/\MK K H R Q
structure T4(K:Frag)(X:Cx)(es:List Expr)(g:Bz):Prop where
 of:∀Y:Cx,Y.K=X.K->Y.N=X.N->Y.env=X.env->Y.fn=X.fn->Y.calm=X.calm->JO Y es (Tgs K g)
theorem JO.mono{t t':Jx}(h:JO X e t)(i:∀v τ H Q,t' v τ H Q->t v τ H Q):JO X e t':=λpins s τ H v u Q I r q=>h pins s τ H v u Q I r<|i v τ H Q q
def ML:Bz:=λds σ S R=>ds=[]/\R σ S
def BA(g:xD)(u:Bz):Bz:=λds σ S R=>∃d r,ds=d::r/\g d σ S λuP S1=>u r uP S1 R
theorem g0:T4 K X [] ML:=⟨λY _ _ _ _ _=>(CM (X:=Y)).mono <| by rintro vs τ H Q ⟨ds,σ,S,R,rv,aB,hS,⟨e,q⟩,hR⟩;exact by subst e;exact{rv.nil,hR _ _ _ _ q aB hS<|.refl _}⟩
theorem gc(h1:DG K X e g)(h2:T4 K X es u)(hs:autoParam (∀env:Env,(assignEach (e::es) env).map (·.2)=assign e env::(assignEach es env).map (·.2)) qQ0):T4 K X (e::es) (BA g u):=⟨λY a b c d f=>(qr (h1.of Y a b c d f) (h2.of Y a b c d f)<|hs _).mono <| by rintro vs τ H Q ⟨ds,σ,S,R,rv,aB,hS,⟨d,r,e,q⟩,hR⟩;subst e;obtain⟨y,ys,e1,r1,r2⟩:=rv.cons;exact{y,ys,e1,d,σ,S,_,r1,aB,hS,q,λuP S1 V7 H1 q1 a b c=>{r,uP,S1,R,RvAll.ts c _ r2,a,b,q1,hR.kp c}}⟩
def MM(n:Nat)(g:Bz):xD:=λd σ S R=>∃ds,d=.tup ds/\ds.length=n/\g ds σ S R
theorem gt(h:T4 K X es g)(hn:autoParam (∀env:Env,(assignEach es env).length=n) qQ0)(lS:autoParam (∀env:Env,(assignEach es env).findIdx? (·.1)=none) qQ0)(hK:autoParam (X.K=K) qQJ)(hc:autoParam (X.calm=true) qQJ):DG K X (.Tuple es j pos) (MM n g):=⟨λY a b c d f=>(FZ (X:=Y) (by rw[f];exact hc) (h.of Y a b c d f) (hn _)<|lS _).mono <| by rintro v τ H Q ⟨d,σ,S,R,rv,aB,hS,⟨ds,e,hl,q⟩,hR⟩;subst e;obtain⟨p,xs,e1,e2,t⟩:=rv.tup;exact{p,xs,e1,.of e2,by rw[t.len];exact hl,ds,σ,S,R,t,aB,hS,q,hR}⟩
def T5(i:Nat)(t:TD):kF:=λDe σ S Z=>t σ S (λd S1=>De.nx (σ.set i<|some d) S1)<|Z σ
theorem bX{t:TD}(hN:X.N.Nodup)(h:DE K X e t)(hi:autoParam (X.N[i]?=some x) qQJ)(hx:autoParam (Loc X.env.scope x) qJK)(hs:autoParam (swapsWith e (some<|.Name x pos') pos.line X.env=pure false) qQJ) (hf:autoParam (X.fn x=true\/X.env.scope.names.lookup x=some .local) qQ8):DS K X b (.Assign [.Name x pos'] e pos) (T5 i t):=⟨λy=>(NQ (X:=y.cx) (i:=i) hN hi hx (h.of y) hs hf).mono <| by rintro D τ H ⟨σ,S,De,Z,aB,hS,q,hD,hZ⟩;exact{σ,S,_,_,aB,hS,q,λd S1 v H1 r1 v1 s1 k1=>hD.nx _ _ _ _ r1 ((aB.ts k1).set i v1) s1 k1,hZ.at aB}⟩
def Yq(t:TD)(g:xD):kF:=λDe σ S Z=>t σ S (λd S1=>g d σ S1 De.nx)<|Z σ
theorem sa{t:TD}(h:DE K X e t)(hg:DG K X tg g)(hs:autoParam (swapsWithSole [tg] e pos.line X.env=pure false) qQJ)(hw:autoParam (swappedStores [tg] e X.env=pure none) qQJ)(h1:autoParam ((assignEach [tg] X.env).map (·.2)=[assign tg X.env]) qQJ): DS K X b (.Assign [tg] e pos) (Yq t g):=⟨λy=>(F8 (X:=y.cx) (h.of y) (hg.of _ rfl rfl rfl rfl rfl) hs hw h1).mono <| by rintro D τ H ⟨σ,S,De,Z,aB,hS,q,hD,hZ⟩;exact{σ,S,_,_,aB,hS,q,λd S1 v H1 r1 v1 s1 k1=>{d,σ,S1,_,v1,aB.ts k1,s1,r1,hD.nx.kp k1},hZ.at aB}⟩
def Yr(td ty tv:TD):kF:=λDe σ S Z=>tv σ S (λv S1=>td σ S1 (λx S2=>ty σ S2 (λy S3=>∃a kvs k,x=.ref a/\S3 a=some (.cB kvs)/\Bv y=some k/\kvs.length<sizeLine/\De.nx σ (S3.set a<|.cB<|dput kvs k v))<|Z σ)<|Z σ)<|Z σ
theorem sd{o i value:Expr}{td ty tv:TD}{pos':Pos}(hu:X.A.units+64<cLine)(ho:DE K X o td)(hi:DE K X i ty)(hv:DE K X value tv)(hs:autoParam (swapsWith value (some<|.Subscript o i pos') pos.line X.env=pure false) qQJ):DS K X b (.Assign [.Subscript o i pos'] value pos) (Yr td ty tv):=
 ⟨λy=>(Ka (X:=y.cx) (by show X.A.units+1<cLine;lia) (ho.of y) (hi.of y) (hv.of y) hs).mono <| by rintro D τ H ⟨σ,S,De,Z,aB,hS,q,hD,hZ⟩;exact
  ⟨σ,S,_,_,aB,hS,q,λv S1 vv H1 r1 v1 s1 k1=>⟨σ,S1,_,_,aB.ts k1,s1,r1,λx S2 xv H2 r2 v2 s2 k2=>⟨σ,S2,_,_,aB.ts<|k1.trans k2,s2,r2,by
   rintro y S3 yv H3 ⟨a,kvs,k,e1,e2,e3,hl,r3⟩ v3 s3 k3
   subst e1
   obtain⟨vs,e4,t⟩:=s3.cB e2
   have kk:=s3.iC (o:=.dK<|putK vs k vv) e2
   refine{a,_,(Rv.ts k3 _ v2).ref,by rw[nF e3 v3];exact GB.k e4<|by rw[t.len];exact hl,?_}
   exact hD.nx _ _ _ _ r3 (aB.ts<|((k1.trans k2).trans k3).trans kk) (s3.put (c:=.cB _) e2 {_,aD,(t.put k<|Rv.ts (k2.trans k3) _ v1).ts kk})<|((k1.trans k2).trans k3).trans kk,hZ.on (k1.trans k2)<|aB.ts<|k1.trans k2⟩,hZ.on k1<|aB.ts k1⟩,hZ.at aB⟩⟩
end
section
variable{X:Cx}{pins:List (Addr×Obj)}{σ:St}{H:Hp}{s:Shared}{A:Around}{E:Value->Shared->Prop}{a:Addr}{kvs:List (Key×V)}{k:Key}{u:Value}
theorem O8(I:Inv X pins σ H s)(e:H a=some (.dK kvs))(ry:RelV (kV k) u)(rz:RelV z r)(hl:kvs.length<sizeLine) (h1:∀v w' s',gk kvs k=some v->Inv X pins σ H s'->RelV v w'->Q w' s') (h2:gk kvs k=none->∀s',Inv X pins σ (upd H a<|.dK<|putK kvs k z) s'->Q r s'): wpAny (model X.prog X.w) A (call (.builtin "dict.setdefault") [.ref a,u,r]) Q E s:=by
 obtain⟨zz,hd,vs,rel,dd⟩:=C4 I.aH e;have hp:=oH kvs k z;refine call_meetsIn PySem.F.slot_dict_setdefault dd.typeIs PySem.F.entry_dict_setdefault (PySem.F.args_dict_setdefault_3 _ _ _) (PySem.kt_meets_setdefault (aG X.prog X.w) a (kQ ry) hd r) {vs,dd,by rw[<-rel.length];exact zz,λw' hw=>?_,λhn h' Jz hs=>?_};cases q:gk kvs k with|none=>(have:=gf.none_of (o:=valueAt vs k) (by rw[<-q];exact rel.val k);rw[this]at hw;cases hw)|some v=>obtain⟨w2,T6,rw2⟩:=gf.some_of (v:=v) (o:=valueAt vs k) (by rw[<-q];exact rel.val k);rw[T6]at hw;cases hw;exact h1 v _ _ q (I.tok _) rw2
 cases q:gk kvs k with|some v=>(obtain⟨w2,T6,rw2⟩:=gf.some_of (v:=v) (o:=valueAt vs k) (by rw[<-q];exact rel.val k);rw[T6]at hn;cases hn)|none=>have he:∃q,h'.get? a=some q:=(by obtain⟨q,_,_,hq,_⟩:=Jz;exact⟨q,hq⟩);exact h2 q _<|uW I (by rw[e];exact True.intro) hs he<|A3 (by lia) hd (rel.put k rz) Jz
end
section
variable{X:Cx}{o e f:Expr}{apos aP:Pos}{td ty tx:TE}
def T7(td ty tx:TE):TE:=λσ H Q=>td σ H λx H1=>∃a,x=.ref a/\QW H1 a/\ty σ H1 λy H2=>tx σ H2 λz H3=>∃kvs k,H3 a=some (.dK kvs)/\y=kV k/\kvs.length<sizeLine/\(∀v,gk kvs k=some v->Q v H3)/\(gk kvs k=none->Q z (upd H3 a<|.dK<|putK kvs k z))
theorem Hh(ho:PE X o td)(he:PE X e ty)(hf:PE X f tx)(m:M2 X o "setdefault" apos e f aP):PE X (.Call (.Attribute o "setdefault" apos) [e,f] [] aP) (T7 td ty tx):=by intro pins s σ H Q I h;refine wpAny_Call_method m.base m.FJ m.line PySem.F.plainAttrs_dict PySem.F.slot_dict_setdefault PySem.F.type_dict_setdefault<|bu (ho pins s σ H _ I h) λu s1 ⟨x,H1,I1,rx,a,ex,d,q1⟩=>?_;subst ex;obtain rfl:u=Value.ref a:=rx;obtain⟨t1,t2,_⟩:=uX I1 d;refine{t1,t2,?_};rw[m.trees];refine Calls.callWith_builtin rfl<|Calls.evalArgs_plain<|yE<|bu (he pins s1 σ H1 _ I1 q1) λiv s2 ⟨y,H2,I2,ry,q2⟩=>yE<|bu (hf pins s2 σ H2 _ I2 q2) λfv s3 ⟨z,H3,I3,rz,kvs,k,ea,ey,hl,q3,q4⟩=>Calls.spliced_nil ?_;subst ey;exact O8 I3 ea ry rz hl (λv w' s4 l I4 nz=>{v,H3,I4,nz,q3 v l}) λl s4 I4=>{z,_,I4,rz,q4 l}
end
section
variable{K:Frag}{X:Cx}{b:Bool}{o e f:Expr}{apos aP pos:Pos}{td ty tx:TD}
theorem vo(hS:Rs K S H)(e:S a=some (.cB kvs)):QW H a:=by obtain⟨vs,e1,_⟩:=hS.cB e;exact .inl {vs,.inl e1}
def T8(td ty:TD):TD:=λσ S R Z=>td σ S (λx S1=>∃a kvs,x=.ref a/\S1 a=some (.cB kvs)/\ty σ S1 (λy S2=>∃kvs k,S2 a=some (.cB kvs)/\Bv y=some k/\R ((bW kvs k).getD .av) S2) Z) Z
theorem Hi(hS:Rs K S H)(e:S a=some (.cB kvs))(r:Rv K H d v):∃o,pB H a (kV k) o/\Rv K H ((bW kvs k).getD d) (o.getD v):=by obtain⟨o,g,h1,h2⟩:=vn (k:=k) hS e;refine{o,g,?_};cases q:bW kvs k with|none=>(rw[q]at h1;cases o with|none=>exact r|some _=>cases h1)|some d'=>obtain⟨v',rfl,r'⟩:=h2 d' q;exact r'
theorem mg1(hu:X.A.units+64<cLine)(ho:DE K X o td)(he:DE K X e ty)(m:autoParam (M1 X o "get" apos e aP) qQ4):DE K X (.Call (.Attribute o "get" apos) [e] [] aP) (T8 td ty):=
 ⟨λy=>(GG (X:=y.cx) (by show X.A.units+1<cLine;lia) (ho.of y) (he.of y) ⟨m.base,m.FJ,m.line,m.trees⟩).mono <| by rintro τ H Q ⟨σ,S,R,Z,aB,hS,q,hR,hZ⟩;exact
  ⟨σ,S,_,Z,aB,hS,q,by
   rintro x S1 xv H1 ⟨a,kvs,e1,e2,r1⟩ v1 s1 k1
   subst e1
   exact⟨a,v1.ref,vo s1 e2,σ,S1,_,Z,aB.ts k1,s1,r1,by
    rintro y S2 yv H2 ⟨kvs,k,e3,e4,r2⟩ v2 s2 k2
    obtain⟨o,g,r⟩:=Hi (k:=k) s2 e3 iA
    exact{o,by rw[nF e4 v2];exact g,(hR.kp<|k1.trans k2).now s2 r2 r},hZ.kp k1⟩,hZ⟩⟩
def T9(td ty tx:TD):TD:=λσ S R Z=>td σ S (λx S1=>∃a kvs,x=.ref a/\S1 a=some (.cB kvs)/\ty σ S1 (λy S2=>tx σ S2 (λz S3=>∃kvs k,S3 a=some (.cB kvs)/\Bv y=some k/\R ((bW kvs k).getD z) S3) Z) Z) Z
theorem mg2(hu:X.A.units+64<cLine)(ho:DE K X o td)(he:DE K X e ty)(hf:DE K X f tx)(m:autoParam (M2 X o "get" apos e f aP) qQ4):DE K X (.Call (.Attribute o "get" apos) [e,f] [] aP) (T9 td ty tx):=
 ⟨λy=>(GH (X:=y.cx) (by show X.A.units+1<cLine;lia) (ho.of y) (he.of y) (hf.of y) ⟨m.base,m.FJ,m.line,m.trees⟩).mono <| by rintro τ H Q ⟨σ,S,R,Z,aB,hS,q,hR,hZ⟩;exact
  ⟨σ,S,_,Z,aB,hS,q,by
   rintro x S1 xv H1 ⟨a,kvs,e1,e2,r1⟩ v1 s1 k1
   subst e1
   exact⟨a,v1.ref,vo s1 e2,σ,S1,_,Z,aB.ts k1,s1,r1,λy S2 yv H2 r2 v2 s2 k2=>⟨σ,S2,_,Z,aB.ts<|k1.trans k2,s2,r2,by
    rintro z S3 zv H3 ⟨kvs,k,e3,e4,r3⟩ v3 s3 k3
    obtain⟨o,g,r⟩:=Hi (k:=k) s3 e3 v3
    exact{o,by rw[nF e4 v2];exact g,(hR.kp<|(k1.trans k2).trans k3).now s3 r3 r},hZ.kp<|k1.trans k2⟩,hZ.kp k1⟩,hZ⟩⟩
def T_(td ty:TD):TD:=λσ S R Z=>td σ S (λx S1=>∃a kvs,x=.ref a/\S1 a=some (.cB kvs)/\ty σ S1 (λy S2=>∃kvs k d,S2 a=some (.cB kvs)/\Bv y=some k/\bW kvs k=some d/\R d (S2.set a<|.cB<|xA kvs k)) Z) Z
theorem mp1(ho:DE K X o td)(he:DE K X e ty)(m:autoParam (M1 X o "pop" apos e aP) qQ4):DE K X (.Call (.Attribute o "pop" apos) [e] [] aP) (T_ td ty):=
 ⟨λy=>(GI (X:=y.cx) (ho.of y) (he.of y) ⟨m.base,m.FJ,m.line,m.trees⟩).mono <| by rintro τ H Q ⟨σ,S,R,Z,aB,hS,q,hR,hZ⟩;exact
  ⟨σ,S,_,Z,aB,hS,q,by
   rintro x S1 xv H1 ⟨a,kvs,e1,e2,r1⟩ v1 s1 k1
   subst e1
   exact⟨a,v1.ref,vo s1 e2,σ,S1,_,Z,aB.ts k1,s1,r1,by
    rintro y S2 yv H2 ⟨kvs,k,d,e3,e4,e5,r2⟩ v2 s2 k2
    obtain⟨vs,e6,t⟩:=s2.cB e3
    obtain⟨v,e7,r7⟩:=(t.val k).1 d e5
    have kk:=s2.iC (o:=.dK<|oG vs k) e3
    exact{vs,k,v,e6,nF e4 v2,e7,hR _ _ _ _ r2 (Rv.ts kk _ r7) (s2.put (c:=.cB _) e3 {_,aD,(t.drop k).ts kk})<|(k1.trans k2).trans kk},hZ.kp k1⟩,hZ⟩⟩
def Ua(td ty tx:TD):TD:=λσ S R Z=>td σ S (λx S1=>∃a kvs,x=.ref a/\S1 a=some (.cB kvs)/\ty σ S1 (λy S2=>tx σ S2 (λz S3=>∃kvs k,S3 a=some (.cB kvs)/\Bv y=some k/\kvs.length<sizeLine/\(∀d,bW kvs k=some d->R d S3)/\(bW kvs k=none->R z (S3.set a<|.cB<|dput kvs k z))) Z) Z) Z
theorem ms2(ho:DE K X o td)(he:DE K X e ty)(hf:DE K X f tx)(m:autoParam (M2 X o "setdefault" apos e f aP) qQ4):DE K X (.Call (.Attribute o "setdefault" apos) [e,f] [] aP) (Ua td ty tx):=
 ⟨λy=>(Hh (X:=y.cx) (ho.of y) (he.of y) (hf.of y) ⟨m.base,m.FJ,m.line,m.trees⟩).mono <| by rintro τ H Q ⟨σ,S,R,Z,aB,hS,q,hR,hZ⟩;exact
  ⟨σ,S,_,Z,aB,hS,q,by
   rintro x S1 xv H1 ⟨a,kvs,e1,e2,r1⟩ v1 s1 k1
   subst e1
   exact⟨a,v1.ref,vo s1 e2,σ,S1,_,Z,aB.ts k1,s1,r1,λy S2 yv H2 r2 v2 s2 k2=>⟨σ,S2,_,Z,aB.ts<|k1.trans k2,s2,r2,by
    rintro z S3 zv H3 ⟨kvs,k,e3,e4,hl,r3,r4⟩ v3 s3 k3
    obtain⟨vs,e6,t⟩:=s3.cB e3
    have kk:=s3.iC (o:=.dK<|putK vs k zv) e3
    have hR3:=hR.kp<|(k1.trans k2).trans k3
    refine{vs,k,e6,nF e4<|Rv.ts k3 _ v2,by rw[t.len];exact hl,λv hv=>?_,λhn=>?_}
    ·cases q:bW kvs k with
     |none=>rw[(t.val k).2 q]at hv;cases hv
     |some d =>
      obtain⟨v',e7,r7⟩:=(t.val k).1 d q
      rw[e7]at hv;cases hv
      exact hR3.now s3 (r3 d q) r7
    ·cases q:bW kvs k with
     |some d=>obtain⟨v',e7,r7⟩:=(t.val k).1 d q;rw[e7]at hn;cases hn
     |none=>exact hR3 _ _ _ _ (r4 q) (Rv.ts kk _ v3) (s3.put (c:=.cB _) e3 {_,aD,(t.put k v3).ts kk}) kk,hZ.kp<|k1.trans k2⟩,hZ.kp k1⟩,hZ⟩⟩
noncomputable def BB(f:Str)(d:D):List (Str×D)->List (Str×D)|[]=>[(f,d)]| (g,x)::r=>if g=f then (g,d)::r else (g,x)::BB f d r
theorem bZ.BB{H:Hp}{f:Str}{d:D}{v:V}(rd:Rv K H d v):∀{ks:List (Str×D)}{vs:List (Str×V)},bZ K H ks vs->bZ K H (BB f d ks) (putF f v vs)|_,_,.nil=>.cons ⟨rfl,rd⟩ .nil| (g,x)::r,(g',y)::r',.cons h t=>by obtain⟨e,h⟩:=h;dsimp only at e;subst e;show bZ K H (if g=f then (g,d)::r else (g,x)::L2.BB f d r) (if g=f then (g,v)::r' else (g,y)::putF f v r');by_cases q:g=f;rw[if_pos q,if_pos q];exact .cons ⟨rfl,rd⟩ t;rw[if_neg q,if_neg q];exact .cons ⟨rfl,h⟩<|bZ.BB rd t
def Ub(C:Addr)(f:Str)(ta tv:TD):kF:=λDe σ S Z=>tv σ S (λy S1=>ta σ S1 (λx S2=>∃a fs,x=.ref a/\S2 a=some (.ins C fs)/\fs.length<1000/\De.nx σ (S2.set a<|.ins C<|BB f y fs))<|Z σ)<|Z σ
theorem sf{C:Addr}{f:Str}{value:Expr}{ta tv:TD}{pos':Pos}(c:qx K C)(n:jl K C f)(ha:DE K X o ta)(hv:DE K X value tv)(hs:autoParam (swapsWith value (some<|.Attribute o f pos') pos.line X.env=pure false) qQJ)(hK:autoParam (X.K=K) qQJ): DS K X b (.Assign [.Attribute o f pos'] value pos) (Ub C f ta tv):=by
 subst hK
 exact⟨λy=>(N7 (X:=y.cx) (ha.of y) (hv.of y) hs).mono <| by rintro D τ H ⟨σ,S,De,Z,aB,hS,q,hD,hZ⟩;exact
  ⟨σ,S,_,_,aB,hS,q,λy S1 yv H1 r1 v1 s1 k1=>⟨σ,S1,_,_,aB.ts k1,s1,r1,by
   rintro x S2 xv H2 ⟨a,fs,e1,e2,hl,r2⟩ v2 s2 k2
   subst e1
   obtain⟨dx,vs,e4,t4⟩:=s2.ins e2
   have kk:=s2.iC (o:=.ins C dx<|putF f yv vs) e2
   exact{a,C,dx,vs,v2.ref,e4,c,n,by rw[t4.len];exact hl,hD.nx _ _ _ _ r2 (aB.ts<|(k1.trans k2).trans kk) (s2.put (c:=.ins C _) e2 {dx,_,aD,(bZ.BB (Rv.ts k2 _ v1) t4).ts kk})<|(k1.trans k2).trans kk},hZ.on k1<|aB.ts k1⟩,hZ.at aB⟩⟩
def O9(C:Addr)(t:iD):kF:=λ_ σ S Z=>t σ S (λds S1=>ds.length<=sizeLine/\Z σ C S1)<|Z σ
end
section
variable{K:Frag}{X:Cx}{C:Addr}{x:Str}{e:Expr}{es:List Expr}{np aP pos:Pos}
theorem EJ{t:TA}{y:Ev X true}(hc:X.calm=true)(c:XC X.K C)(hg:Gl X x)(hm:X.mg x=some (.ref C))(ha:PA y.cx (e::es) t)(jb:(x==("__debug__": Str))=false) (he:starEach (e::es) X.env=(false,eval e X.env)::starEach es X.env) (eE:(backTo aP<|starEach es X.env).any (·.1)=false): PS y.cx (.Raise (some<|.Call (.Name x np) (e::es) [] aP) none pos) (λ_ σ H=>t σ H λvs H1=>vs.length<=sizeLine/\y.E σ (.ref C) none H1):=by intro pins s σ H D I h;obtain⟨bm,N,nm,q,bs,hdct,sn,sub,ab,col,dd,k0,k1,k2,k3,k5,mN,hC,hN,V1,T⟩:=c.at I.mod.Mh;have l9:bm.contains (.type "BaseException")=true:=T.hasType (by decide);refine wpAny_Raise_call_subT (C:=C) (nm:=nm) (q:=q) (N:=N) (bs:=bs) (bm:=bm) (hdct:=hdct) (sn:=sn) (sub:=sub) (ab:=ab) (col:=col) (dd:=dd) (k0:=k0) (k1:=k1) (k2:=k2) (k3:=k3) (k5:=k5) PySem.F.excBase_ValueError (mN:=mN) l9 (I.ok.hd hc) (by show((backTo aP<|starEach (e::es) X.env).any (·.1))=false;rw[he];show(false||(backTo aP<|starEach es X.env).any (·.1))=false;rw[eE];rfl) V1<|iw I hg hm {rfl,?_} jb;have h1:=ha aP pins s σ H _ I h;have he':starEach (e::es) y.cx.env=(false,eval e X.env)::starEach es X.env:=he;rw[he']at h1⊢;exact Calls.evalArgs_plain<|bu h1 <| by rintro us s2 ⟨vs,H2,I2,r,z,q2⟩;exact{rfl,by show us.length<=sizeLine;rw[<-r.length];exact z,I2.bk _ _ hC,hN.keeps I2.bk,T.keeps I2.bk,λh' a hx=>y.ok.own rfl pins σ H2 s2 h' a _ _ I2 hx q2}
theorem qX{t:iD}(c:XC K C)(hm:X.mg x=some (.ref C))(ha:DA K X (e::es) t)(hg:autoParam (Gl X x) qQJ)(jb:autoParam ((x==("__debug__": Str))=false) qQZ) (he:autoParam (starEach (e::es) X.env=(false,eval e X.env)::starEach es X.env) qQJ) (eE:autoParam ((backTo aP<|starEach es X.env).any (·.1)=false) qQJ) (hc:autoParam (X.calm=true) qQJ) (hK:autoParam (X.K=K) qQJ): DS K X true (.Raise (some<|.Call (.Name x np) (e::es) [] aP) none pos) (O9 C t):=by subst hK;exact⟨λy=>(EJ (y:=y) hc c hg hm (ha.of y) jb he eE).mono λD τ H ⟨σ,S,De,Z,aB,hS,q,hD,hZ⟩=>{σ,S,_,_,aB,hS,q,λds S1 vs H1 ⟨hl,r1⟩ v1 s1 k1=>{by rw[v1.len];exact hl,hZ.at aB C S1 H1 r1 s1 k1},hZ.at aB}⟩
end
structure sY where
 xs:List D
 ok:ax->Prop
def Uc(K:Frag)(H0:Hp)(J:It)(I:sY):Prop:=∀i S H,Kp K H0 H->Rs K S H->I.ok S->(∀d,I.xs[i]?=some d->J.go i H/\∀x H',J.RP i H x H'->Rv K H' d x/\Kp K H H'/\Rs K S H')/\(I.xs.length<=i->J.stop i H)
abbrev AB:=SD->ax->(sY->ax->Prop)->KX->Prop
def Ti(K:Frag)(E:St->XK)(t:AB):TI:=λτ H R=>∃σ S RI Z,gb K H σ τ/\Rs K S H/\t σ S RI Z/\(∀I S' J H',RI I S'->Uc K H' J I->Rs K S' H'->Kp K H H'->R J H')/\ED K H Z (E τ)
structure DI(K:Frag)(X:Cx)(tg it:Expr)(t:AB):Prop where
 of:∀{b:Bool}(y:Ev X b),PI y.cx tg it<|Ti K y.E t
theorem PI.mono{t t':TI}(h:PI X tg it t)(i:∀τ H R,t' τ H R->t τ H R):PI X tg it t':=λpins s τ H R I q=>h pins s τ H R I<|i τ H R q
section
variable{K:Frag}{X:Cx}{tg l:Expr}
def Ys(t:TD):AB:=λσ S R Z=>t σ S (λx S1=>∃ds,vk S1 x ds/\R {ds,λS=>vk S x ds} S1) Z
theorem il{t:TD}(h:DE K X l t)(hK:autoParam (X.K=K) qQJ):DI K X tg l (Ys t):=by subst hK;exact⟨λy=>(JR (X:=y.cx)<|h.of y).mono <| by rintro τ H R ⟨σ,S,RI,Z,aB,hS,q,hR,hZ⟩;exact{σ,S,_,Z,aB,hS,q,by rintro x S1 v H1 ⟨ds,h1,r1⟩ v1 s1 k1;obtain⟨a,xs,rfl,hq,t⟩:=h1.at s1 v1;refine{a,rfl,⟨xs,hq⟩,hR _ S1 _ H1 r1 (λi S2 H2 k2 s2 V9=>?_) s1 k1};obtain⟨a',O_,e',FO,t'⟩:=vk.at V9 s2<|Rv.ts k2 _ v1;cases e';refine{λd hd=>?_,λhl=>{O_,FO,by rw[t'.len];exact hl}};obtain⟨v,e1,r⟩:=t'.get hd;refine{⟨O_,v,FO,e1⟩,λx' H' ⟨e2,e3⟩=>?_};subst e2;have:=e3 O_ FO;rw[e1]at this;cases this;exact{r,.refl _,s2},hZ}⟩
def Ud(t:TD):AB:=λσ S R Z=>t σ S (λx S1=>∃ds,(x=.tup ds\/x=.kt ds)/\R {ds,λ_=>True} S1) Z
theorem Pa{H:Hp}{x:D}{ds:List D}{v:V}(h:x=.tup ds\/x=.kt ds)(r:Rv K H x v):∃a xs,v=.ref a/\(∀H',Kp K H H'->gp K H' a xs)/\RvAll K H ds xs:=by rcases h with rfl|rfl;obtain⟨a,xs,rfl,q,t⟩:=r.tup;exact{a,xs,rfl,λH' k=>.of<|k.t _ _ q,t};obtain⟨a,xs,rfl,q,t⟩:=r.kt;exact{a,xs,rfl,λH' k=>.inr q,t}
theorem K1{t:TD}(h:DE K X l t)(hK:autoParam (X.K=K) qQJ):DI K X tg l (Ud t):=by subst hK;exact⟨λy=>(NU (X:=y.cx)<|h.of y).mono <| by rintro τ H R ⟨σ,S,RI,Z,aB,hS,q,hR,hZ⟩;exact{σ,S,_,Z,aB,hS,q,by rintro x S1 v H1 ⟨ds,h1,r1⟩ v1 s1 k1;obtain⟨a,xs,rfl,hq,t⟩:=Pa h1 v1;refine{a,rfl,{xs,hq _<|.refl _},hR _ S1 _ H1 r1 (λi S2 H2 k2 s2 _=>?_) s1 k1};have Q7:=hq H2 k2;refine{λd hd=>?_,λhl=>{xs,Q7,by rw[t.len];exact hl}};obtain⟨v,e1,r⟩:=(RvAll.ts k2 _ t).get hd;refine{⟨xs,v,Q7,e1⟩,λx' H' ⟨e2,e3⟩=>?_};subst e2;have:=e3 xs Q7;rw[e1]at this;cases this;exact{r,.refl _,s2},hZ}⟩
noncomputable def eI(lo:Int)(n:Nat):List D:=(List.range n).map λi=>D.int<|lo+(i:Nat)
theorem cH{lo:Int}{n:Nat} : (eI lo n).length=n:=by unfold eI;rw[zc,List.length_range]
theorem cI{lo:Int}{n i:Nat}{d:D}(h:(eI lo n)[i]?=some d):i<n/\d=.int (lo+i):=by unfold eI at h;rw[zu]at h;by_cases q:i<n;rw[List.getElem?_range q]at h;exact{q,(zV h).symm};rw[List.getElem?_eq_none<|by rw[List.length_range];omega]at h;cases h
theorem Pb{H0:Hp}{lo:Int}{n:Nat} : Uc K H0 (VP lo n) {eI lo n,λ_=>True}:=λi S H k s _=>{λd hd=>by obtain⟨h1,rfl⟩:=cI hd;exact{h1,by rintro x H' ⟨e1,e2⟩;exact by subst e1 e2;exact{aQ _,.refl _,s}},λhl=>by rw[cH]at hl;exact hl}
def Yt(t:iD):AB:=λσ S R Z=>t σ S (λds S1=>∃j:Int,ds=[.int j]/\-(2^62)<=j/\j<2^62/\R {eI 0 j.toNat,λ_=>True} S1) Z
theorem Hj{t:iD}(hm:X.mg "range"= none)(ha:DA K X [a] t)(hg:autoParam (Gl X "range") qQJ)(hs:autoParam (starEach [a] X.env=[(false,eval a X.env)]) qQJ):DI K X tg (.Call (.Name "range" p) [a] [] pos) (Yt t):=⟨λy=>(Ea (X:=y.cx) hg hm (ha.of y) hs).mono <| by rintro τ H R ⟨σ,S,RI,Z,aB,hS,q,hR,hZ⟩;exact{σ,S,_,Z,aB,hS,q,by rintro ds S1 vs H1 ⟨j,e,h1,h2,r1⟩ v1 s1 k1;subst e;obtain⟨v,rfl,r⟩:=v1.one;exact{j,by rw[r.int],h1,h2,hR _ S1 _ H1 r1 Pb s1 k1},hZ}⟩
end
section
variable{K:Frag}{X:Cx}{tg iter:Expr}{pos:Pos}
def Yu(ti:AB)(g:xD)(tb:kF):kF:=λDe σ S Z=>ti σ S (λI S1=>∃P:Nat->SD->ax->Prop,P 0 σ S1/\(∀i σ S,P i σ S->I.ok S)/\(∀i d σ S,I.xs[i]?=some d->P i σ S->g d σ S λCO S2=>tb {De with nx:=P<|i+1,ct:=P<|i+1,bk:=De.nx} CO S2 Z)/\∀σ S,P I.xs.length σ S->De.nx σ S)<|Z σ
theorem BC(hi:DI K X tg iter ti)(hg:DG K X tg g)(hb:xC K X true body tb)(hs:autoParam (∀x,foldedSetIterable iter X.env x=pure x) qQ0)(hc:autoParam (X.calm=true) qQJ):DS K X true (.For tg iter body [] pos) (Yu ti g tb):=
 ⟨λy=>(NV (X:=y.cx) (y.ok.loop rfl) hc (hi.of y) (hg.of _ rfl rfl rfl rfl rfl) (hb.of y) hs).mono <| by rintro D τ H ⟨σ,S,De,Z,aB,hS,q,hD,hZ⟩;exact
  ⟨σ,S,_,_,aB,hS,q,by
   rintro I S1 J H1 ⟨P,p0,Yv,Yw,pend⟩ hJ s1 k1
   refine{λi m τ H=>m=I.xs.length-i/\i<=I.xs.length/\∃σ S,gb K H σ τ/\Rs K S H/\P i σ S/\Kp K H1 H,!{yh _,σ,S1,aB.ts k1,s1,p0,.refl _},?_}
   rintro i m τ2 H2 ⟨rfl,Yx,CO,S2,a2,s2,p2,k2⟩
   have ok:=hJ i S2 H2 k2 s2<|Yv _ _ _ p2
   by_cases j_:i<I.xs.length
   ·obtain⟨go,yl⟩:=ok.1 _ (zh j_)
    refine .inr {go,λQ5 H'=>i+1<=I.xs.length/\∃σ S,gb K H' σ Q5/\Rs K S H'/\P (i+1) σ S/\Kp K H1 H',λaq H' h'=>{_,by omega,rfl,h'},λx H' hy=>?_}
    obtain⟨rx,k3,s3⟩:=yl x H' hy
    refine{_,CO,S2,_,rx,a2.ts k3,s3,Yw i _ CO S2 (zh j_) p2,λV_ S4 τ4 H4 r4 a4 s4 k4=>?_}
    have kk:=(k2.trans k3).trans k4
    exact{V_,S4,_,Z,a4,s4,r4,{λPc S5 Yy H5 r5 a5 s5 k5=>{j_,Pc,S5,a5,s5,r5,kk.trans k5},hD.rt.kp<|k1.trans kk,(hD.nx.kp<|k1.trans kk),λPc S5 Yy H5 r5 a5 s5 k5=>{j_,Pc,S5,a5,s5,r5,kk.trans k5}},hZ.kp<|k1.trans kk}
   ·have e:i=I.xs.length:=by omega
    subst e
    exact .inl {ok.2<|zl _,hD.nx _ _ _ _ (pend _ _ p2) a2 s2<|k1.trans k2},hZ.at aB⟩⟩
end
noncomputable def mq(σ:SD)(src:List<|Option Nat):SD:=src.map λo=>match o with|some j=>(σ[j]?).join|none=>none
theorem gb.pick{K:Frag}{H:Hp}{σ:SD}{τ:St}(h:gb K H σ τ):∀src:List (Option Nat),gb K H (mq σ src) (pick τ src)|[]=>.nil|o::r=>.cons (λd e=>by cases o with|none=>(cases e)|some j=>dsimp only at e⊢;cases q:σ[j]? with|none=>(rw[q]at e;cases e)|some o'=>rw[q]at e;obtain rfl:o'=some d:=e;obtain⟨v,e1,r1⟩:=h.get q;exact{v,by rw[e1];rfl,r1})<|gb.pick h r
def Zf:KX:=λ_ _=>False
def xE(σ:SD)(src:List<|Option Nat)(g:xD)(tc:mj)(te:TD)(R:KD)(I:sY)(S1:ax):Prop:=∃P:Nat->List D->ax->Prop,P 0 [] S1/\(∀i out S,P i out S->I.ok S)/\(∀i d out S,I.xs[i]?=some d->P i out S->out.length<sizeLine/\g d (mq σ src) S λir S3=>tc ir S3 (λb S4=>if b=true then te ir S4 (λv S5=>P (i+1) (out++[v]) S5) Zf else P (i+1) out S4) Zf)/\∀out S2,P I.xs.length out S2->∀p,S2 p=none->R (.ref p) (S2.set p<|.lst out)
def Dd(ti:AB)(src:List<|Option Nat)(g:xD)(tc:mj)(te:TD):TD:=λσ S R Z=>ti σ S (λI S1=>xE σ src g tc te R I S1) Z
theorem ED.f{K:Frag}{H:Hp}{e:XK} : ED K H Zf e:=λ_ _ _ z=>z.elim
theorem T.comp{K:Frag}{E E':St->XK}{ti:AB}{src:List<|Option Nat}{g:TG}{gd:xD}{tc:mj}{te:TD}{τ:St}{H:Hp}{Q:VK}(hg:∀v τ H Q,Tg K gd v τ H Q->g v τ H Q) (h:T K E (Dd ti src gd tc te) τ H Q):GL (Ti K E ti) src g (Tt K E' tc) (T K E' te) τ H Q:=by
 obtain⟨σ,S,R,Z,aB,hS,q,hR,hZ⟩:=h;refine{σ,S,_,Z,aB,hS,q,λI S1 J H1 ⟨P,p0,Yv,Yw,pend⟩ hJ s1 k1=>?_,hZ};refine{λi m out H=>m=I.xs.length-i/\i<=I.xs.length/\∃ds S,RvAll K H ds out/\Rs K S H/\P i ds S/\Kp K H1 H,!{yh _,[],S1,bE,s1,p0,.refl _},?_};rintro i m out H2 ⟨rfl,Yx,ds,S2,v2,s2,p2,k2⟩;have ok:=hJ i S2 H2 k2 s2<|Yv _ _ _ p2;by_cases j_:i<I.xs.length;obtain⟨go,yl⟩:=ok.1 _<|zh j_;obtain⟨hz,st⟩:=Yw i _ ds S2 (zh j_) p2;refine .inr {go,by rw[v2.len];exact hz,λx H' hy=>?_};obtain⟨rx,k3,s3⟩:=yl x H' hy;refine hg _ _ _ _ {_,_,S2,_,rx,(((aB.ts k1).ts k2).ts k3).pick src,s3,st,λV_ S4 τ4 H4 r4 a4 s4 k4=>?_};refine{V_,S4,_,Zf,a4,s4,r4,λc S5 H5 r5 s5 k5=>?_,.f};cases c with|true=>rw[if_pos rfl]at r5⊢;exact{V_,S5,_,Zf,a4.ts k5,s5,r5,λd S6 v H6 r6 v6 s6 k6=>{_,by omega,rfl,j_,ds++[d],S6,(RvAll.ts (((k3.trans k4).trans k5).trans k6) _ v2).app<|aS v6 bE,s6,r6,(((k2.trans k3).trans k4).trans k5).trans k6},.f}|false=>rw[if_neg zd]at r5⊢;exact{_,by omega,rfl,j_,ds,S5,RvAll.ts ((k3.trans k4).trans k5) _ v2,s5,r5,((k2.trans k3).trans k4).trans k5}
 have e:i=I.xs.length:=by omega
 subst e;exact .inl {ok.2<|zl _,λp hp=>(hR.kp<|k1.trans k2).new s2 hp (pend _ _ p2 p) v2}
noncomputable def Ev.none(X:Cx)(h:X.xe=λ_ _=>False):Ev X false:={X.pn,X.xe,λ_=>E0,{by rintro p2 τ H s e s' _ ⟨_,_,_,_,_,_,_,_,_,z⟩;exact z.elim,λe=>(by cases e),λe=>(by cases e)}}
section
variable{K:Frag}{X:Cx}{b:Bool}{N:List Str}{src:List (Option Nat)}{scope:Scope}{tg iter elt:Expr}{ifs:List Expr}{pos:Pos}{ti:AB}{g:TG}{gd:xD}{tc:mj}{te:TD}
structure Wa(K:Frag)(X:Cx)(ifs:List Expr)(t:mj):Prop where
 of:∀{b:Bool}(y:Ev X b),QX y.cx ifs<|Tt K y.E t
def uq:mj:=λ_ S R _=>R true S
theorem ur:Wa K X [] uq:=⟨λy pins s τ H Q I ⟨σ,S,R,Z,aB,hS,q,hR,hZ⟩=>Ke pins s τ H Q I<|hR true S H q hS<|.refl _⟩
theorem if1{t:mj}(h:DT K X c t):Wa K X [c] t:=⟨λy=>Kf<|h.of y⟩
theorem vp(S:bI X N src scope)(hit:DI K X tg iter ti)(hg:∀C s H ex pn,PG (iW X N scope C s H ex pn) tg g)(hx:A4 g src)(Yz:∀v τ H Q,Tg K gd v τ H Q->g v τ H Q) (hi:∀C s H ex pn,Wa K (iW X N scope C s H ex pn) ifs tc) (he:∀C s H ex pn,DE K (iW X N scope C s H ex pn) elt te) (hs:autoParam (∀x,foldedSetIterable iter X.env x=pure x) qQ0) (hc:autoParam (X.calm=true) qQJ):DE K X (.ListComp elt [{tg,iter,ifs,0}] scope pos) (Dd ti src gd tc te):=⟨λy=>(Kh (X:=y.cx) (tc:=Tt K (λ_=>E0) tc) (te:=T K (λ_=>E0) te) ⟨S.kind,S.gH,S.loc,S.Ay,S.len,S.src⟩ hc (hit.of y) hg hx (λC s H ex pn=>(hi C s H ex pn).of<|.none _ rfl) (λC s H ex pn=>(he C s H ex pn).of<|.none _ rfl) hs).mono λ_ _ _ h=>h.comp Yz⟩
theorem Pd(hN:X.N.Nodup)(S:bI X N src scope)(hit:DI K X tg iter ti)(hg:∀C s H ex pn,PG (iW X N scope C s H ex pn) tg g)(hx:A4 g src)(Yz:∀v τ H Q,Tg K gd v τ H Q->g v τ H Q) (hi:∀C s H ex pn,Wa K (iW X N scope C s H ex pn) ifs tc) (he:∀C s H ex pn,DE K (iW X N scope C s H ex pn) elt te) (XD:autoParam (X.N[i]?=some x) qQJ) (qH:autoParam (X.env.scope.names.lookup x=some .local) qQJ) (XF:autoParam (swapsWith (.ListComp elt [{tg,iter,ifs,0}] scope pos) (some<|.Name x pos') Ki.line X.env=pure true) qQJ) (hs:autoParam (∀x,foldedSetIterable iter X.env x=pure x) qQ0) (hc:autoParam (X.calm=true) qQJ):DS K X b (.Assign [.Name x pos'] (.ListComp elt [{tg,iter,ifs,0}] scope pos) Ki) (T5 i<|Dd ti src gd tc te):=⟨λy=>(A6 (X:=y.cx) (i:=i) (tc:=Tt K (λ_=>E0) tc) (te:=T K (λ_=>E0) te) hN XD qH ⟨S.kind,S.gH,S.loc,S.Ay,S.len,S.src⟩ hc (hit.of y) hg hx (λC s H ex pn=>(hi C s H ex pn).of<|.none _ rfl) (λC s H ex pn=>(he C s H ex pn).of<|.none _ rfl) XF hs).mono <| by rintro D τ H ⟨σ,S,De,Z,aB,hS,q,hD,hZ⟩;exact T.comp Yz {σ,S,_,_,aB,hS,q,λd S1 v H1 r1 v1 s1 k1=>hD.nx _ _ _ _ r1 ((aB.ts k1).set i v1) s1 k1,hZ.at aB}⟩
theorem aX:∀v τ H Q,Tg K (V8 i) v τ H Q->iV i v τ H Q:=by rintro v τ H Q ⟨d,σ,S,R,rv,aB,hS,q,hR⟩;exact hR _ S _ H q (aB.set i rv) hS<|.refl _
end
structure nG(K:Frag)(x qual:Str)(st:Stmt)(f:Addr)(fd:FuncData):Prop where
 ex:∃(oc:Value)(od:Option Addr)(dV kV doc pm:Value)(an:Option Addr)(eV ct:Value)(Mt:Array (Option Value)),
  fd=fnOf x qual (bw st) (aV st) (ae st) dV kV doc pm an eV ct/\K.lookup f=some {oc,od,.func fd,Mt}/\codeIn K eV qual=true
noncomputable def eJ(N:List Str)(ds:List D):SD:=ds.map some++List.replicate (N.length-ds.length) none
section
variable{P:Program}{w:World}{K:Frag}{mg:Str->Option Value}{base:Heap}
theorem nG.okD{x qual:Str}{st:Stmt}{f:Addr}{fd:FuncData}{N ps:List Str}{k:Nat}{sp:gY}(F:nG K x qual st f fd)(S:eR N ps<|ae st)(len:∀ds S R Z,sp ds S R Z->ds.length=ps.length) (gT:∀(eV:Value)(A:Around)(outer:List Env)(s:Shared)(H:Hp)(E:XK)(ds:List D)(S:ax)(R:KD)(Z:KX),bB k (A.deeper<|envOfC qual (ae st) s.heap.objs.size f eV)->sp ds S R Z->∃t,xC K (iz (fj P w mg) P w K mg base N qual (ae st) f eV A outer s H E) true (aV st) t/\t {nx:=λ_ S'=>R .av S',rt:=R} (eJ N ds) S λ_=>Z):bK P w K mg base (fj P w mg) (k+1) f fd ps (qW K sp):=by
 obtain⟨oc,od,dV,kV,doc,pm,an,eV,ct,Mt,rfl,lk,pW⟩:=F.ex;have eE:ps.length<=N.length:=by have:=congrArg List.length S.pre;rw[yf]at this;lia
 refine Ms lk pW S (by rintro vs H Q E ⟨ds,S',R,Z,v,_,h,_⟩;exact by rw[v.len];exact len _ _ _ _ h) λA outer s H vs Q E hr ⟨ds,S',R,Z,v,hS,h,hR,hZ⟩=>?_;obtain⟨t,ht,q⟩:=gT eV A outer s H E ds S' R Z hr h;have L:dj (iz (fj P w mg) P w K mg base N qual (ae st) f eV A outer s H E) E:=uh;let y:Ev (iz (fj P w mg) P w K mg base N qual (ae st) f eV A outer s H E) true:={_,(iz (fj P w mg) P w K mg base N qual (ae st) f eV A outer s H E).xe,λ_=>E,{λp2 τ H1 s1 e s' I h=>Mz L p2 τ H1 s1 e s' I h,λ_ p2 τ H1 s1 h' a cls args I hx he=>oJ L I hx he,λ_=>PassesOwn.leaving}};refine{Tl K (λ_=>E) t,ht.of y,eJ N ds,S',_,λ_=>Z,?_,hS,q,{λσ S1 τ H1 r a b c=>hR.kp c |>.now b r iA,hR,λ_ _ _ _ z=>z.elim,λ_ _ _ _ z=>z.elim},λσ τ C S1 H1 z a b c=>hZ C S1 H1 z b c};unfold eJ start;refine(mi v).app ?_;rw[v.len];exact mh _ _<|by rw[yi]
theorem bK.Ue(F:bK P w K mg base (fj P w mg) k f fd ps<|qW K sp)(h:∀ds S R Z,VS ds S R Z->sp ds S R Z):bK P w K mg base (fj P w mg) k f fd ps (qW K VS):=F.imp <| by rintro vs H Q E ⟨ds,S,R,Z,a,b,c,d⟩;exact{ds,S,R,Z,a,b,h _ _ _ _ c,d}
theorem bK.calm(F:bK P w K mg base (fj P w mg) k f fd ps sp):bK P w K mg base VW k f fd ps λvs H Q _=>sp vs H Q E0:=by refine{λvs H Q E h=>F.len vs H Q E0 h,λA outer s H args us vs Q E hr e0 hb r h=>yO (F.run A outer s H args us vs Q E0 hr e0 hb r h) λres s' q=>?_};cases res with|error e=>(obtain⟨_,_,_,_,_,_,_,_,_,z⟩:=q;exact z.elim)|ok fl=>cases fl<;>exact q
end
section
variable{K:Frag}{X:Cx}{b:Bool}{i:Nat}{n x:Str}{C0:Addr}{body xn:List Stmt}{GS:Stmt}{np Eu pos:Pos}
theorem Pe{t:kF}(h:xC K X false body t):SO X body (λE=>Tl K E t):=by intro pins s σ H D E I q;let y:Ev X false:={X.pn++pins,XE X pins E,E,{λp2 τ H1 s1 e s' I1 hq=>{τ,H1,s1,{⟨I1.ok.mod,I1.ok.kind,I1.ok.glob,I1.ok.blt,I1.ok.above,I1.ok.inj,I1.ok.has,I1.ok.Mi,I1.ok.hd,I1.ok.frames,I1.ok.NA,I1.ok.RE,I1.ok.bs,I1.ok.AG,I1.ok.wY,I1.ok.AH,I1.ok.ja,I1.ok.D8⟩,I1.os,I1.bare,I1.base,I1.loc,I1.cell,I1.free,I1.du,λp hp=>I1.pin p<|zU _ hp,I1.aH,I1.len},hq},λe=>(by cases e),λe=>(by cases e)}};have back:∀{aq:St}{H':Hp}{s':Shared},Inv y.cx [] aq H' s'->Inv X pins aq H' s':=λI1=>{⟨I1.ok.mod,I1.ok.kind,I1.ok.glob,I1.ok.blt,I1.ok.above,I1.ok.inj,I1.ok.has,I1.ok.Mi,I1.ok.hd,I1.ok.frames,I1.ok.NA,I1.ok.RE,I1.ok.bs,I1.ok.AG,I1.ok.wY,I1.ok.AH,I1.ok.ja,I1.ok.D8⟩,I1.os,I1.bare,I1.base,I1.loc,I1.cell,I1.free,I1.du,λp hp=>I1.pin p<|zU _ hp,I1.aH,I1.len};have I0:Inv y.cx [] σ H s:={⟨I.ok.mod,I.ok.kind,I.ok.glob,I.ok.blt,I.ok.above,I.ok.inj,I.ok.has,I.ok.Mi,I.ok.hd,I.ok.frames,I.ok.NA,I.ok.RE,I.ok.bs,I.ok.AG,I.ok.wY,I.ok.AH,I.ok.ja,I.ok.D8⟩,I.os,I.bare,I.base,I.loc,I.cell,I.free,I.du,λp hp=>I.pin p<|by rw[ye]at hp;exact hp,I.aH,I.len};refine yq (h.of y [] s σ H D I0 q) (λf s' r=>?_) λ_ _ r=>r;cases f with|next=>(obtain⟨aq,H',I',q⟩:=r;exact{aq,H',back I',q})|brk=>(obtain⟨aq,H',I',q⟩:=r;exact{aq,H',back I',q})|cont=>(obtain⟨aq,H',I',q⟩:=r;exact{aq,H',back I',q})|ret u=>obtain⟨v,aq,H',I',r1,q⟩:=r;exact{v,aq,H',back I',r1,q}
noncomputable def uo.less(De:uo)(i:Nat):uo:={nx:=λσ S=>De.nx (σ.set i none) S,rt:=De.rt,bk:=λσ S=>De.bk (σ.set i none) S,ct:=λσ S=>De.ct (σ.set i none) S}
def YA(K:Frag)(i:Nat)(C0:Addr)(tb ts:kF):kF:=λDe σ S _=>tb De σ S λaq C S'=>mroIn K C (.ref C0)=some true/\∀a,S' a=none->ts (De.less i) (aq.set i<|some<|.ref a) (S'.set a<|.exc C) λ_=>Zf
theorem YB{tb ts:kF}(hN:X.N.Nodup)(hm:X.mg x=some (.ref C0))(c0:XC K C0)(hb:xC K X false body tb)(hs:∀a,xC K (X.jq a) false (GS::xn) ts) (hi:autoParam (X.N[i]?=some n) qQJ) (hx:autoParam (X.env.scope.names.lookup n=some .local) qQJ) (XO:autoParam (Gl X x) qQJ) (jb:autoParam ((x==("__debug__": Str))=false) qQZ) (lS:autoParam (X.stack=X.env::X.outer) qQJ) (fr:autoParam (X.env.frame=some X.env.locals) qQJ) (hK:autoParam (X.K=K) qQJ): DS K X b (.Try body [.ExceptHandler (some<|.Name x np) (some n) (GS::xn) Eu] [] [] pos) (YA K i C0 tb ts):=by subst hK;refine⟨λy=>(OP (X:=y.cx) (ts:=Tl X.K (λ_=>E0) ts) lS fr hN hi hx XO hm c0 (Pe (X:=y.cx) (K:=X.K) (t:=tb) ⟨λz=>hb.of ⟨z.pn,z.xe,z.E,z.ok⟩⟩) (λa=>(hs a).of {y.pn,λ_ _=>False,λ_=>E0,{λp2 τ H s e s' _ ⟨_,_,_,_,_,_,_,_,_,z⟩=>z.elim,λe=>(by cases e),λe=>(by cases e)}}) jb).mono λD τ H ⟨σ,S,De,Z,aB,hS,q,hD,hZ⟩=>?_⟩;refine{σ,S,De,_,aB,hS,q,hD,λuP V7 C S1 H1 ⟨m1,r1⟩ a1 s1 k1=>{C,rfl,m1,λa ha=>?_}};have kn:Kp X.K H1 (upd H1 a<|sS a<|.ref C):=.new ha;have kk:=k1.trans kn;have un:∀{Km:SD}{Ug:St}{H8:Hp},gb X.K H8 Km Ug->gb X.K H8 (Km.set i none) (Ug.set i none):=λr=>r.unset i none;exact{_,_,De.less i,λ_=>Zf,(a1.ts kn).set i<|dG a,s1.new (c:=.exc C) ha aD,r1 a<|s1.fresh ha,{λKm S8 Ug H8 r8 a8 s8 k8=>hD.nx _ _ _ _ r8 (un a8) s8<|kk.trans k8,hD.rt.kp kk,λKm S8 Ug H8 r8 a8 s8 k8=>hD.bk _ _ _ _ r8 (un a8) s8<|kk.trans k8,λKm S8 Ug H8 r8 a8 s8 k8=>hD.ct _ _ _ _ r8 (un a8) s8<|kk.trans k8},λ_ _ _ _ _ z=>z.elim}
end
section
variable{K:Frag}{X:Cx}{x:Str}{id:String}{e:Expr}{es:List Expr}{p pos:Pos}{t:iD}{r:List D->ax->KD->Prop}
def MN(K:Frag)(f:Value)(r:List D->ax->KD->Prop):Prop:=∀X:Cx,X.K=K->dw X f (Lc K r)
theorem Uh(hc:MN K (.builtin id) r)(hm:X.mg x=none)(hv:bootBuiltins x=some (.builtin id))(ha:DA K X (e::es) t)(hg:autoParam (Gl X x) qQJ) (hn:autoParam (x≠"__name__") qQZ) (jb:autoParam ((x==("__debug__": Str))=false) qQZ) (he:autoParam (starEach (e::es) X.env=(false,eval e X.env)::starEach es X.env) qQJ) (eE:autoParam ((backTo pos<|starEach es X.env).any (·.1)=false) qQJ) (hK:autoParam (X.K=K) qQJ): DE K X (.Call (.Name x p) (e::es) [] pos) (Tr r t):=⟨λy=>(qA (X:=y.cx) (hc _ hK) hg hm hv (ha.of y) hn jb he eE).mono λ_ _ _ h=>h.cb⟩
def YC(K:Frag):List D->ax->KD->Prop:=λds S R=>∃a C c b,ds=[.ref a,c]/\S a=some (.exc C)/\XC K C/\XA K C/\((∃Cd,c=.ref Cd/\kitOne K (.ref C) (.ref Cd)=some b)\/(∃n,c=.ty n/\kitOne K (.ref C) (.type n)=some b)\/∃as:List Addr,c=.tup (as.map D.ref)/\kitAny K (.ref C) (as.map Value.ref)=some b)/\R (.bl b) S
theorem RvAll.refs:∀{as:List Addr}{xs:List V},RvAll K H (as.map D.ref) xs->xs=as.map V.ref|[],xs,h=>h.nil|b::bs,xs,h=>by obtain⟨y,ys,rfl,h1,h2⟩:=h.cons;rw[h1.ref,h2.refs];rfl
theorem uu:∀{as:List Addr}{au:List Value},Vals (as.map V.ref) au->au=as.map Value.ref|[],_,.nil=>rfl|_::_,_,.cons r t=>by rw[uu t];cases r;rfl
theorem xG:MN K (.builtin "isinstance") (YC K):=by rintro X hK pins s σ H xs us Q I rx ⟨ds,S,R,r,hS,⟨a,C,c,b,e,h1,h2,h3,h4,h⟩,hR⟩;subst hK e;obtain⟨v,u,rfl,r1,r2⟩:=r.two;have ha:H a=some (sS a<|.ref C):=hS a _ h1;rcases h4 with⟨Cd,rfl,h4⟩|⟨n,rfl,h4⟩|⟨as,rfl,h4⟩;exact kR rfl pins s σ H _ us Q I rx {a,C,.ref Cd,.ref Cd,b,by rw[r1.ref,r2.ref],ha,h2,h3,rfl,λu' e=>e,h4,hR.now hS h<|bS _};exact kR rfl pins s σ H _ us Q I rx {a,C,.ty n,.type n,b,by rw[r1.ref,r2.ty],ha,h2,h3,rfl,λu' e=>e,h4,hR.now hS h<|bS _};obtain⟨p,zs,rfl,q,t⟩:=r2.tup;rw[t.refs]at q;exact sX rfl pins s σ H _ us Q I rx {a,C,p,_,b,by rw[r1.ref],ha,h2,h3,q,λau hv=>by rw[uu hv];exact h4,hR.now hS h<|bS _}
end
theorem uv{P:Program}{w:World} : ∀{ss:List Str}{vs:List Value},vs.length=ss.length->(∀(j:Nat)(v:Value),vs[j]?=some v->∃x,ss[j]?=some x/\keyIs (.inr x) v=true)->StrsAre vs ss|[],[],_,_=>.nil|[],_::_,h,_=>by simp at h|_::_,[],h,_=>by simp at h|x::ss,v::vs,h,k=>by obtain⟨x',e,q⟩:=k 0 v rfl;cases e;rcases bA q with⟨i,t,e,_⟩|⟨y,t,e,rfl⟩;cases e;cases e;exact .cons x t<|uv (P:=P) (w:=w) (by simpa using h) λj v e=>k (j+1) v<|by simpa using e
theorem uw:∀{vs:List Value}{ss:List Str},StrsAre vs ss->Vals (ss.map V.str) vs|_,_,.nil=>.nil|_,_,.cons y t h=>.cons ⟨t,rfl⟩<|uw h
theorem KV.YD{κ:Type}{kvs:List<|κ×V}{vs:List<|κ×Value}(h:KV kvs vs):vs.map (·.1)=kvs.map (·.1):=by unfold KV at h;induction h with|nil=>rfl|cons r t ih=>rw[zQ,zQ,ih,r.1]
theorem Hk{prog:Program}{w:World}{A:Around}{E:Value->Shared->Prop}{s:Shared}{T:String}{r d:Addr}{n:Nat}{P:Nat->Value->Prop}{OK:Heap->Prop}{R:List Value->Shared->Prop}(K:PySem.W.KdlSrc prog w T r d n P OK)(hh:A.handled=none)(aH:OK s.heap)(hn:n<=sizeLine) (h:∀(h':Heap) (tk:Nat) (acc:Array Value),(∀b o,s.heap.get? b=some o->h'.get? b=some o)->s.heap.objs.size<=h'.objs.size->ItemsOf P acc n->R acc.toList {s with heap:=h',toks:=tk}): wpAny (model prog w) A (collect<|.ref r) R E s:=by have j_:=K.there _ aH;unfold collect;refine za<|wpAny_runValue<|yJ entry_proto_collect' ?_;rw[Around.under_plainId PySem.F.plain_proto_collect _];show wpAny _ A.in1 (newList [] >>=λl=>again<|.builtin "list.__iadd__" {[l,.ref r],[]}) _ _ s;refine za<|ym ?_;refine zf {plainId_quiet PySem.F.plain_list_iadd _,yJ entry_list_iadd' ?_};rw[Around.under_plainId PySem.F.plain_list_iadd _];have Ui:(s.heap.push {cls:=.type "list",data:=.seq ([]:List Value).toArray}).get? s.heap.objs.size=some {cls:=.type "list",data:=.seq #[]}:=zi _ rfl;show wpAny _ A.in1 (Builtin.List.listExtendWith (.ref s.heap.objs.size) (.ref r)<|.ref s.heap.objs.size) _ _ _;have key:=PySem.W.kdl_extend (A:=A) (s:={s with heap:=s.heap.push {cls:=.type "list",data:=.seq ([]:List Value).toArray}}) (R:=λ(q:Result) (s':Shared)=>∃(h':Heap) (tk:Nat) (xH:Array Value) (c':Nat),q=.ok (.ret<|.ref s.heap.objs.size)/\s'={s with heap:=h',toks:=tk}/\(∀b o,s.heap.get? b=some o->h'.get? b=some o)/\h'.get? s.heap.objs.size=some {cls:=.type "list",dict:=none,data:=.seq xH c',slots:=#[]}/\ItemsOf P xH n) K hh (K.keep _ _ aH λb _ o e=>zb _ e) s.heap.objs.size (yr j_.1) (yr j_.2) (.ref s.heap.objs.size) 0 Ui (λh' tk xH c' hk p8 qG=>{h',tk,xH,c',rfl,rfl,λb o e=>hk b o (zx<|zq e)<|zb _ e,p8,qG}) hn;refine yq key (λfin s' x=>?_) λe s' x=>?_;{cases fin with|done f=>(obtain⟨h',tk,xH,c',e,rfl,hk,p8,qG⟩:=x;cases e;show wpAny _ A (load s.heap.objs.size >>=_) _ _ _;exact za<|wpAny_load p8<|zf<|h h' tk xH hk (yM<|zq p8) qG)|again c₁=>refine{x.1,yO x.2 λq bT y=>?_};obtain⟨h',tk,xH,c',rfl,rfl,hk,p8,qG⟩:=y;show wpAny _ A (load s.heap.objs.size >>=_) _ _ _;exact za<|wpAny_load p8<|zf<|h h' tk xH hk (yM<|zq p8) qG};obtain⟨_,_,_,_,e',_⟩:=x;cases e'
theorem vq{X:Cx}(hc:X.calm=true):dw X (.builtin "sorted") (λxs H Q=>∃(a:Addr)(kvs:List (Key×V))(ss:List Str),xs=[.ref a]/\H a=some (.dK kvs)/\kvs.map (·.1)=ss.map Sum.inr/\kvs.length<64/\∀Df,Df.Perm ss->sortedS Df=true->∀l,H l=none->Q (.ref l) (upd H l<|.lst<|Df.map V.str)):=by
 intro pins s σ H xs us Q I r h;obtain⟨a,kvs,ss,rfl,e,hk,hl,q⟩:=h;obtain⟨u,rfl,ru⟩:=vals1 r;cases ru;obtain⟨z,hd,vs,rel,dd⟩:=C4 I.aH e;obtain⟨ep,Wb⟩:=dd.dictAt;have hlen:vs.length<64:=by rw[<-rel.length];exact hl
 have hh:=I.ok.hd hc;refine PySem.Calls.call_function_entry kind_sorted plain_sorted entry_sorted (args_sorted1 _) ?_;unfold Builtin.«sorted»;refine za (m:=checkCount "sorted" 1 1 _)<|zf ?_;refine za<|Hk (A:=X.A.in1) (PySem.W.kdl_dict (knd:=aG X.prog X.w) (kvs:=vs) (ep:=ep) hd) hh Wb (by rw[zZ];omega) λh' tk acc hkp hB qG=>?_;have Gz:acc.toList.length=vs.length:=by rw[yn];exact qG.1
 refine za<|wpAny_newList ?_ (by rw[Gz,zZ];omega);have hS:StrsAre acc.toList ss:=by have hkv:=rel.YD;refine uv (P:=X.prog) (w:=X.w) (by rw[Gz,<-rel.length];have:=congrArg List.length hk;simpa using this) λj v ev=>?_;obtain⟨k,x,e1,e2⟩:=qG.2 j v (by rw[<-Array.getElem?_toList];exact ev);have e3:(vs.map (·.1))[j]?=some k:=(by rw[zu,e1];rfl);rw[hkv,hk,zu]at e3;cases q2:ss[j]? with|none=>(rw[q2]at e3;cases e3)|some y=>rw[q2]at e3;cases e3;exact⟨y,rfl,e2⟩
 have FH:(h'.push<|seqObj "list" acc.toList.toArray 0).get? h'.objs.size=some (seqObj "list" acc.toList.toArray 0):=zi _ rfl;show wpAny _ _ _ _ _ {s with heap:=h'.push<|seqObj "list" acc.toList.toArray 0,toks:=tk};refine za<|yg<|yA slot_list_sort {_,FH,rfl} entry_list_sort (list_sort_treeK (s:={s with heap:=h'.push<|seqObj "list" acc.toList.toArray 0,toks:=tk}) strKind_oneLt FH hS.keysOf (λnH nI rest e=>keyKind_strs<|by rw[<-e];exact hS) (by rw[Gz];exact hlen) λfb hp hs=>!⟨?_⟩)<|args_list_sort _;refine zf !⟨?_⟩;obtain⟨Df,h1,h2,h3⟩:=sorted_out_str hS hp hs;obtain⟨e1,he1⟩:=sortedHeap_at (vs:=acc.toList) (n:=0) (out:=(arrOf fb).map (·.2)) FH;have Uj:Df.length<=sizeLine:=by rw[h2.length_eq,zZ];have:=congrArg List.length hk;rw[zc,zc]at this;omega
 refine{.ref h'.objs.size,_,I.laid (a:=h'.objs.size) (o:=.lst<|Df.map V.str) (λb u hb=>?_) hB {by rw[zc];exact Uj,_,e1,uw h1,he1},rfl,q Df h2 h3 _<|I.aH.fresh hB};have j_:=zq<|hkp b u hb;rw[sortedHeap_old (zx j_)<|by rw[yd];exact Nat.lt_succ_of_lt j_,zb _<|hkp b u hb]
section
variable{K:Frag}
def K2:List D->ax->KD->Prop:=λds S R=>∃(a:Addr)(kvs:List (Key×D))(ss:List Str),ds=[.ref a]/\S a=some (.cB kvs)/\kvs.map (·.1)=ss.map Sum.inr/\kvs.length<64/\∀Df,Df.Perm ss->sortedS Df=true->∀p,S p=none->R (.ref p) (S.set p<|.lst<|Df.map D.str)
theorem bZ.keys{κ:Type}{H:Hp}{ks:List<|κ×D}{vs:List<|κ×V}(h:bZ K H ks vs):vs.map (·.1)=ks.map (·.1):=by unfold bZ at h;induction h with|nil=>rfl|cons r t ih=>rw[zQ,zQ,ih,r.1]
theorem xI:gX K (.builtin "sorted") K2:=by rintro X hK hc pins s σ H xs us Q I rx ⟨ds,S,R,r,hS,⟨a,kvs,ss,e,e1,hk,hl,h⟩,hR⟩;subst e;obtain⟨v,rfl,r1⟩:=r.one;obtain⟨vs,e2,t⟩:=hS.cB e1;exact vq hc pins s σ H _ us Q I rx {a,vs,ss,by rw[r1.ref],e2,by rw[t.keys];exact hk,by rw[t.len];exact hl,λDf p1 p2 l hl=>hR.new hS hl (h Df p1 p2 l)<|vj Df}
end
def MO(K:Frag)(a:Addr)(n:Nat):It:={λi H=>∃xs x,ji K H a xs/\xs.length=n/\i<n/\xs[n-1-i]?=some x,λi H x H'=>H'=H/\∀xs,ji K H a xs->xs.length=n->xs[n-1-i]?=some x,λi _=>n<=i}
theorem Hl{P:Program}{w:World}{K:Frag}{tg:Expr}(a it:Addr)(n:Nat):Turn P w K tg (MO K a n) [it] it (λi h=>i<=n/\h.IsRevIter it a ((n:Int)-1-(i:Int))) where
 mem:=by simp
 obj:=λi h st b hb=>by
  have e:b=it:=by simpa using hb
  subst e
  obtain⟨_,o,e,c,d⟩:=st
  exact{o,e,λv z=>by rw[d]at z;cases z}
 keep:=λi h h' st k=>{st.1,st.2.at λo e=>k it (by simp) o e}
 item:=by
  intro X hP hw hK hc i pins s σ H E I hf st hg
  subst hP hw hK
  obtain⟨xs,x,hq,hn,hi,hx⟩:=hg
  obtain⟨au,rv,p,hz⟩:=I.list hq
  obtain⟨u,hu,ru⟩:=rv.get hx
  obtain⟨f0,f1,f2,f3,f4,f5⟩:=hf it<|by simp
  have e:(n:Int)-1-(i:Int)=((n-1-i:Nat):Int):=by lia
  have hit:=st.2
  rw[e]at hit
  refine wpAny_pyNext_rev_item hit p.isList (x:=u) (by simpa using hu) λh' fb sb=>?_
  have I1:Inv X pins σ H {s with heap:=h'}:=I.turned (t':=s.toks) (λb o hb e=>(sb.2 b hb).trans e) f0 f1 f3 f4 f5
  obtain⟨o,e1,c,d⟩:=id fb
  refine{u,rfl,tW (s:={s with heap:=h'}) e1 c d (by decide) {x,H,I1,ru,{rfl,λys hy _=>by rw[I.wZ hy hq];exact hx},{hi,?_},λb hb=>(hf b hb).1}}
  have e2:(n:Int)-1-((i+1:Nat):Int)=((n-1-i:Nat):Int)-1:=by lia
  rw[e2];exact fb
 done:=by
  intro X hP hw hK hc i pins s σ H E I hf st hg
  subst hP hw hK
  obtain⟨f0,f1,f2,f3,f4,f5⟩:=hf it<|by simp
  have hg:n<=i:=hg
  have e:(n:Int)-1-(i:Int) = -1:=by have:=st.1;lia
  have hit:=st.2
  rw[e]at hit
  exact wpAny_pyNext_rev_end (I.ok.hd hc) hit λh' eb=>{rfl,I.turned (t':=s.toks) (λb o hb e=>eb b o hb e) f0 f1 f3 f4 f5}
 self:=λ_ _ _ _ _ st h=>wpAny_pyIter_revIter st.2 h
def YE(K:Frag)(ta:TA):TI:=λσ H R=>ta σ H λvs H1=>∃a xs,vs=[.ref a]/\ji K H1 a xs/\R (MO K a xs.length) H1
theorem Pf{X:Cx}{tg a:Expr}{ta:TA}{p pos:Pos}(hg:Gl X "reversed")(hm:X.mg "reversed"= none)(ha:PA X [a] ta)(hs:starEach [a] X.env=[(false,eval a X.env)]):PI X tg (.Call (.Name "reversed" p) [a] [] pos) (YE X.K ta):=by
 intro pins s σ H R I h;refine Call_<|gF I hg hm boot_reversed<|PyProof.Rows.callWith_type1 (bu (ha pos pins s σ H _ I h) λus s1 ⟨vs,H1,I1,r1,q1⟩=>?_) hs rfl;obtain⟨l,xs,e,q,hR⟩:=q1;subst e;obtain⟨u,rfl,ru⟩:=vals1 r1;cases ru;obtain⟨au,rv,pl,hz⟩:=I1.list q;have hn:au.toArray.size=xs.length:=by rw[zk,rv.length]
 refine call_reversed_list pl.isList ?_;rw[hn];have st:(s1.heap.push<|revObj l<|(xs.length:Int)-1).IsRevIter s1.heap.objs.size l ((xs.length:Int)-1-((0:Nat):Int)):={_,zi _ rfl,rfl,by show Data.fields _=Data.fields _;simp};have I2:Inv X pins σ H1 {s1 with heap:=s1.heap.push<|revObj l<|(xs.length:Int)-1}:=I1.kept (t':=s1.toks) λb o e=>zb _ e;refine wpAny_pyIter_revIter st {_,_,_,_,H1,rfl,I2,Hl l s1.heap.objs.size xs.length,{yh _,st},λb hb=>?_,hR};have hb:b=s1.heap.objs.size:=by simpa using hb
 subst hb;exact I1.pA (zl _)<|I1.aH.fresh<|zl _
section
variable{K:Frag}{X:Cx}{tg:Expr}
def Uk(t:iD):AB:=λσ S R Z=>t σ S (λds S1=>∃x es,ds=[x]/\vk S1 x es/\R {es.reverse,λS=>vk S x es} S1) Z
theorem irv{t:iD}(hm:X.mg "reversed"= none)(ha:DA K X [a] t)(hg:autoParam (Gl X "reversed") qQJ)(hs:autoParam (starEach [a] X.env=[(false,eval a X.env)]) qQJ)(hK:autoParam (X.K=K) qQJ):DI K X tg (.Call (.Name "reversed" p) [a] [] pos) (Uk t):=by subst hK;exact⟨λy=>(Pf (X:=y.cx) hg hm (ha.of y) hs).mono <| by rintro τ H R ⟨σ,S,RI,Z,aB,hS,q,hR,hZ⟩;exact{σ,S,_,Z,aB,hS,q,by rintro ds S1 vs H1 ⟨x,es,e,h1,r1⟩ v1 s1 k1;subst e;obtain⟨v,rfl,r⟩:=v1.one;obtain⟨a,xs,rfl,hq,t⟩:=h1.at s1 r;refine{a,xs,rfl,hq,hR _ S1 _ H1 r1 (λi S2 H2 k2 s2 V9=>?_) s1 k1};obtain⟨a',O_,e',FO,t'⟩:=vk.at V9 s2<|Rv.ts k2 _ r;cases e';have hl:xs.length=es.length:=t.len;have hl':O_.length=es.length:=t'.len;refine{λd hd=>?_,λh=>by rw[List.length_reverse]at h;show xs.length<=i;lia};have hi:i<es.length:=(by have:=(zt.mp hd).1;rwa [List.length_reverse]at this);rw[List.getElem?_reverse hi]at hd;obtain⟨v,e1,r⟩:=t'.get hd;rw[<-hl]at e1;refine{{O_,v,FO,by lia,by lia,e1},λx' H' ⟨e2,e3⟩=>?_};subst e2;have:=e3 O_ FO (by lia);rw[e1]at this;cases this;exact{r,.refl _,s2},hZ}⟩
noncomputable def cJ(xs ys:List D):List D:=List.zipWith (λa b=>D.tup [a,b]) xs ys
def Ul(t:iD):AB:=λσ S R Z=>t σ S (λds S1=>∃xs ys,ds=[.tup xs,.tup ys]/\xs.length=ys.length/\R {cJ xs ys,λ_=>True} S1) Z
theorem vt:∀v τ H Q,Tg K (MM 2<|BA (V8 i)<|BA (V8 j) ML) v τ H Q->JQ K 2 (qq (iV i)<|qq (iV j) JP) v τ H Q:=by rintro v τ H Q ⟨d,σ,S,R,rv,aB,hS,⟨ds,e,hl,a,r,e1,b,r',e2,e3,q⟩,hR⟩;subst e e1 e2 e3;obtain⟨p,xs,rfl,hp,t⟩:=rv.tup;obtain⟨v1,v2,rfl,r1,r2⟩:=t.two;exact{p,_,rfl,.of hp,rfl,v1,[v2],rfl,v2,[],rfl,rfl,hR _ S _ H q ((aB.set i r1).set j r2) hS<|.refl _}
end
section
variable{K:Frag}{X:Cx}{b:Bool}{pos:Pos}
def Um(tl ti tv:TD):kF:=λDe σ S Z=>tv σ S (λv S1=>tl σ S1 (λx S2=>ti σ S2 (λy S3=>∃a es i j,x=.ref a/\y=.int i/\S3 a=some (.lst es)/\Gq es.length i=some j/\De.nx σ (S3.set a<|.lst<|es.set j v))<|Z σ)<|Z σ)<|Z σ
theorem sls{o i value:Expr}{tl ti tv:TD}{pos':Pos}(ho:DE K X o tl)(hi:DE K X i ti)(hv:DE K X value tv)
  (ha:autoParam (∀v,assign (.Subscript o i pos') X.env v=(do
   let ov <-holding [v] (eval o X.env)
   let iv <-holding [v,ov] (eval i X.env)
   standAt pos'
   holding [v,ov,iv] (setItem ov iv v)
   release [v,ov,iv] [])) qQ0)
  (hs:autoParam (swapsWithSole [.Subscript o i pos'] value pos.line X.env=pure false) qQJ) (hw:autoParam (swappedStores [.Subscript o i pos'] value X.env=pure none) qQJ) (h1:autoParam ((assignEach [.Subscript o i pos'] X.env).map (·.2)=[assign (.Subscript o i pos') X.env]) qQJ):
  DS K X b (.Assign [.Subscript o i pos'] value pos) (Um tl ti tv):=
 ⟨λy=>(F8 (X:=y.cx) (hv.of y) (NO (ho.of y) (hi.of y) set_list ha) hs hw h1).mono <| by rintro D τ H ⟨σ,S,De,Z,aB,hS,q,hD,hZ⟩;exact
  ⟨σ,S,_,_,aB,hS,q,λv S1 vv H1 r1 v1 s1 k1=>⟨σ,S1,_,_,aB.ts k1,s1,r1,λx S2 xv H2 r2 v2 s2 k2=>⟨σ,S2,_,_,aB.ts<|k1.trans k2,s2,r2,by
   rintro y S3 yv H3 ⟨a,es,i,j,e1,e2,e3,e4,r3⟩ v3 s3 k3
   subst e1 e2
   obtain⟨xs,e5,t⟩:=s3.lst e3
   have kk:=s3.iC (o:=.lst<|xs.set j vv) e3
   refine{a,xs,i,j,(Rv.ts k3 _ v2).ref,v3.int,e5,by rw[t.len];exact e4,?_}
   exact hD.nx _ _ _ _ r3 (aB.ts<|((k1.trans k2).trans k3).trans kk) (s3.put (c:=.lst _) e3 {_,aD,RvAll.ts kk _<|t.set j<|Rv.ts (k2.trans k3) _ v1})<|((k1.trans k2).trans k3).trans kk,hZ.on (k1.trans k2)<|aB.ts<|k1.trans k2⟩,hZ.on k1<|aB.ts k1⟩,hZ.at aB⟩⟩
noncomputable def fI(z:Str):List D:=z.cps.toList.map λc=>D.str ⟨#[c]⟩
def MP(t:TD):AB:=λσ S R Z=>t σ S (λx S1=>∃z,x=.str z/\R {fI z,λ_=>True} S1) Z
theorem Pg{t:TD}(h:DE K X l t):DI K X tg l (MP t):=⟨λy=>(OB (X:=y.cx)<|h.of y).mono <| by rintro τ H R ⟨σ,S,RI,Z,aB,hS,q,hR,hZ⟩;exact⟨σ,S,_,Z,aB,hS,q,by
 rintro x S1 v H1 ⟨z,e,r1⟩ v1 s1 k1;subst e;refine{z,v1.str,hR _ S1 _ H1 r1 (λi S2 H2 k2 s2 _=>{λd hd=>?_,λhl=>?_}) s1 k1};unfold fI at hd;rw[zu,Array.getElem?_toList]at hd;cases q:z.cps[i]? with|none=>(rw[q]at hd;cases hd)|some c=>rw[q]at hd;cases hd;refine{(Array.getElem?_eq_some_iff.mp q).1,λx' H' ⟨e1,c',e2,e3⟩=>?_};rw[q]at e2;cases e2;subst e1 e3;exact{jr _,.refl _,s2}
 unfold fI at hl;rw[zc,yn]at hl;exact hl,hZ⟩⟩
def K3(t:TD):TD:=λσ S R Z=>t σ S (λx S1=>∃ss:List Str,vk S1 x (ss.map D.str)/\ss.length<4000/\R (.int (iY ss).length) S1) Z
theorem lse{t:TD}(h:DE K X e t)(hm:X.mg "len"= none)(hm':X.mg "set"= none)(hp:autoParam (isPlain e=true) qQJ)(hg:autoParam (Gl X "len") qQJ)(YF:autoParam (Gl X "set") qQJ)(he:autoParam (starEach [e] X.env=[(false,eval e X.env)]) qQJ) (he2:autoParam (starEach [Expr.Call (.Name "set" p') [e] [] pos'] X.env=[(false,eval (.Call (.Name "set" p') [e] [] pos') X.env)]) qQJ) (hK:autoParam (X.K=K) qQJ) (hc:autoParam (X.calm=true) qQJ): DE K X (.Call (.Name "len" p) [.Call (.Name "set" p') [e] [] pos'] [] pos) (K3 t):=by subst hK;refine⟨λy=>(qA (X:=y.cx) (Ey (X:=y.cx) rfl rfl) hg hm aM (XG (t_ (X:=y.cx) (Ex (X:=y.cx) rfl rfl rfl hc) YF hm' OI (XG (h.of y) AV hp) (by decide) (by decide) he rfl) AV rfl) (by decide) (by decide) he2 rfl).mono λτ H Q ⟨σ,S,R,Z,aB,hS,q,hR,hZ⟩=>?_⟩;refine{σ,S,_,Z,aB,hS,q,λx S1 v H1 ⟨ss,h1,hl,r1⟩ v1 s1 k1=>?_,hZ};obtain⟨a,xs,rfl,hq,t⟩:=h1.at s1 v1;rw[t.strs]at hq;exact{a,ss,rfl,hq,hl,λl hl=>{l,ss,rfl,aD,hR _ _ _ _ r1 (aQ _) (s1.grow hl)<|k1.trans<|.new hl}}
end
theorem fB:bootBuiltins "sorted"= some (.builtin "sorted"):=by trivial
def Sub(S S':ax):Prop:=∀b c,S b=some c->S' b=some c
theorem Sub.refl(S:ax):Sub S S:=λ_ _ h=>h
theorem Sub.trans(a:Sub S S1)(b:Sub S1 S2):Sub S S2:=λp c h=>b p c<|a p c h
theorem Sub.new(h:S p=none):Sub S (S.set p c):=λb c' hb=>by rw[ag<|iu hb h];exact hb
theorem Rs.sub{K:Frag}{S S':ax}{H:Hp}(h:Rs K S' H)(s:Sub S S'):Rs K S H:=λa c e=>h a c<|s a c e
inductive Fo (S':ax) (p:ax->Prop):Prop where
 |mk (S:ax) (h:Sub S S') (r:p S):Fo S' p
theorem fo(h:p S):Fo S p:={S,.refl S,h}
section
variable{P:Program}{w:World}{K:Frag}{mg:Str->Option Value}{base:Heap}
theorem nG.ok{x qual:Str}{st:Stmt}{f:Addr}{fd:FuncData}{N ps:List Str}{k:Nat}{sp:gY}(F:nG K x qual st f fd)(S:eR N ps<|ae st)(len:∀ds S R Z,sp ds S R Z->ds.length=ps.length) (gT:∀(eV:Value)(A:Around)(outer:List Env)(s:Shared)(H:Hp)(E:XK)(ds:List D)(S:ax)(R:KD)(Z:KX),bB k (A.deeper<|envOfC qual (ae st) s.heap.objs.size f eV)->sp ds S R Z->∃t,xC K (iz (fj P w mg) P w K mg base N qual (ae st) f eV A outer s H E) true (aV st) t/\t {nx:=λ_ S'=>Fo S'<|R .av,rt:=λd S'=>Fo S'<|R d} (eJ N ds) S λ_ C S'=>Fo S'<|Z C):bK P w K mg base (fj P w mg) (k+1) f fd ps (qW K sp):=by
 have F2:bK P w K mg base (fj P w mg) (k+1) f fd ps (qW K λds S R' Z'=>∃R Z,sp ds S R Z/\R'=(λd S'=>Fo S'<|R d)/\Z'=λC S'=>Fo S'<|Z C):=by refine F.okD S (by rintro ds S R Z ⟨R0,Z0,h,_⟩;exact len _ _ _ _ h) λeV A outer s H E ds S R Z hr ⟨R0,Z0,h,e1,e2⟩=>?_;subst e1 e2;exact gT eV A outer s H E ds S R0 Z0 hr h
 refine F2.imp <| by rintro vs H Q E ⟨ds,S,R,Z,v,hS,h,hR,hZ⟩;exact{ds,S,_,_,v,hS,⟨R,Z,h,rfl,rfl⟩,by rintro d S' u H' ⟨S2,sb,r⟩ rv rs kp;exact hR d S2 u H' r rv (rs.sub sb) kp,by rintro C S' H' ⟨S2,sb,r⟩ rs kp;exact hZ C S2 H' r (rs.sub sb) kp}
end
section
variable{K:Frag}{X:Cx}{b:Bool}
def Uo(t:kF):kF:=λDe σ S Z=>∃P:SD->ax->Prop,t {De with nx:=λaq S'=>Fo S'<|P aq} σ S Z/\∀aq S',P aq S'->De.nx aq S'
theorem nJ{st:Stmt}{t:kF}(h:DS K X b st t):DS K X b st (Uo t):=⟨λy=>(h.of y).mono <| by rintro D τ H ⟨σ,S,De,Z,aB,hS,⟨P,q,hP⟩,hD,hZ⟩;exact{σ,S,_,Z,aB,hS,q,{by rintro uP S1 V7 H1 ⟨S2,sb,r1⟩ a b c;exact hD.nx _ _ _ _ (hP _ _ r1) a (b.sub sb) c,hD.rt,hD.bk,hD.ct},hZ}⟩
def dFo(t:TD):TD:=λσ S R Z=>t σ S (λd S'=>Fo S'<|R d) Z
theorem BD{t:TD}(h:DE K X e t):DE K X e (dFo t):=⟨λy=>(h.of y).mono <| by rintro τ H Q ⟨σ,S,R,Z,aB,hS,q,hR,hZ⟩;exact{σ,S,_,Z,aB,hS,q,by rintro d S' v H' ⟨S2,sb,r⟩ rv rs kp;exact hR d S2 v H' r rv (rs.sub sb) kp,hZ}⟩
theorem qY(nd:N.Nodup)(h0:autoParam (N[0]?=some a) qQJ)(hx:autoParam (∀C s H ex pn,Loc (iW X N scope C s H ex pn).env.scope a/\(iW X N scope C s H ex pn).env.scope.names.lookup a=some .local) qJQ): ∀C s H ex pn,PG (iW X N scope C s H ex pn) (.Name a p) (iV 0):=λC s H ex pn=>pX (i:=0) nd h0 (hx C s H ex pn).1<|.inr (hx C s H ex pn).2
theorem YG(nd:N.Nodup)(h0:autoParam (N[0]?=some a) qQJ)(h1:autoParam (N[1]?=some c) qQJ) (hx:autoParam (∀C s H ex pn,Loc (iW X N scope C s H ex pn).env.scope a/\(iW X N scope C s H ex pn).env.scope.names.lookup a=some .local) qJQ) (hy:autoParam (∀C s H ex pn,Loc (iW X N scope C s H ex pn).env.scope c/\(iW X N scope C s H ex pn).env.scope.names.lookup c=some .local) qJQ) (hl:∀env:Env,(assignEach [.Name a p,.Name c p'] env).length=2/\(assignEach [.Name a p,.Name c p'] env).findIdx? (·.1)=none/\(assignEach [.Name a p,.Name c p'] env).map (·.2)=assign (.Name a p) env::(assignEach [.Name c p'] env).map (·.2)/\(assignEach [.Name c p'] env).map (·.2)=assign (.Name c p') env::(assignEach [] env).map (·.2):=by intro _;exact⟨rfl,rfl,rfl,rfl⟩) (hK:autoParam (X.K=K) qQJ) (hc:autoParam (X.calm=true) qQJ): ∀C s H ex pn,PG (iW X N scope C s H ex pn) (.Tuple [.Name a p,.Name c p'] j p2) (JQ K 2<|qq (iV 0)<|qq (iV 1) JP):=λC s H ex pn=>by subst hK;have e:=hl (iW X N scope C s H ex pn).env;exact FZ (X:=iW X N scope C s H ex pn) hc (qr (pX (i:=0) nd h0 (hx C s H ex pn).1<|.inr (hx C s H ex pn).2) (qr (pX (i:=1) nd h1 (hy C s H ex pn).1<|.inr (hy C s H ex pn).2) CM e.2.2.2) e.2.2.1) e.1 e.2.1
end
theorem qZ:∀{ss:List Str}{au:List Value},Vals (ss.map V.str) au->StrsAre au ss|[],_,.nil=>.nil|z::ss,_,.cons r t=>by obtain⟨tk,rfl⟩:=r;exact .cons z tk<|qZ t
end L2
namespace HT
open PySem PySem.Spec PyProof.Rows
section
variable{prog:Program}{w:World}{A:Around}{E:Value->Shared->Prop}{s:Shared}
theorem getItem_tuple_whole{t sl:Addr}{items:Array Value}{vl vu:Value}{lo hi:Option Int}{Q:Value->Shared->Prop}(ht:IsTup s.heap t items)(hs:s.heap.IsSliceOf sl vl vu .none)(pl:IsPart vl lo)(pu:IsPart vu hi) (hw:sIx items.size 0 lo=0/\sIx items.size items.size hi=items.size) (h:Q (.ref t) s):wpAny (model prog w) A (getItem (.ref t)<|.ref sl) Q E s:=by
 obtain⟨os,Oc,VU,R8⟩:=id hs;have W_:s.TypeIs (.ref sl) "slice":=⟨os,Oc,VU⟩;unfold getItem;try with_reducible refine yg ?_
 first|refine za (zf ?_)|skip
 refine za<|wpAny_sequenceKey ht.typeIs (by decide) ?_;refine za<|yp (name:=Str.ofString "__getitem__") ht.typeIs PyProof.Rows.slot_tuple_getitem<|yA PyProof.Rows.slot_tuple_getitem ht.typeIs entry_tuple_getitem ?_<|args_tuple_getitem _ _;show wpAny _ _ (Builtin.Tuple.tupleItemsOf (.ref t) >>=_) _ _ s;refine za<|tupleItemsOf_ ht ?_;refine za<|wpAny_typeOf W_ ?_;rw[if_pos<|by decide];refine za<|sliceApplied_gen hs pl pu ?_;have YH:((((sIx items.size 0 lo:Nat):Int)==0&&(1:Int)==1&&(sIx items.size items.size hi-sIx items.size 0 lo)==items.size)=true):=by rw[hw.1,hw.2];simp
 show wpAny _ _ (if (((sIx items.size 0 lo:Nat):Int)==0&&(1:Int)==1&&(sIx items.size items.size hi-sIx items.size 0 lo)==items.size)=true then _ else _) _ _ s;rw[if_pos YH];refine za ?_;unfold Builtin.Tuple.tupleIsExact;refine za<|wpAny_typeOf ht.typeIs<|zf ?_;rw[if_pos<|by decide];refine za<|yT ?_;first|exact zf {_,rfl,zf h}|exact za (zf<|zf !⟨zf h⟩)| (trace_state;exact za<|zf !⟨zf h⟩)
end
end HT
namespace L2
open PySem PySem.Spec PyProof.Rows
def Up(K:Frag):V->Option Int->Option Int->Hp->VK->Prop:=λx lo hi H Q=>∃a xs,x=.ref a/\gp K H a xs/\(HT.sIx xs.length 0 lo=0/\HT.sIx xs.length xs.length hi=xs.length)/\Q (.ref a) H
theorem K4:QU X (Up X.K):=by
 intro pins s σ H x v vl vu lo hi sl Q I rx hs pl pu h;obtain⟨a,xs,rfl,hx,hw,q⟩:=h;cases rx;obtain⟨au,r,ht,hz⟩:=I.tuple hx;have hlen:au.toArray.size=xs.length:=by rw[zk];exact r.length.symm
 refine{"tuple",_,PyProof.Rows.slot_tuple_getitem.lookup,ht.typeIs,?_};exact HT.getItem_tuple_whole ht hs pl pu (by rw[hlen];exact hw) {.ref a,_,I,rfl,q}
def Uq:D->Option Int->Option Int->ax->KD->Prop:=λx lo hi S R=>∃ds,x=.tup ds/\R (.tup<|cW ds lo hi) S
section
variable{K:Frag}{X:Cx}
theorem Ur(hK:X.K=K):QU X (λx lo hi H Q=>∃d S R,Rv K H d x/\Rs K S H/\Uq d lo hi S R/\Cn K H R Q):=by
 rintro pins s σ H x v vl vu lo hi sl Q I rx hs pl pu ⟨d,S,R,r1,hS,⟨ds,e,h⟩,hR⟩;subst hK e;obtain⟨a,xs,rfl,q,t⟩:=r1.tup;by_cases hw:HT.sIx xs.length 0 lo=0/\HT.sIx xs.length xs.length hi=xs.length;refine K4 pins s σ H _ v vl vu lo hi sl Q I rx hs pl pu {a,xs,rfl,.of q,hw,?_};have e:cW ds lo hi=ds:=by unfold cW;rw[<-t.len,hw.1,hw.2,List.drop_zero,Nat.sub_zero,t.len,yG]
 rw[e]at h;exact hR.now hS h<|iB q t;exact Od pins s σ H _ v vl vu lo hi sl Q I rx hs pl pu {a,xs,rfl,.of q,hw,λp hp=>hR.KQ hS hp h<|t.cut lo hi}
def YI(te:TD)(tl th:MF):TD:=λσ S R Z=>te σ S (λx S1=>tl σ S1 (λl S2=>th σ S2 (λu S3=>Uq x l u S3 R) Z) Z) Z
theorem slw{e:Expr}{lo hi:Option Expr}{te:TD}{tl th:MF}{p2 pos:Pos}(he:DE K X e te)(hl:DO K X lo tl)(hu:DO K X hi th)(hK:autoParam (X.K=K) qQJ):DE K X (.Subscript e (.Slice lo hi none p2) pos) (YI te tl th):=
 ⟨λy=>(w6 (X:=y.cx) (Ur hK) (he.of y) (hl.of y)<|hu.of y).mono <| by rintro τ H Q ⟨σ,S,R,Z,aB,hS,q,hR,hZ⟩;exact
  ⟨σ,S,_,Z,aB,hS,q,λd S1 x H1 r1 v1 s1 k1=>⟨σ,S1,_,Z,aB.ts k1,s1,r1,λl S2 H2 r2 s2 k2=>⟨σ,S2,_,Z,aB.ts<|k1.trans k2,s2,r2,λu S3 H3 r3 s3 k3=>⟨d,S3,R,Rv.ts (k2.trans k3) _ v1,s3,r3,hR.kp<|(k1.trans k2).trans k3⟩,hZ.kp<|k1.trans k2⟩,hZ.kp k1⟩,hZ⟩⟩
theorem Hm(r:Rv K H d v):∀n:Nat,RvAll K H (List.replicate n d) (List.replicate n v)|0=>bE|n+1=>aS r<|Hm r n
def Us:uk:=λx y S R=>∃d n,x=.tup [d]/\y=.int n/\2<=n/\n<=1000/\R (.tup<|List.replicate n.toNat d) S
theorem Ph:pE K (binaryOp .Mult) Us:=by rintro X hK hu pins s σ H x y v u Q I rx ry ⟨d,e,S,R,r1,r2,hS,⟨d0,n,e1,e2,h1,h2,h⟩,hR⟩;subst e1 e2;obtain⟨a,xs,rfl,q,t⟩:=r1.tup;obtain⟨z,rfl,rz⟩:=t.one;exact KP pins s σ H _ _ v u Q I rx ry {a,z,n,rfl,r2.int,q,by lia,h2,λe=>by lia,λ_ p hp=>hR.KQ hS hp h<|Hm rz _}
end
inductive Hn (S:ax):List D->List PyData->Prop where
 |nil:Hn S [] []
 |cons {d:D}{p:PyData}{ds:List D}{ps:List PyData} : Dl S d p->Hn S ds ps->Hn S (d::ds) (p::ps)
section
variable{K:Frag}
noncomputable def xJ(p:Str×D):D:=.tup [.str p.1,p.2]
noncomputable def fe(l:List<|Str×D):List (Key×D):=l.foldl (λc p=>dput c (.inr p.1) p.2) []
theorem Dg:∀{kvs:List (Str×D)}{ys:List V},RvAll K H (kvs.map xJ) ys->∃kv:List (Str×V),Prs H ys kv/\∀c c',bZ K H c c'->bZ K H (kvs.foldl (λc p=>dput c (.inr p.1) p.2) c) (kv.foldl (λc p=>putK c (.inr p.1) p.2) c')|[],ys,h=>(by rw[h.nil];exact{[],{rfl,λi x p e=>(by cases i<;>cases e)},λc c' h=>h})|p::kvs,ys,h=>by obtain⟨y,ys,rfl,r1,r2⟩:=h.cons;obtain⟨b,zs,rfl,hb,tz⟩:=Rv.tup<|show Rv K H (.tup [.str p.1,p.2]) y from r1;obtain⟨v,u,rfl,rv,ru⟩:=tz.two;have ev:=rv.str;subst ev;obtain⟨kv,⟨hl,hp⟩,hf⟩:=Dg r2;refine{(p.1,u)::kv,{by rw[zD,zD,hl],λi x q e1 e2=>?_},λc c' h=>hf _ _<|h.put (.inr p.1) ru};cases i with|zero=>(cases e1;cases e2;exact⟨b,rfl,hb⟩)|succ i=>exact hp i x q e1 e2
def Ut:List D->ax->KD->Prop:=λds S R=>∃kvs:List (Str×D),ds=[.tup<|kvs.map xJ]/\∀p,S p=none->R (.ref p) (S.set p<|.cB<|fe kvs)
theorem BE:gX K (.type "dict") Ut:=by rintro X hK hc pins s σ H xs us Q I rx ⟨ds,S,R,r,hS,⟨kvs,e,h⟩,hR⟩;subst hK e;obtain⟨v,rfl,r1⟩:=r.one;obtain⟨a,ys,rfl,q,t⟩:=r1.tup;obtain⟨kv,hp,hf⟩:=Dg t;refine Bb hc pins s σ H _ us Q I rx {a,ys,kv,rfl,q,hp,λl hl=>?_};have kn:Kp X.K H (upd H l<|.dK<|C6 kv):=.new hl;exact hR _ _ _ _ (h l<|hS.fresh hl) (dG l) (hS.new (c:=.cB<|fe kvs) hl {_,aD,(hf [] [] .nil).ts kn}) kn
theorem xK(kvs:List<|Key×D)(k k':Key)(d:D):bW (dput kvs k d) k'=if k'=k then some d else bW kvs k':=by
 unfold dput;by_cases hk:(kvs.any λkv=>decide<|kv.1=k)=true;rw[if_pos hk];unfold bW;induction kvs with|nil=>(cases hk)|cons r kvs ih=>rw[zQ,yb,yb];by_cases e:r.1=k;rw[if_pos e];by_cases e2:k'=k;rw[if_pos e2,show decide (r.1=k')=true from zA (e.trans e2.symm)];rfl;rw[if_neg e2,show decide (r.1=k')=false from zw λq=>e2<|q.symm.trans e];by_cases cK:(kvs.any λkv=>decide<|kv.1=k)=true;have:=ih cK;rw[if_neg e2]at this;exact this;have em:kvs.map (λkv=>if kv.1=k then (kv.1,d) else kv)=kvs:=(by(conv=>rhs;rw[<-List.map_id kvs]);refine zX λx hx=>?_;rw[if_neg λq=>cK<|List.any_eq_true.mpr {x,hx,zA q}];rfl);rw[em];rw[if_neg e];have cK:(kvs.any λkv=>decide<|kv.1=k)=true:=(by rw[yP,zw e,yQ]at hk;exact hk);by_cases e3:r.1=k';rw[zA e3,if_neg λq=>e<|e3.trans q];rw[zw e3];exact ih cK
 rw[if_neg hk];unfold bW;rw[List.find?_append];have hn:∀x∈kvs,x.1≠k:=λx hx q=>hk<|List.any_eq_true.mpr {x,hx,zA q};by_cases e:k'=k;subst e;rw[if_pos rfl,List.find?_eq_none.mpr λx hx=>by simp[hn x hx]];simp;rw[if_neg e];have:([(k,d)].find? λkv=>decide<|kv.1=k')=none:=by rw[yb,show decide (k=k')=false from zw λq=>e q.symm];rfl
 rw[this,Option.or_none]
theorem nK(l:List<|Str×D)(z:Str):(bW (fe l)<|.inr z).isSome=l.any λp=>decide (p.1=z):=by
 have all:∀(l:List (Str×D))(c:List (Key×D)),(bW (l.foldl (λc p=>dput c (.inr p.1) p.2) c)<|.inr z).isSome=((bW c<|.inr z).isSome||l.any λp=>decide<|p.1=z):=by intro l;induction l with|nil=>intro c;simp|cons p l ih=>intro c;rw[yI,ih,xK,yP];by_cases e:p.1=z;rw[if_pos<|by rw[e],zA e];simp;rw[if_neg λq=>e (yL q).symm,zw e];simp
 exact(all l []).trans<|by rfl
def Uu(a:Addr)(kvs:List<|Str×V):uk:=λx y S R=>∃z,x=.str z/\y=.ref a/\R (.bl (kvs.lookup z).isSome) S
theorem YJ{X:Cx}{a b:Expr}{ta tb:TD}{pos:Pos}{w:World}{ad:Addr}{kvs:List<|Str×V}(d:JA w K ad kvs)(ha:DE K X a ta)(hb:DE K X b tb)(hw:autoParam (X.w=w) qQJ)(hm:autoParam (behindInMarks .In b=false) qQ2)(hK:autoParam (X.K=K) qQJ): DE K X (.Compare a [.In] [b] pos) (O3 (Uu ad kvs) ta tb):=by refine⟨λy=>(CU (X:=y.cx) (r:=Lr K<|Uu ad kvs) ?_ (ha.of y) (hb.of y) hm).mono λ_ _ _ h=>h.op⟩;rintro pins s σ H x y' v u Q I rx ry ⟨d',e,S,R,r1,r2,hS,⟨z,e1,e2,h⟩,hR⟩;subst e1 e2;exact G0 (X:=y.cx) hw hK pins s σ H x y' v u Q I rx ry {z,ad,kvs,r1.str,r2.ref,d,hR.now hS h<|bS _}
end
structure mr(k:Nat)(A:Around):Prop where
 dp:A.depth+3*k+5<recursionLimit
 un:A.units+16*k+200<cLine
theorem mr.deeper(r:mr (k+1) A)(env:Env):mr k (A.deeper env):={by have:=r.dp;show A.depth+1+3*k+5<_;lia,by have:=r.un;show A.units+3+16*k+200<_;lia}
theorem mr.depth(r:mr k A):A.depth<recursionLimit:=by have:=r.dp;lia
theorem bB.h(r:bB k A)(h:j<=k):mr j (A.mark v):={by have:=r.dp;show A.depth+_+_<_;lia,by have:=r.un;show A.units+_+_<_;lia}
abbrev YK(P:Program)(w:World)(K:Frag)(mg:Str->Option Value)(base:Heap)(N:List Str)(qual:Str)(scope:Scope)(f:Addr)(cd:Value)(A:Around)(outer:List Env)(s:Shared)(H:Hp):Cx:={iz (fj P w mg) P w K mg base N qual scope f cd A outer s H E0 with calm:=false,xe:=λ_ _=>False}
structure Wc(P:Program)(w:World)(K:Frag)(mg:Str->Option Value)(base:Heap)(k:Nat)(f:Addr)(fd:FuncData)(ps:List Str)(sp:gY):Prop where
 len:∀ds S R Z,sp ds S R Z->ds.length=ps.length
 run:∀(A:Around)(outer:List Env)(s:Shared)(H:Hp)(args:Args)(us:List Value)(vs:List V)(Q:VK),mr k A->uR P w K mg base A outer s H->BindsTo s fd args (ps.zip us)->Vals vs us->qW K sp vs H Q E0 ->
  codeAny (model P w) A (.call (.ref f) args) (CR (fj P w mg) outer P w H s Q E0) s
section
variable{P:Program}{w:World}{K:Frag}{mg:Str->Option Value}{base:Heap}
theorem nG.okH{x qual:Str}{st:Stmt}{f:Addr}{fd:FuncData}{N ps:List Str}{k:Nat}{sp:gY}(F:nG K x qual st f fd)(S:eR N ps<|ae st)(len:∀ds S R Z,sp ds S R Z->ds.length=ps.length) (gT:∀(eV:Value)(A:Around)(outer:List Env)(s:Shared)(H:Hp)(ds:List D)(S:ax)(R:KD)(Z:KX),mr k (A.deeper<|envOfC qual (ae st) s.heap.objs.size f eV)->sp ds S R Z->∃t,xC K (YK P w K mg base N qual (ae st) f eV A outer s H) false (aV st) t/\t {nx:=λ_ S'=>Fo S'<|R .av,rt:=λd S'=>Fo S'<|R d} (eJ N ds) S λ_=>Zf):Wc P w K mg base (k+1) f fd ps sp:=by
 obtain⟨oc,od,dV,kV,doc,pm,an,eV,ct,Mt,rfl,lk,pW⟩:=F.ex;have eE:ps.length<=N.length:=by have:=congrArg List.length S.pre;rw[yf]at this;lia
 refine{len,λA outer s H args us vs Q hr e0 hb r Mu=>?_};obtain⟨ds,S',R,Z,v,hS,h,hR,hZ⟩:=Mu;have hl:vs.length=ps.length:=by rw[v.len];exact len _ _ _ _ h
 have KX:K.In s.heap:=e0.mod.Mh.keeps λb o e=>(e0.bs b o e).1;have lim:s.heap.NoLimit:=e0.mod.nolimit.keeps λb o e=>(e0.bs b o e).1;have Gn:∀y∈ps.zip us,(ae st).names.lookup y.1=some .local\/((ae st).names.lookup y.1=some .cell/\((cellsFrom (s.heap.objs.size+1) (ae st).names []).lookup y.1).isSome=true):=by rintro⟨n,v⟩ hy;rcases S.par n (List.of_mem_zip hy).1 with q|q;exact .inl q;exact .inr {q,cellsFrom_some _ _ _<|.inl q}
 refine codeAny_call_function hr.depth (KX _ _ lk) rfl S.co S.gen rfl (codeRec_of KX pW)<|hb _ _ _ _ ?_;refine wpAny_newFunctionEnv_cells S.kind Gn λenv he s1 x=>?_;subst he;refine{lim.keeps x.toInCall.keep,codeAny_func ?_};obtain⟨t,ht,hq⟩:=gT eV A outer s H ds S' R Z (hr.deeper _) h;have e1:uR P w K mg base {A with handled:=none} outer s H:=⟨e0.frames,e0.mod,e0.bs,e0.AG,e0.ja,e0.D8,e0.aH,e0.bare⟩;have J:Inv (iz (fj P w mg) P w K mg base N qual (ae st) f eV {A with handled:=none} outer s H E0) [] (start N vs) H s1:=t9 S rfl e1 hl r x;have I:Inv (YK P w K mg base N qual (ae st) f eV A outer s H) [] (start N vs) H s1:={{J.ok.mod,J.ok.kind,J.ok.glob,J.ok.blt,J.ok.above,J.ok.inj,J.ok.has,J.ok.Mi,λz=>(nomatch (show false=true from z)),Around.frames_deeper e0.frames,J.ok.NA,J.ok.RE,J.ok.bs,J.ok.AG,J.ok.wY,J.ok.AH,J.ok.ja,J.ok.D8},J.os,J.bare,J.base,J.loc,J.cell,J.free,J.du,J.pin,J.aH,J.len};let y:Ev (YK P w K mg base N qual (ae st) f eV A outer s H) false:={[],λ_ _=>False,λ_=>E0,{by rintro p2 τ H1 s1 e s' _ ⟨_,_,_,_,_,_,_,_,_,z⟩;exact z.elim,λe=>(by cases e),λe=>(by cases e)}};have lS:gb K H (eJ N ds) (start N vs):=by unfold eJ start;refine(mi v).app ?_;rw[v.len];exact mh _ _<|by rw[yi]
 refine yq (ht.of y [] s1 (start N vs) H {nx:=λ_ H'=>Q .av H',rt:=Q} I {eJ N ds,S',_,λ_=>Zf,lS,hS,hq,{by rintro σ S1 τ H1 ⟨S2,sb,r⟩ a b c;exact hR.kp c |>.now (b.sub sb) r iA,by rintro d S' u H' ⟨S2,sb,r⟩ rv rs kp;exact hR d S2 u H' r rv (rs.sub sb) kp,λ_ _ _ _ z=>z.elim,λ_ _ _ _ z=>z.elim},λ_ _ _ _ _ z=>z.elim}) (λfl s' hs=>?_) λe s' hs=>hs.elim;have fin:∀{aq:St}{H':Hp}{v:V}{u:Value},Inv y.cx [] aq H' s'->RelV v u->Q v H'->CE outer P w H s Q u s':=λ{aq H' v u} J rv q=>⟨v,H',J.os,J.bare,J.base,J.aH,rv,q⟩;cases fl with|ret u=>(obtain⟨v,aq,H',J,rv,q⟩:=hs;exact fin J rv q)|next=>(obtain⟨aq,H',J,q⟩:=hs;exact fin (v:=V.av) (u:=Value.none) J rfl q)|brk=>(obtain⟨_,_,_,q⟩:=hs;exact False.elim q)|cont=>obtain⟨_,_,_,q⟩:=hs;exact False.elim q
end
section
variable{K:Frag}{X:Cx}{k:Nat}{f:Addr}{fd:FuncData}{ps:List Str}{x:Str}{p pos:Pos}{e:Expr}{es:List Expr}{sp:gY}
def Pj(sp:gY)(t:iD):TD:=λσ S R Z=>t σ S (λds S1=>sp ds S1 R Zf) Z
theorem cfh{t:iD}(F:Wc X.prog X.w K X.mg X.base k f fd ps sp)(hr:mr k X.A)(hm:X.mg x=some (.ref f))(hk:keepIn K (.ref f)=true)(hb:Binds K fd ps [])(ha:DA K X (e::es) t) (hg:autoParam (Gl X x) qQJ) (jb:autoParam ((x==("__debug__": Str))=false) qQZ) (he:autoParam (starEach (e::es) X.env=(false,eval e X.env)::starEach es X.env) qQJ) (eE:autoParam ((backTo pos<|starEach es X.env).any (·.1)=false) qQJ) (hK:autoParam (X.K=K) qQJ): DE K X (.Call (.Name x p) (e::es) [] pos) (Pj sp t):=by
 subst hK;refine⟨λy=>?_⟩;rintro p2 s τ H Q I ⟨σ,S,R,Z,aB,hS,q,hR,hZ⟩;refine yF<|iw I hg hm ?_ jb;refine callWith_K (h₀:=X.base) I.ok.mod.Mh hk (bu (ha.of y pos p2 s τ H (λvs H1=>qW X.K sp vs H1 Q E0) I {σ,S,_,Z,aB,hS,q,λes S1 xs H1 r1 v1 s1 k1=>{es,S1,R,Zf,v1,s1,r1,hR.kp k1,λ_ _ _ z=>z.elim},hZ}) λus s1 ⟨vs,H1,I1,r,q⟩=>{I1.kC,?_}) he eE;have hl:(us++([]:List Value)).length=ps.length:=by obtain⟨ds,S',R',Z',v',_,h',_⟩:=q;rw[ye,<-r.length,v'.len];exact F.len _ _ _ _ h'
 have EK:=hb s1 us I1.kC hl;rw[ye]at EK;refine wpAny_call<|yO (F.run X.A X.stack s1 H1 {us,[]} us vs Q hr I1.N_ EK r q) λres s' hq=>?_;cases res with|error e=>(obtain⟨_,_,_,_,_,_,_,_,_,z⟩:=hq;exact z.elim)|ok fl=>cases fl with|ret u=>exact I1.after hq|next=>exact False.elim hq|brk=>exact False.elim hq|cont=>exact False.elim hq
end
def PEg(pre:Nat)(X:Cx)(e:Expr)(t:TE):Prop:=∀(pins:List (Addr×Obj))(s:Shared)(σ:St)(H:Hp)(Q:VK),Inv X pins σ H s->pre<=s.toks->t σ H Q->wpAny (model X.prog X.w) X.A (eval e X.env) (λu s'=>EP X pins σ Q u s'/\1<=s'.toks) X.xe s
structure DEg(pre:Nat)(K:Frag)(X:Cx)(e:Expr)(t:TD):Prop where
 of:∀{b:Bool}(y:Ev X b),PEg pre y.cx e<|T K y.E t
theorem YL{a b:Str}(h:a.cps.toList=b.cps.toList):a=b:=by obtain⟨⟨x⟩⟩:=a;obtain⟨⟨y⟩⟩:=b;cases h;rfl
end L2
namespace HT
open PySem PySem.Spec PyProof.Rows
end HT
namespace L2
open PySem PySem.Spec PyProof.Rows
section
variable{K:Frag}{X:Cx}
def Uv:Ha:=λx ds S R=>∃a es fs,x=.ref a/\ds=[.tup fs]/\S a=some (.lst es)/\es.length+fs.length<=sizeLine/\R .av (S.set a<|.lst<|es++fs)
theorem EL:O4 K "list.extend" Uv:=by rintro X hK pins s σ H x xs v us Q I rx rs ⟨d,ds,S,R,r1,r2,hS,⟨a,es,fs,e1,e2,e3,hl,h⟩,hR⟩;subst e1 e2;obtain⟨w0,rfl,q2⟩:=r2.one;obtain⟨zs,e5,t⟩:=hS.lst e3;obtain⟨p,ys,rfl,q,t2⟩:=q2.tup;exact Br pins s σ H x _ v us Q I rx rs {a,p,zs,ys,r1.ref,rfl,e5,q,by rw[t.len,t2.len];exact hl,hR.put hS e3 h iA<|t.app t2}
end
section
variable{K:Frag}{X:Cx}{E:XK}
structure DEx(K:Frag)(X:Cx)(E:XK)(e:Expr)(t:TD):Prop where
 of:∀(y:Ev X true),y.E=(λ_=>E)->dj y.cx E->PE y.cx e (T K y.E t)
structure DAx(K:Frag)(X:Cx)(E:XK)(es:List Expr)(t:iD):Prop where
 of:∀(y:Ev X true),y.E=(λ_=>E)->dj y.cx E->PA y.cx es (Ta K y.E t)
structure DSx(K:Frag)(X:Cx)(E:XK)(b:List Stmt)(t:kF):Prop where
 of:∀(y:Ev X true),y.E=(λ_=>E)->dj y.cx E->AJ y.cx b (Tl K y.E t)
variable{N:List Str}{src:List (Option Nat)}{scope:Scope}{tg iter elt:Expr}{ifs:List Expr}{ti:AB}{g:TG}{gd:xD}{tc:mj}{te:TD}
end
open PySem.Builtin PySem.Builtin.Str
structure M3(X:Cx)(o:Expr)(m:Str)(apos:Pos)(e f g:Expr)(aP:Pos):Prop where
 base:attributeBase o m X.env (eval o X.env)=eval o X.env
 FJ:((backTo aP<|starEach [e,f,g] X.env).all (λx=>!x.1)&&(backToKw aP<|keywordEach [] X.env).all (λx=>x.1.isSome)
  && decide (([e,f,g]:List Expr).length+([]:List Keyword).length+(if ([]:List Keyword).isEmpty then 0 else 1)<30))=true
 line:(apos.endLine==aP.line)=true
 trees:backTo aP (starEach [e,f,g] X.env)=[(false,eval e X.env),(false,eval f X.env),(false,eval g X.env)]
section
variable{X:Cx}{t:TE}
def PAg(pre:Nat)(X:Cx)(es:List Expr)(t:TA):Prop:=∀(pos:Pos)(pins:List (Addr×Obj))(s:Shared)(σ:St)(H:Hp)(Q:List V->Hp->Prop),Inv X pins σ H s->pre<=s.toks->t σ H Q->wpAny (model X.prog X.w) X.A (spliced<|backTo pos<|starEach es X.env) (AP X pins σ Q) X.xe s
end
section
variable{K:Frag}{X:Cx}
structure DAg(pre:Nat)(K:Frag)(X:Cx)(es:List Expr)(t:iD):Prop where
 of:∀{b:Bool}(y:Ev X b),PAg pre y.cx es<|Ta K y.E t
end
structure Gh(a₀:Array Keyed)(g:Nat->Nat)(xs:Array Keyed):Prop where
 at_:∀k,k<a₀.size->xs[k]?=a₀[g k]?
 lt:∀k,k<a₀.size->g k<a₀.size
 inj:∀i j,i<a₀.size->j<a₀.size->g i=g j->i=j
def Log(κ:KeyKind)(a₀:Array Keyed)(i j:Nat):Prop:=κ.klt (KK κ a₀ i) (KK κ a₀ j)\/(KK κ a₀ i=KK κ a₀ j/\i<j)
def BF(κ:KeyKind)(a₀:Array Keyed)(g:Nat->Nat)(k:Nat):Prop:=∀i j,i<j->j<k->Log κ a₀ (g i) (g j)
def Wd(κ:KeyKind)(a₀:Array Keyed)(g:Nat->Nat)(k:Nat):Prop:=∀i j,i<j->j<k->Log κ a₀ (g j) (g i)
def EM(g:Nat->Nat)(m n:Nat):Prop:=∀k,m<=k->k<n->g k=k
noncomputable def Ho(g:Nat->Nat)(i j k:Nat):Nat:=if i<=k/\k<j then g (i+j-1-k) else g k
noncomputable def K5(g:Nat->Nat)(src l k:Nat):Nat:=if k=l then g src else if l<k/\k<=src then g (k-1) else g k
section
variable{κ:KeyKind}{a₀ xs:Array Keyed}{g:Nat->Nat}
theorem Log.kle(h:Log κ a₀ i j):κ.kle (KK κ a₀ i) (KK κ a₀ j):=by rcases h with h|⟨h,_⟩;exact KeyOrd.kle_of_klt h;rw[h];exact KeyOrd.kle_refl _
theorem MQ(h:κ.kle (KK κ a₀ i)<|KK κ a₀ j)(hl:i<j):Log κ a₀ i j:=by cases q:κ.blt (KK κ a₀ i) (KK κ a₀ j) with|true=>exact .inl q|false=>exact .inr {KeyOrd.kle_antisymm h q,hl}
theorem Gh.low(h:Gh a₀ g xs)(t:EM g m a₀.size)(hm:m<=a₀.size)(hi:i<m):g i<m:=by refine Nat.lt_of_not_le λq=>?_;have h1:=h.lt i (by lia);have h2:=h.inj (g i) i h1 (by lia)<|t (g i) q h1;lia
theorem Gh.key(h:Gh a₀ g xs)(hk:k<a₀.size):KK κ xs k=KK κ a₀ (g k):=KK_congr<|h.at_ k hk
theorem Gh.mirror(h:Gh a₀ g xs)(hs:xs.size=a₀.size)(hj:j<=a₀.size):Gh a₀ (Ho g i j) (mirror xs i j<|(j-i)/2) where
 at_:=λk hk=>by
  rw[getElem?_mirror_all<|by lia]
  unfold Ho
  by_cases q:i<=k/\k<j
  ·rw[if_pos q,if_pos q];exact h.at_ _<|by lia
  ·rw[if_neg q,if_neg q];exact h.at_ _ hk
 lt:=λk hk=>by
  unfold Ho
  by_cases q:i<=k/\k<j
  ·rw[if_pos q];exact h.lt _<|by lia
  ·rw[if_neg q];exact h.lt _ hk
 inj:=λa b ha hb e=>by
  unfold Ho at e
  by_cases q:i<=a/\a<j<;>by_cases r:i<=b/\b<j
  ·rw[if_pos q,if_pos r]at e;have:=h.inj _ _ (by lia) (by lia) e;lia
  ·rw[if_pos q,if_neg r]at e;have:=h.inj _ _ (by lia) (by lia) e;lia
  ·rw[if_neg q,if_pos r]at e;have:=h.inj _ _ (by lia) (by lia) e;lia
  ·rw[if_neg q,if_neg r]at e;exact h.inj _ _ ha hb e
theorem Gh.bubble(h:Gh a₀ g xs)(hs:xs.size=a₀.size)(hl:l<=src)(hj:src<a₀.size):Gh a₀ (K5 g src l) (bubble xs src<|src-l) where
 at_:=λk hk=>by
  rw[getElem?_bubble (by lia) _<|by lia,show src-(src-l)=l by lia]
  unfold K5
  by_cases q:k=l
  ·rw[if_pos q,if_pos q];exact h.at_ _ hj
  ·rw[if_neg q,if_neg q]
   by_cases r:l<k/\k<=src
   ·rw[if_pos r,if_pos r];exact h.at_ _<|by lia
   ·rw[if_neg r,if_neg r];exact h.at_ _ hk
 lt:=λk hk=>by
  unfold K5
  by_cases q:k=l
  ·rw[if_pos q];exact h.lt _ hj
  ·rw[if_neg q]
   by_cases r:l<k/\k<=src
   ·rw[if_pos r];exact h.lt _<|by lia
   ·rw[if_neg r];exact h.lt _ hk
 inj:=λa b ha hb e=>by
  unfold K5 at e
  repeat' split at e
  all_goals (have:=h.inj _ _ (by lia) (by lia) e;lia)
theorem iE(h:i<=k/\k<j):Ho g i j k=g (i+j-1-k):=by unfold Ho;rw[if_pos h]
theorem gs(h:¬(i<=k/\k<j)):Ho g i j k=g k:=by unfold Ho;rw[if_neg h]
end
section
variable{prog:Program}{w:World}{A:Around}{E:Value->Shared->Prop}{s:Shared}{a₀:Array Keyed}{κ:KeyKind}
theorem MR{st:SortSt}{g:Nat->Nat}{a top:Nat}{Q:AscSt->SortSt->Prop}(hO:κ.OneLt)(h0:KeysOf κ a₀)(ht:top<=a₀.size)(h1:1<=a)(h2:a<=top)(B:SBase a₀ st)(G:Gh a₀ g<|arrOf st)(T:EM g a a₀.size)(U:BF κ a₀ g a) (h:∀n,a<=n->n<=top->BF κ a₀ g n->(n=top\/κ.klt (KK κ a₀<|g n) (KK κ a₀<|g<|n-1))->Q (none,n) st):wpS (model prog w) A E s (ascLoop a top) Q st:=by
 unfold ascLoop;refine wpS_forRange (I:=λx c t=>t=st/\c=(none,x)/\BF κ a₀ g x) ?_ ?_ ⟨rfl,rfl,U⟩;rintro x c t Ew GW ⟨rfl,rfl,V⟩;dsimp only;refine wpS_bind<|wpS_ltKK hO B h0 (by lia) (by lia) ?_;rw[G.key<|by lia,G.key<|by lia];cases q:κ.blt (KK κ a₀<|g x) (KK κ a₀<|g<|x-1) with|true=>exact wpS_pure (h x Ew (by lia) V<|.inr q)|false=>refine wpS_pure {rfl,rfl,λi j pF hj=>?_};rcases Nat.lt_or_ge j x with z|z;exact V i j pF z;obtain rfl:j=x:=(by lia);have lw:=G.low (m:=j) (λk hk cK=>T k (by lia) cK) (by lia) pF;rw[T j Ew<|by lia]at q⊢;refine MQ ?_ lw;rcases Nat.lt_or_ge i (j-1) with y|y;exact KeyOrd.kle_trans (V i (j-1) y<|by lia).kle q;obtain rfl:i=j-1:=(by lia);exact q
 rintro c t ⟨rfl,rfl,V⟩;rw[show max a top=top by lia]at V⊢;exact h top h2 (zl _) V<|.inl rfl
theorem Hq{st:SortSt}{g:Nat->Nat}{n top:Nat}{Q:Option Nat->SortSt->Prop}(hO:κ.OneLt)(h0:KeysOf κ a₀)(ht:top<=a₀.size)(h1:1<=n)(h2:n<=top)(B:SBase a₀ st)(G:Gh a₀ g<|arrOf st)(T:EM g n a₀.size)(D:Wd κ a₀ g n) (h:∀m g' fb,SBase a₀ fb->Gh a₀ g' (arrOf fb)->EM g' m a₀.size->1<=m->m<=top->BF κ a₀ g' m->Q (some m) fb):wpS (model prog w) A E s (tail3 n top) Q st:=by
 unfold tail3;refine wpS_bind<|wpS_reverse ?_;have B':SBase a₀ (setArr st<|mirror (arrOf st) 0 n<|(n-0)/2):=B.setArr<|mirror_perm _ _ _ _;have G':Gh a₀ (Ho g 0 n) (arrOf<|setArr st<|mirror (arrOf st) 0 n<|(n-0)/2):=G.mirror B.size (by lia);have T':EM (Ho g 0 n) n a₀.size:=λk hk cK=>by rw[gs<|by lia];exact T k hk cK
 refine wpS_bind<|MR hO h0 ht h1 h2 B' G' T' (λi j pF hj=>?_) λm hm1 MS V _=>wpS_pure<|h m _ _ B' G' (λk hk cK=>T' k (by lia) cK) (by lia) MS V;rw[iE<|by lia,iE<|by lia];exact D _ _ (by lia)<|by lia
structure JB(κ:KeyKind)(a₀:Array Keyed)(g:Nat->Nat)(x q:Nat):Prop where
 le:q+1<=x
 tl:EM g (x-(q+1)) a₀.size
 dn:∀i j,i<j->j<x->i<x-(q+1)->Log κ a₀ (g j) (g i)
 eq:∀i,x-(q+1)<=i->i<x->KK κ a₀ (g i)=KK κ a₀ (g<|x-1)
theorem JB.full(F:JB κ a₀ g x q)(hx:x<=a₀.size):Wd κ a₀ (Ho g (x-(q+1)) x) x:=λi j pF hj=>by have le:=F.le;by_cases hi:i<x-(q+1);rw[gs (k:=i)<|by lia];by_cases We:j<x-(q+1);rw[gs<|by lia];exact F.dn i j pF hj hi;rw[iE<|by lia];exact F.dn i _ (by lia) (by lia) hi;rw[iE<|by lia,iE<|by lia];refine .inr {(F.eq _ (by lia)<|by lia).trans (F.eq _ (by lia)<|by lia).symm,?_};rw[F.tl _ (by lia)<|by lia,F.tl _ (by lia)<|by lia];lia
theorem JB.MT(F:JB κ a₀ g x 0):Wd κ a₀ g x:=λi j pF hj=>F.dn i j pF hj<|by lia
theorem JB.next(D:Wd κ a₀ g x)(T:EM g x a₀.size)(hx:x<a₀.size)(h1:1<=x)(hl:κ.klt (KK κ a₀<|g x)<|KK κ a₀<|g<|x-1):JB κ a₀ g (x+1) 0 where
 le:=by lia
 tl:=λk hk cK=>T k (by lia) cK
 dn:=λi j pF hj hi=>by
  by_cases We:j<x
  ·exact D i j pF We
  ·obtain rfl:j=x:=by lia
   refine .inl ?_
   by_cases q:i=j-1
   ·rw[q];exact hl
   ·exact KeyOrd.klt_of_klt_of_kle hl (D i (j-1) (by lia)<|by lia).kle
 eq:=λi hi hj=>by rw[show i=x+1-1 by lia]
theorem Pk{st:SortSt}{g:Nat->Nat}{n top:Nat}{Q:DescSt->SortSt->Prop}(hO:κ.OneLt)(h0:KeysOf κ a₀)(ht:top<=a₀.size)(h1:1<=n)(h2:n<=top)(B:SBase a₀ st)(G:Gh a₀ g<|arrOf st)(F:JB κ a₀ g n 0) (h:∀m q g' fb,SBase a₀ fb->Gh a₀ g' (arrOf fb)->n<=m->m<=top->JB κ a₀ g' m q->Q (none,m,q) fb):wpS (model prog w) A E s (descLoop n top) Q st:=by
 unfold descLoop;refine wpS_forRange (I:=λx c t=>∃q g',c=(none,x,q)/\SBase a₀ t/\Gh a₀ g' (arrOf t)/\JB κ a₀ g' x q) ?_ ?_ {0,g,rfl,B,G,F};rintro x c t Ew GW ⟨q,g',rfl,B',G',F'⟩;have le:=F'.le;dsimp only;refine wpS_bind<|wpS_ltKK hO B' h0 (by lia) (by lia) ?_;rw[G'.key<|by lia,G'.key<|by lia];cases hl:κ.blt (KK κ a₀<|g' x) (KK κ a₀<|g'<|x-1) with|true=>(simp only[if_true];by_cases hq:q>0;rw[if_pos hq];refine wpS_bind<|wpS_reverse<|wpS_pure {0,_,rfl,B'.setArr<|mirror_perm _ _ _ _,G'.mirror B'.size<|by lia,?_};refine .next (F'.full<|by lia) (λk hk cK=>?_) (by lia) (by lia) ?_;rw[gs<|by lia];exact F'.tl k (by lia) cK;rw[gs<|by lia,iE<|by lia,F'.eq (x-(q+1)+x-1-(x-1)) (by lia)<|by lia];exact hl;rw[if_neg hq];obtain rfl:q=0:=(by lia);exact wpS_pure {0,g',rfl,B',G',.next F'.MT (λk hk cK=>F'.tl k (by lia) cK) (by lia) (by lia) hl})|false=>simp only[Bool.false_eq_true,if_false];refine wpS_bind<|wpS_ltKK hO B' h0 (by lia) (by lia) ?_;rw[G'.key<|by lia,G'.key<|by lia];cases hg:κ.blt (KK κ a₀<|g'<|x-1) (KK κ a₀<|g' x) with|true=>exact wpS_pure (h x q g' t B' G' Ew (by lia) F')|false=>have e:KK κ a₀ (g' x)=KK κ a₀ (g'<|x-1):=KeyOrd.kle_antisymm hg hl;refine wpS_pure {q+1,g',rfl,B',G',{by lia,λk hk cK=>F'.tl k (by lia) cK,λi j pF hj hi=>?_,λi hi hj=>?_}};by_cases We:j<x;exact F'.dn i j pF We (by lia);obtain rfl:j=x:=(by lia);have:=F'.dn i (j-1) (by lia) (by lia) (by lia);rcases this with z|⟨_,z⟩;exact .inl (by rw[e];exact z);rw[F'.tl (j-1) (by lia)<|by lia]at z;have:=G'.low (m:=j-(q+1)) F'.tl (by lia) (i:=i) (by lia);lia;rw[show x+1-1=x by lia];by_cases Yx:i=x;rw[Yx];rw[e];exact F'.eq i (by lia)<|by lia
 rintro c t ⟨q,g',rfl,B',G',F'⟩;rw[show max n top=top by lia]at F'⊢;exact h top q g' t B' G' h2 (zl _) F'
theorem Hr{st:SortSt}{g:Nat->Nat}{n top:Nat}{Q:Option Nat->SortSt->Prop}(hO:κ.OneLt)(h0:KeysOf κ a₀)(ht:top<=a₀.size)(h2:n+1<=top)(B:SBase a₀ st)(G:Gh a₀ g<|arrOf st)(F:JB κ a₀ g (n+1) 0) (h:∀m g' fb,SBase a₀ fb->Gh a₀ g' (arrOf fb)->EM g' m a₀.size->1<=m->m<=top->BF κ a₀ g' m->Q (some m) fb):wpS (model prog w) A E s (descPart n top) Q st:=by
 unfold descPart;refine wpS_bind<|wpS_lift<|yT {rfl,?_};refine wpS_bind<|Pk hO h0 ht (by lia) h2 B G F λm q g' fb B' G' hm1 MS F'=>?_;have le:=F'.le;dsimp only;by_cases hq:q>0;rw[if_pos hq];refine wpS_bind<|wpS_reverse<|Hq hO h0 ht (by lia) MS (B'.setArr<|mirror_perm _ _ _ _) (G'.mirror B'.size<|by lia) (λk hk cK=>?_) (F'.full<|by lia) h;rw[gs<|by lia];exact F'.tl k (by lia) cK;rw[if_neg hq];obtain rfl:q=0:=by lia
 exact Hq hO h0 ht (by lia) MS B' G' (λk hk cK=>F'.tl k (by lia) cK) F'.MT h
theorem Uw{st:SortSt}{g:Nat->Nat}{top:Nat}{Q:Option Nat->SortSt->Prop}(hO:κ.OneLt)(h0:KeysOf κ a₀)(ht:top<=a₀.size)(h1:1<=top)(B:SBase a₀ st)(G:Gh a₀ g<|arrOf st)(T:EM g 0 a₀.size) (h:∀m g' fb,SBase a₀ fb->Gh a₀ g' (arrOf fb)->EM g' m a₀.size->1<=m->m<=top->BF κ a₀ g' m->Q (some m) fb):wpS (model prog w) A E s (countRun' 0 top) Q st:=by
 rw[countRun0_eq];refine wpS_bind<|MR hO h0 ht (zl 1) h1 B G (λk hk cK=>T k (by lia) cK) (λi j pF hj=>by lia) λn MU Mq U hor=>?_;dsimp only;have Tn:∀m,EM g m a₀.size:=λm k hk cK=>T k (by lia) cK;by_cases YM:n=top;rw[if_pos<|by simpa using YM];exact wpS_pure<|h n g st B G (Tn n) MU Mq U;rw[if_neg<|by simpa using YM];have j_:=hor.resolve_left YM;by_cases Q8:n>1;rw[if_pos Q8];refine wpS_bind<|wpS_ltKK hO B h0 (by lia) (by lia) ?_;rw[G.key<|by lia,G.key<|by lia];cases hr:κ.blt (KK κ a₀<|g 0) (KK κ a₀<|g<|n-1) with|true=>exact wpS_pure (h n g st B G (Tn n) MU Mq U)|false=>simp only[Bool.false_eq_true,if_false];have all:∀k,k<n->KK κ a₀ (g k)=KK κ a₀ (g<|n-1):=λk hk=>(by have a1:κ.kle (KK κ a₀<|g 0) (KK κ a₀<|g k):=(by by_cases z:k=0;rw[z];exact KeyOrd.kle_refl _;exact(U 0 k (by lia) hk).kle);have a2:κ.kle (KK κ a₀<|g k) (KK κ a₀<|g<|n-1):=(by by_cases z:k=n-1;rw[z];exact KeyOrd.kle_refl _;exact(U k (n-1) (by lia)<|by lia).kle);exact KeyOrd.kle_antisymm a2<|KeyOrd.kle_trans hr a1);refine wpS_bind<|wpS_reverse<|Hr hO h0 ht (by lia) (B.setArr<|mirror_perm _ _ _ _) (G.mirror B.size<|by lia) ?_ h;refine .next (λi j pF hj=>?_) (λk hk cK=>by rw[gs<|by lia];exact T k (by lia) cK) (by lia) (by lia) ?_;rw[iE<|by lia,iE<|by lia];refine .inr {(all _<|by lia).trans (all _<|by lia).symm,?_};rw[T _ (by lia)<|by lia,T _ (by lia)<|by lia];lia;rw[gs<|by lia,iE<|by lia,all (0+n-1-(n-1))<|by lia];exact j_
 rw[if_neg Q8];obtain rfl:n=1:=by lia
 exact Hr hO h0 ht (by lia) B G (.next (λi j pF hj=>by lia) (Tn 1) (by lia) (by lia) j_) h
theorem Ux{st:SortSt}{g:Nat->Nat}{n ok:Nat}{Q:Bool->SortSt->Prop}(hO:κ.OneLt)(h0:KeysOf κ a₀)(hn:n<=a₀.size)(aH:ok<=n)(B:SBase a₀ st)(G:Gh a₀ g<|arrOf st)(T:EM g ok a₀.size)(U:BF κ a₀ g ok) (h:∀g' fb,SBase a₀ fb->Gh a₀ g' (arrOf fb)->BF κ a₀ g' n->Q true fb):wpS (model prog w) A E s (binarySort' 0 n ok) Q st:=by
 rw[binarySort'_eq];simp only[Nat.zero_add];refine wpS_bind<|wpS_mono (wpS_forRange (I:=λk c t=>c=(none,())/\∃g',SBase a₀ t/\Gh a₀ g' (arrOf t)/\EM g' k a₀.size/\BF κ a₀ g' (min k n)) (Q:=λc t=>c=(none,())/\∃g',SBase a₀ t/\Gh a₀ g' (arrOf t)/\BF κ a₀ g' n) ?_ ?_ ?_) ?_;rintro k c t hk1 cK ⟨rfl,g',B',G',T',V⟩;rw[show min k n=k by lia]at V;have hk:k<a₀.size:=by lia
 refine wpS_bind<|wpS_mono (wpS_forRange (I:=λx c t2=>t2=t/\∃l r,c=(none,l,r)/\l<=r/\r<=k/\r-l<=k-x/\(∀i,i<l->κ.kle (KK κ a₀<|g' i) (KK κ a₀<|g' k))/\(∀i,r<=i->i<k->κ.klt (KK κ a₀<|g' k) (KK κ a₀<|g' i))) (Q:=λc t2=>t2=t/\∃l r,c=(none,l,r)/\l<=k/\(∀i,i<l->κ.kle (KK κ a₀<|g' i) (KK κ a₀<|g' k))/\(∀i,l<=i->i<k->κ.klt (KK κ a₀<|g' k) (KK κ a₀<|g' i))) ?_ ?_ ?_) ?_;rintro x c t2 _ hxk ⟨rfl,l,r,rfl,EN,YN,hm,lo,hi⟩;dsimp only;by_cases hge:l>=r;rw[if_pos hge];obtain rfl:l=r:=by lia
 exact wpS_pure ⟨rfl,l,l,rfl,YN,lo,hi⟩;rw[if_neg hge];refine wpS_bind<|wpS_ltKK hO B' h0 hk (by lia) ?_;rw[G'.key hk,G'.key<|by lia];cases hl:κ.blt (KK κ a₀<|g' k) (KK κ a₀<|g'<|(l+r)/2) with|true=>refine wpS_pure {rfl,l,(l+r)/2,rfl,by lia,by lia,by lia,lo,λi a b=>?_};by_cases z:i=(l+r)/2;rw[z];exact hl;exact KeyOrd.klt_of_klt_of_kle hl (V _ _ (by lia) b).kle|false=>refine wpS_pure {rfl,(l+r)/2+1,r,rfl,by lia,by lia,by lia,λi a=>?_,hi};by_cases z:i=(l+r)/2;rw[z];exact hl;exact KeyOrd.kle_trans (V i ((l+r)/2) (by lia)<|by lia).kle hl
 rintro c t2 ⟨rfl,l,r,rfl,EN,YN,hm,lo,hi⟩;obtain rfl:l=r:=by lia
 exact⟨rfl,l,l,rfl,YN,lo,hi⟩;exact{rfl,0,k,rfl,by lia,by lia,by lia,λi hi=>by lia,λi a b=>by lia};rintro c t2 ⟨rfl,l,r,rfl,YO,lo,hi⟩;show wpS _ _ _ _ (do moveDown' k l;pure (ForInStep.yield (none,()))) _ _;rw[moveDown'_eq];refine wpS_bind<|wpS_modify<|wpS_pure {rfl,_,B'.setArr<|bubble_perm _ _ _,G'.bubble B'.size YO hk,λx Ew GW=>?_,?_};show K5 g' k l x=x;unfold K5;rw[if_neg<|by lia,if_neg<|by lia];exact T' x (by lia) GW;rw[show min (k+1) n=k+1 by lia];have lw:∀i,i<k->g' i<k:=λi q=>G'.low T' (by lia) q;have ek:=T' k (zl _) hk;intro i j pF hj;show Log κ a₀ (K5 g' k l i) (K5 g' k l j);unfold K5;by_cases i1:i=l;rw[if_pos i1,if_neg<|by lia,if_pos<|by lia];exact .inl<|hi _ (by lia) (by lia);rw[if_neg i1];by_cases j1:j=l;rw[if_pos j1,if_neg<|by lia];have h1:=lo i (by lia);have h2:=lw i (by lia);rw[ek]at h1⊢;exact MQ h1 h2;rw[if_neg j1];by_cases i2:l<i/\i<=k<;>by_cases j2:l<j/\j<=k;rw[if_pos i2,if_pos j2];exact V _ _ (by lia) (by lia);lia;rw[if_neg i2,if_pos j2];exact V _ _ (by lia) (by lia);rw[if_neg i2,if_neg j2];exact V _ _ (by lia) (by lia);rintro c t ⟨hc,g',B',G',T',V⟩;refine{hc,g',B',G',?_};rwa [show min (max (max ok 1) n) n=n by lia]at V;refine{rfl,g,B,G,λk hk cK=>T k (by lia) cK,λi j pF hj=>?_};exact U i j pF (by lia);rintro c t ⟨rfl,g',B',G',V⟩;exact wpS_pure<|h g' t B' G' V
def Pl(κ:KeyKind)(a₀:Array Keyed)(st:SortSt):Prop:=failedOf st=none/\pendingOf st=#[(0,a₀.size,0)]/\∃g,(arrOf st).size=a₀.size/\Gh a₀ g (arrOf st)/\BF κ a₀ g a₀.size
theorem Pm{st:SortSt}{Q:Unit->SortSt->Prop}(hO:κ.OneLt)(h0:KeysOf κ a₀)(B:SBase a₀ st)(e0:arrOf st=a₀)(h2:2<=a₀.size)(FP:a₀.size<64) (h:∀fb g,failedOf fb=none->(arrOf fb).size=a₀.size->Gh a₀ g (arrOf fb)->BF κ a₀ g a₀.size->Q () fb):wpS (model prog w) A E s sortRuns' Q st:=by
 have G:Gh a₀ (λk=>k) (arrOf st):={λk _=>by rw[e0],λk hk=>hk,λ_ _ _ _ e=>e};have fin:∀(t:SortSt)(g:Nat->Nat),SBase a₀ t->Gh a₀ g (arrOf t)->BF κ a₀ g a₀.size->Pl κ a₀ (setPending t<|(pendingOf t).push (0,a₀.size,0)):=λt g B' G' U=>{B'.failed,by show(pendingOf t).push _=_;rw[B'.pend];rfl,g,B'.size,G',U};rw[sortRuns'_eq];refine wpS_bind<|wpS_get ?_;dsimp only;have hm:minRun' a₀.size a₀.size 0=a₀.size:=by obtain⟨f,hf⟩:∃f,a₀.size=f+1:={a₀.size-1,by lia};have:minRun' (f+1) a₀.size 0=a₀.size:=(by rw[minRun'_succ,if_pos FP];rfl);rwa [<-hf]at this
 simp only[B.size,hm];refine wpS_bind<|wpS_mono (wpS_forRange (I:=λx c t=>(x=0/\c=(none,0)/\t=st)\/(1<=x/\c=(none,a₀.size)/\Pl κ a₀ t)) (Q:=λc t=>c=(none,a₀.size)/\Pl κ a₀ t) ?_ ?_<|.inl ⟨rfl,rfl,rfl⟩) ?_;rintro x c t _ hx (⟨rfl,rfl,rfl⟩|⟨Ew,rfl,D⟩);dsimp only;rw[if_neg<|by lia];simp only[Nat.sub_zero,Nat.min_self,Nat.zero_add];refine wpS_bind<|Uw hO h0 (zl _) (by lia) B G (λ_ _ _=>rfl) λm g' t2 B2 G2 T2 hm1 MS U2=>?_;dsimp only;by_cases j_:m<a₀.size;rw[if_pos j_];refine wpS_bind<|wpS_lift<|yT {rfl,?_};refine wpS_bind<|Ux hO h0 (zl _) MS B2 G2 T2 U2 λg3 t3 B3 G3 U3=>?_;simp only[Bool.not_true,Bool.false_eq_true,if_false];refine wpS_bind<|wpS_get ?_;rw[show(pendingOf t3).back?=none by rw[B3.pend];rfl];dsimp only;exact wpS_bind<|wpS_modify<|wpS_pure<|.inr {by lia,rfl,fin t3 g3 B3 G3 U3};rw[if_neg j_];obtain rfl:m=a₀.size:=by lia
 refine wpS_bind<|wpS_get ?_;rw[show(pendingOf t2).back?=none by rw[B2.pend];rfl];dsimp only;exact wpS_bind<|wpS_modify<|wpS_pure<|.inr {by lia,rfl,fin t2 g' B2 G2 U2};dsimp only;rw[if_pos<|zl _];exact wpS_pure ⟨rfl,D⟩;rintro c t (⟨hx,_,_⟩|⟨_,hc,D⟩);lia;exact⟨hc,D⟩;rintro c t ⟨rfl,D⟩;dsimp only;obtain⟨d1,d2,g,d3,d4,d5⟩:=D;refine wpS_bind<|wpS_mono (wpS_forRange (I:=λ_ c t2=>t2=t/\c=(none,())) (Q:=λc t2=>t2=t/\c=(none,())) ?_ (λ_ _ z=>z) ⟨rfl,rfl⟩) ?_;rintro x c t2 _ _ ⟨rfl,rfl⟩;refine wpS_bind<|wpS_get ?_;rw[if_pos<|by rw[d2];exact zl 1];exact wpS_pure ⟨rfl,rfl⟩;rintro c t2 ⟨rfl,rfl⟩;exact wpS_pure<|h _ g d1 d3 d4 d5
end
noncomputable abbrev K6(X:Cx)(qual:Str)(scope:Scope)(L f:Addr)(cv:Value):Env:=envX qual scope L f cv<|clOf X.env.cells scope.names
noncomputable def Q9(X:Cx)(N:List Str)(qual:Str)(scope:Scope)(f:Addr)(cv:Value)(A:Around)(s:Shared)(H:Hp):Cx:={X with A:=A.deeper<|K6 X qual scope s.heap.objs.size f cv,N:=N,dr:=s,uO:=H,env:=K6 X qual scope s.heap.objs.size f cv,outer:=X.stack,stack:=K6 X qual scope s.heap.objs.size f cv::X.stack,ex:=[],fn:=λ_=>false,calm:=true,pn:=[],xe:=λ_ _=>False}
noncomputable abbrev xM(X:Cx)(qual:Str)(params:Arguments)(body:Expr)(scope:Scope)(pm cv lV:Value):Obj:={cls:=.type "function",data:=.func<|kla_fn "<lambda>" qual params body scope (clOf X.env.cells scope.names) pm cv lV}
section
variable{X:Cx}{pins:List (Addr×Obj)}{σ:St}{H:Hp}{s:Shared}{N:List Str}{src:List (Option Nat)}{scope:Scope}{params:Arguments}{body:Expr}{qual p:Str}{pm cv lV u:Value}{f:Addr}{A:Around}{v:V}{te:TE}{Q:VK}
theorem K7(I:Inv X pins σ H s)(S:bI X N src scope)(K8:N[0]?=some p)(hp:scope.names.lookup p=some .local)(h0:src[0]?=some none)(ug:A.frames=some X.stack)(hh:A.handled=none)(r:RelV v u) (Pn:h₁.Ns s.heap.objs.size λx=>[(p,u)].reverse.lookup x) (old:∀b o,s.heap.get? b=some o->h₁.get? b=some o): Inv (Q9 X N qual scope f cv A s H) [] ((pick σ src).set 0<|some v) H {s with heap:=h₁,toks:=tk}:=by
 have iX:∀x c,(clOf X.env.cells scope.names).lookup x=some c->X.env.cells.lookup x=some c:=qE X.env.cells scope.names [] (by intro x c h;simp at h);have J1:∀b:Addr,b∉(Q9 X N qual scope f cv A s H).ex:=λb z=>absurd (show b∈([]:List Addr) from z) (by simp);have Ay:∀x,scope.names.lookup x=some .free->∃c,(clOf X.env.cells scope.names).lookup x=some c:=λx hl=>by have hm:=yj hl;obtain⟨c,Kc⟩:=I.ok.has x<|S.Ay _ hm rfl;exact{c,jm X.env.cells scope.names [] x c (by intro x c h;simp at h) hm Kc}
 refine{{I.ok.mod,S.kind,rfl,rfl,zl _,λx y c h1 h2=>I.ok.inj x y c (iX _ _ h1)<|iX _ _ h2,λx hk=>?_,λx c h=>(nomatch h),λ_=>hh,Around.frames_deeper ug,.inr ⟨rfl,rfl⟩,λb z=>absurd z<|J1 b,I.bs,zK I.ok.AG I.sz,λb _ _=>J1 b,λb z=>absurd z<|J1 b,I.stack,I.pV},rfl,I.bare,Un.kept old,{_,Pn,λi x w e1 e2 e3=>?_},λx c e=>?_,I.aH.fresh<|zl _,λx c e=>I.du x c<|iX x c e,λq hq=>absurd (show q∈([]:List (Addr×Obj)) from hq)<|by simp,I.aH.kept old,?_};have hk:scope.names.lookup x=some .cell\/scope.names.lookup x=some .free:=hk;rcases hk with hk|hk;exact absurd rfl<|S.gH _<|yj hk;exact Ay x hk;have e1:N[i]?=some x:=e1;by_cases hi:i=0;subst hi;rw[K8]at e1;cases e1;have hl:0<(pick σ src).length:=by unfold pick;rw[zc];exact(zt.mp h0).1
 rw[List.getElem?_set_self hl]at e2;cases e2;exact{u,r,.inl {hp,by simp[zP]}};rw[List.getElem?_set_ne<|Ne.symm hi]at e2;unfold pick at e2;rw[zu]at e2;cases es:src[i]? with|none=>(rw[es]at e2;cases e2)|some o=>rw[es]at e2;cases o with|none=>(cases e2)|some j=>have e3:(σ[j]?).join=some w:=zV e2;have e4:σ[j]?=some (some w):=(by cases q:σ[j]? with|none=>(rw[q]at e3;cases e3)|some z=>rw[q]at e3;exact congrArg some e3);obtain⟨a1,a2,a3⟩:=S.src i j x es e1;obtain⟨m0,_,hl⟩:=I.loc;obtain⟨u',r',l⟩:=hl j x w a1 e4 a3;have hm:=yj a2;have hk:=S.Ay _ hm rfl;rcases l with⟨k,_⟩|⟨_,c,Kc,⟨o,ho,hd⟩⟩;rcases hk with hk|hk<;>(rw[k]at hk;cases hk);exact{u',r',.inr {.inr a2,c,jm X.env.cells scope.names [] x c (by intro x c h;simp at h) hm Kc,o,old _ _ ho,hd}}
 obtain⟨w,o,ho,hd⟩:=I.cell x c<|iX x c e;exact{w,o,old _ _ ho,hd};show((pick σ src).set 0<|some v).length=N.length;unfold pick;rw[List.length_set,zc,S.len]
theorem Hs(I:Inv X pins σ H s)(S:bI X N src scope)(K8:N[0]?=some p)(hp:scope.names.lookup p=some .local)(h0:src[0]?=some none)(ug:A.frames=some X.stack)(hh:A.handled=none)(Uy:A.depth<recursionLimit)(r:RelV v u) (ho:s.heap.get? f=some (xM X qual params body scope pm cv lV)) (pW:s.heap.CodeRec cv qual) (K9:scope.isCoroutine=false) (BG:scope.isGenerator=false) (hb:bindArgs (kla_fn "<lambda>" qual params body scope (clOf X.env.cells scope.names) pm cv lV) {[u],[]}=pure [(p,u)]) (he:PE (Q9 X N qual scope f cv A s H) body te) (h:te ((pick σ src).set 0<|some v) H Q): codeAny (model X.prog X.w) A (.call (.ref f) {[u],[]}) (λq s'=>∃w,q=.ok (.ret w)/\CE X.stack X.prog X.w H s Q w s') s:=by refine PySem.W.kla_callFunE Uy ho rfl K9 BG rfl pW ?_;show wpAny _ _ (bindArgs (kla_fn "<lambda>" qual params body scope (clOf X.env.cells scope.names) pm cv lV) {[u],[]}) _ _ _;rw[hb];refine zf<|wpAny_newFunctionEnv S.gH (λx hx=>?_) (λh₁ Pn Kq=>{I.nolimit.fresh _ Kq,?_}) S.kind;rw[zr.mp hx];exact hp;have old:∀b o,s.heap.get? b=some o->h₁.get? b=some o:=λb o e=>Kq.extBut b o (zx<|zq e)<|zb _ e;show codeAny _ _ (.expr body<|K6 X qual scope s.heap.objs.size f cv) _ _;refine PySem.W.kla_codeExpr<|yq (he [] _ _ H Q (K7 I S K8 hp h0 ug hh r Pn old) h) (by rintro w s' ⟨x,H',J,rv,q⟩;exact⟨w,rfl,x,H',J.os,J.bare,J.base,J.aH,rv,q⟩) λ_ _ z=>z.elim
end
@[reducible] def intK:KeyKind where
 α:=Int
 blt a b:=decide<|a<b
 irrefl a:=by simp
 trans a b c h1 h2:=by simp only[yo]at *;lia
 negTrans a b c h:=by simp only[yo]at *;lia
 total a b h1 h2:=by simp only[decide_eq_false_iff_not]at *;lia
 keyOf v:=match v with|.int x _=>some x|_=>none
 dflt:=0
theorem Ht:intK.OneLt:=by intro prog w A E s x y a b Q ha hb h;cases x<;>simp only[intK,reduceCtorEq,Option.some.injEq]at ha;cases y<;>simp only[intK,reduceCtorEq,Option.some.injEq]at hb;cases ha;cases hb;exact oneLt_int h
structure Wf(κ:KeyKind)(b:Bool)(key:Nat->κ.α)(n:Nat)(g:Nat->Nat):Prop where
 lt:∀k,k<n->g k<n
 inj:∀i j,i<n->j<n->g i=g j->i=j
 ord:∀i j,i<j->j<n->(if b=true then κ.klt (key<|g j) (key<|g i) else κ.klt (key<|g i) (key<|g j))\/(key (g i)=key (g j)/\g i<g j)
noncomputable def i3(κ:KeyKind)(us:List Value)(j:Nat):κ.α:=(κ.keyOf<|us.getD j .none).getD κ.dflt
theorem Hu{us vs:List Value}(hl:us.length=vs.length){j:Nat}(hj:j<vs.length):(us.toArray.zip vs.toArray)[j]?=some (us.getD j .none,vs.getD j .none):=by have e:(us.zip vs)[j]?=some (us.getD j .none,vs.getD j .none):=List.getElem?_zip_eq_some.mpr {by show us[j]?=some (us.getD j .none);rw[zJ,zh<|by lia];rfl,by show vs[j]?=some (vs.getD j .none);rw[zJ,zh hj];rfl};rw[<-Array.getElem?_toList,ksk_zip,List.toList_toArray];exact e
theorem vA{κ:KeyKind}{us vs:List Value}(hl:us.length=vs.length){j:Nat}(hj:j<vs.length):KK κ (us.toArray.zip vs.toArray) j=i3 κ us j:=by unfold KK i3;rw[Hu hl hj]
theorem xN{l m:List Value}{n:Nat}(h1:l.length=n)(h2:m.length=n)(h:∀k,k<n->l[k]?=m[k]?):l=m:=by apply List.ext_getElem?;intro k;by_cases hk:k<n;exact h k hk;rw[List.getElem?_eq_none<|by lia,List.getElem?_eq_none<|by lia]
section
variable{prog:Program}{w:World}{A:Around}{E:Value->Shared->Prop}{s:Shared}{a kS:Addr}{b:Bool}{us vs:List Value}{e e1:Nat}{P:PySem.Fin->Shared->Prop}{κ:KeyKind}
theorem Dh{st:SortSt}{keys:Array Value}(hk:s.heap.get? kS=some (seqObj "list" keys e))(ha:s.heap.get? a=some (seqObj "list" #[] e1))(Po:kS≠a)(hz:keys.size<64)(Pp:(arrOf st).size<64)(Q0:failedOf st=none) (h:∀h' c,(∀b o,b≠a->b≠kS->s.heap.get? b=some o->h'.get? b=some o)->h'.get? a=some (seqObj "list" (if b then ((arrOf st).map (·.2)).reverse else (arrOf st).map (·.2)) c)->P (.done<|.ret .none) {s with heap:=h'}): wpAny (model prog w) A (ksk_tail a b e1 (.ref kS) st) P E s:=by
 have s1:=yD s.heap kS<|Obj.mapSeq λ_=>(#[]:Array Value);have YQ:(s.heap.update kS<|Obj.mapSeq λ_=>(#[]:Array Value)).get? a=some (seqObj "list" #[] e1):=(s1.2 a Po.symm).trans ha;have sZ:∀o:Array Value,o=(if b then ((arrOf st).map (·.2)).reverse else (arrOf st).map (·.2))->o.size<64:=by rintro o rfl;cases b with|false=>rw[if_neg zd,Array.size_map];exact Pp|true=>rw[if_pos rfl,Array.size_reverse,Array.size_map];exact Pp
 generalize ho:(if b then ((arrOf st).map (·.2)).reverse else (arrOf st).map (·.2))=out at h sZ;have sZ:=sZ out rfl;have s2:=yD (s.heap.update kS<|Obj.mapSeq λ_=>(#[]:Array Value)) a<|Obj.mapSeq λ_=>out;obtain⟨c2,J2⟩:∃c2,((s.heap.update kS<|Obj.mapSeq λ_=>(#[]:Array Value)).update a<|Obj.mapSeq λ_=>out).get? a=some (seqObj "list" out c2):={_,get?_update_seq YQ λ_=>out};unfold ksk_tail;try dsimp only
 refine za<|listUpdate_at hk rfl ?_ (by rw[zZ];lia)<|yh _;refine za<|wpAny_letGo ?_;refine za<|seqEpoch_at YQ rfl ?_;rw[ho];refine za<|listUpdate_at YQ rfl ?_ (yh _)<|zK (yM sZ) (by rw[zZ];lia);rw[Q0];simp only[bne_self_eq_false,Bool.false_eq_true,if_false];exact zf<|h _ c2 (λb o h1 h2 q=>(s2.2 b h1).trans<|(s1.2 b h2).trans q) J2
theorem Hv{xs:Array Keyed}{g:Nat->Nat}(hl:us.length=vs.length)(hs:xs.size=vs.length) (G:Gh (if b=true then (us.toArray.zip vs.toArray).reverse else us.toArray.zip vs.toArray) g xs) (U:BF κ (if b=true then (us.toArray.zip vs.toArray).reverse else us.toArray.zip vs.toArray) g vs.length): ∃g',Wf κ b (i3 κ us) vs.length g'/\(if b then (xs.map (·.2)).reverse else xs.map (·.2)).toList=(List.range vs.length).map λk=>vs.getD (g' k) .none:=by
 have AD:(us.toArray.zip vs.toArray).size=vs.length:=by rw[Array.size_zip,zk,zk,hl,Nat.min_self]
 have zat:∀k,k<vs.length->(us.toArray.zip vs.toArray)[k]?=some (us.getD k .none,vs.getD k .none):=λk hk=>Hu hl hk;cases b with|false=>rw[if_neg zd]at G U;refine{g,{λk hk=>by have:=G.lt k (by rw[AD];exact hk);rwa [AD]at this,λi j hi hj=>G.inj i j (by rw[AD];exact hi)<|by rw[AD];exact hj,λi j pF hj=>?_},?_};have h1:=G.lt i (by rw[AD];lia);have h2:=G.lt j (by rw[AD];lia);rw[AD]at h1 h2;have:=U i j pF hj;unfold Log at this;rw[vA hl h1,vA hl h2]at this;rw[if_neg zd];exact this;rw[if_neg zd];refine xN (n:=vs.length) (by rw[yn,Array.size_map,hs]) (by simp) λk hk=>?_;have h1:=G.lt k (by rw[AD];lia);rw[AD]at h1;rw[Array.getElem?_toList,Array.getElem?_map,G.at_ k<|by rw[AD];exact hk,zat _ h1,zu,List.getElem?_range hk];rfl|true=>rw[if_pos rfl]at G U;have sI:(us.toArray.zip vs.toArray).reverse.size=vs.length:=(by rw[Array.size_reverse,AD]);have lt:∀k,k<vs.length->g k<vs.length:=λk hk=>(by have:=G.lt k (by rw[sI];exact hk);rwa [sI]at this);have rat:∀k,k<vs.length->(us.toArray.zip vs.toArray).reverse[k]?=(us.toArray.zip vs.toArray)[vs.length-1-k]?:=λk hk=>(by rw[Array.getElem?_reverse<|by rw[AD];exact hk,AD]);refine{λk=>vs.length-1-g (vs.length-1-k),{λk hk=>by have:=lt (vs.length-1-k) (by lia);lia,λi j hi hj e=>?_,λi j pF hj=>?_},?_};have h1:=lt (vs.length-1-i) (by lia);have h2:=lt (vs.length-1-j) (by lia);have:=G.inj (vs.length-1-i) (vs.length-1-j) (by rw[sI];lia) (by rw[sI];lia) (by lia);lia;have h1:=lt (vs.length-1-i) (by lia);have h2:=lt (vs.length-1-j) (by lia);have:=U (vs.length-1-j) (vs.length-1-i) (by lia) (by lia);unfold Log at this;have e1:KK κ (us.toArray.zip vs.toArray).reverse (g<|vs.length-1-i)=i3 κ us (vs.length-1-g (vs.length-1-i)):=(KK_congr<|rat _ h1).trans<|vA hl (by lia);have e2:KK κ (us.toArray.zip vs.toArray).reverse (g<|vs.length-1-j)=i3 κ us (vs.length-1-g (vs.length-1-j)):=(KK_congr<|rat _ h2).trans<|vA hl (by lia);rw[e1,e2]at this;rw[if_pos rfl];rcases this with z|⟨z1,z2⟩;exact .inl z;exact .inr {z1.symm,by lia};rw[if_pos rfl];refine xN (n:=vs.length) (by rw[yn,Array.size_reverse,Array.size_map,hs]) (by simp) λk hk=>?_;have h1:=lt (vs.length-1-k) (by lia);rw[Array.getElem?_toList,Array.getElem?_reverse<|by rw[Array.size_map,hs];exact hk,Array.size_map,hs,Array.getElem?_map,G.at_ _<|by rw[sI];lia,rat _ h1,zat _<|by lia,zu,List.getElem?_range hk];rfl
theorem Pq(hO:κ.OneLt)(hk:s.heap.get? kS=some (seqObj "list" us.toArray e))(ha:s.heap.get? a=some (seqObj "list" #[] e1))(Po:kS≠a)(hl:us.length=vs.length)(FP:vs.length<64)(h0:∀u∈us,∃x,κ.keyOf u=some x) (hkk:∀nH nI rest,us=nH::nI::rest->keyKind' (nH::nI::rest).toArray=pure oneType') (h:∀h' c g out,(∀b o,b≠a->b≠kS->s.heap.get? b=some o->h'.get? b=some o)->h'.get? a=some (seqObj "list" out c)->Wf κ b (i3 κ us) vs.length g->out.toList=(List.range vs.length).map (λk=>vs.getD (g k) .none)->P (.done<|.ret .none) {s with heap:=h'}): wpAny (model prog w) A (ksk_end a b vs.toArray e1 (.ref kS) us.toArray) P E s:=by
 have AD:(us.toArray.zip vs.toArray).size=vs.length:=by rw[Array.size_zip,zk,zk,hl,Nat.min_self]
 have step:∀t:Sem PySem.Fin,wpAny (model prog w) A t P E s->wpAny (model prog w) A (if b=true then (do let _ <-rule "list.sort.reverse";t) else t) P E s:=by intro t ht;split;exact za<|yT ht;exact ht
 have hsz:(if b=true then (us.toArray.zip vs.toArray).reverse else us.toArray.zip vs.toArray).size=vs.length:=by cases b with|false=>exact AD|true=>rw[if_pos rfl,Array.size_reverse,AD]
 have keys:KeysOf κ (if b=true then (us.toArray.zip vs.toArray).reverse else us.toArray.zip vs.toArray):=λp hp=>by have hp:p∈us.zip vs:=(by have e2:(us.toArray.zip vs.toArray).toList=us.zip vs:=(by rw[ksk_zip]);cases b with|false=>rw[if_neg zd,e2]at hp;exact hp|true=>rw[if_pos rfl,Array.toList_reverse,e2]at hp;exact List.mem_reverse.mp hp);obtain⟨x,y⟩:=p;exact h0 _ (List.of_mem_zip hp).1
 unfold ksk_end;try dsimp only
 refine step _ ?_;by_cases h2:vs.toArray.size<2;{rw[if_pos h2,if_pos h2];refine za<|zf ?_;rw[StateT.run_pure];refine za<|zf ?_;(try dsimp only);rw[zk]at h2;refine Dh (st:=SortSt.mk' general' (if b=true then (us.toArray.zip vs.toArray).reverse else us.toArray.zip vs.toArray) #[] 7 none) hk ha Po (by rw[zk];lia) (by show(if b=true then (us.toArray.zip vs.toArray).reverse else us.toArray.zip vs.toArray).size<64;lia) rfl λh' c k1 k2=>?_;obtain⟨g,g1,g2⟩:=Hv (κ:=κ) (b:=b) (xs:=if b=true then (us.toArray.zip vs.toArray).reverse else us.toArray.zip vs.toArray) (g:=λk=>k) hl hsz {λ_ _=>rfl,λ_ hk=>hk,λ_ _ _ _ e=>e} (λi j pF hj=>by lia);exact h h' c g _ k1 k2 g1 g2};{rw[if_neg h2,if_neg h2];rw[zk]at h2;obtain⟨nH,nI,rest,eu⟩:∃nH nI rest,us=nH::nI::rest:=(by match us,hl with|[],hl=>simp at hl;lia|[_],hl=>simp at hl;lia|nH::nI::rest,_=>exact⟨nH,nI,rest,rfl⟩);have ek:keyKind' us.toArray=pure oneType':=(by rw[eu];exact hkk _ _ _ eu);rw[ek];refine za<|zf ?_;refine za<|yq (Pm (κ:=κ) hO (a₀:=if b=true then (us.toArray.zip vs.toArray).reverse else us.toArray.zip vs.toArray) (st:=SortSt.mk' oneType' (if b=true then (us.toArray.zip vs.toArray).reverse else us.toArray.zip vs.toArray) #[] 7 none) (Q:=λ_ fb=>failedOf fb=none/\(arrOf fb).size=vs.length/\∃g,Gh (if b=true then (us.toArray.zip vs.toArray).reverse else us.toArray.zip vs.toArray) g (arrOf fb)/\BF κ (if b=true then (us.toArray.zip vs.toArray).reverse else us.toArray.zip vs.toArray) g vs.length) keys {Array.Perm.refl _,rfl,rfl,rfl} rfl (by lia) (by lia) λfb g q1 q2 q3 q4=>{q1,q2.trans hsz,g,q3,by rw[hsz]at q4;exact q4}) ?_ λ_ _ e=>e;rintro⟨⟨⟩,fb⟩ s' ⟨rfl,hf,YR,g,G,U⟩;(try dsimp only);have YR:(arrOf fb).size=vs.length:=YR;refine Dh hk ha Po (by rw[zk];lia) (by lia) hf λh' c k1 k2=>?_;obtain⟨g',g1,g2⟩:=Hv (κ:=κ) hl YR G U;exact h h' c g' _ k1 k2 g1 g2}
end
structure MV(X:Cx)(pins:List (Addr×Obj))(b:Addr):Prop where
 loc:b≠X.env.locals
 fs:b∉X.fs
 cell:∀x c,X.env.cells.lookup x=some c->c≠b
 pin:∀p∈X.pn++pins,p.1≠b
 new:X.dr.heap.objs.size<=b
section
variable{X:Cx}{pins:List (Addr×Obj)}{σ:St}{H:Hp}{s:Shared}
theorem Inv.Wh(I:Inv X pins σ H s)(h:s.heap.objs.size<=b):MV X pins b:={yr<|zm I.lt h,I.RF h,λx c e=>by obtain⟨v,q⟩:=I.cell x c e;exact zx<|zm q.lt h,λp hp=>zx<|zm (zq (I.pin p hp).1) h,zK I.sz h}
theorem Inv.K_(I:Inv X pins σ H s)(kp:∀b o,b≠a->b≠k->s.heap.get? b=some o->h'.get? b=some o)(ha:H a=none)(hk:H k=none)(Aa:MV X pins a)(Ak:MV X pins k):Inv X pins σ H {s with heap:=h',toks:=t'}:=by have NB:∀b u,H b=some u->b≠a/\b≠k:=λb u e=>{λz=>(by rw[z,ha]at e;cases e),λz=>(by rw[z,hk]at e;cases e)};refine I.step (g':=s.gens) (d':=s.drawn) (ch:=[a,k]) (λb hb=>?_) (λb o _ _ hc e _=>kp b o (λz=>hc<|by simp[z]) (λz=>hc<|by simp[z]) e) (λb o _ _ hc e _=>{o.slots,kp b o (λz=>hc<|by simp[z]) (λz=>hc<|by simp[z]) e}) (λ_ _ _ _ n=>n) (λb o hc e=>{o,kp b o (λz=>hc<|by simp[z]) (λz=>hc<|by simp[z]) e}) (λ_ _ e=>e) (λ_ _ _ e=>e) (λb ps e=>{#[],by rw[e];simp}) (λm hm=>?_) (λb u e=>?_) I.bare;simp only[zg,zG,or_false]at hb;rcases hb with rfl|rfl;exact{.inr Aa.new,Aa.loc,Aa.cell,Aa.pin};exact{.inr Ak.new,Ak.loc,Ak.cell,Ak.pin};obtain⟨o,es,ep,ho,r⟩:=hm;exact{o,es,ep,kp _ o (Ne.symm Aa.loc) (Ne.symm Ak.loc) ho,r};refine(I.aH b u e).lX (λc v hc q=>?_) (λ_ q=>q) λ_ _ q=>q;rcases hc with z|z;rw[z]at q⊢;exact kp b v (NB b u e).1 (NB b u e).2 q;exact kp c v (NB c _ z).1 (NB c _ z).2 q
theorem Inv.Uz(I:Inv X pins σ H s)(ha:H a=none)(A:MV X pins a)(new:aU X.prog X.w (upd H a o) s.heap a o):Inv X pins σ (upd H a o) s:=by refine I.step (h':=s.heap) (g':=s.gens) (d':=s.drawn) (t':=s.toks) (ch:=[a]) (λb hb=>?_) (λb o _ _ hc e _=>e) (λb o _ _ hc e _=>⟨o.slots,e⟩) (λb u hc e n=>?_) (λb o hc e=>⟨o,e⟩) (λb xs e=>?_) (λb u v e=>?_) (λb ps e=>?_) (λm hm=>hm) (λb u e=>?_) I.bare;rw[zr.mp hb];exact{.inr A.new,A.loc,A.cell,A.pin};rw[ao λz=>hc<|by simp[z]];exact n;rw[ao<|aw e ha];exact e;rw[ao<|aw e ha];exact e;exact{#[],by rw[ao<|aw e ha,e];simp};by_cases hb:b=a;subst hb;rw[aD]at e;cases e;exact new;rw[ao hb]at e;exact(I.aH b u e).lX (λc v _ q=>q) (λc q=>by rw[ao<|aw q ha];exact q) λc xs q=>by rw[ao<|aw q ha];exact q
end
def Hw(X:Cx)(pins:List<|Addr×Obj)(σ:St)(A:Around)(f:Addr)(xs:List V)(W:Nat->List V->Hp->Prop):Prop:=∀i x u ks s' H' more,Inv X (pins++more) σ H' s'->W i ks H'->xs[i]?=some x->RelV x u->codeAny (model X.prog X.w) A (.call (.ref f) {[u],[]}) (λq AX=>∃w,q=.ok (.ret w)/\CE X.stack X.prog X.w H' s' (λk H''=>W (i+1) (ks++[k]) H'') w AX) s'
structure MW(κ:KeyKind)(us:List Value):Prop where
 all:∀u∈us,∃x,κ.keyOf u=some x
 kind:∀nH nI rest,us=nH::nI::rest->keyKind' (nH::nI::rest).toArray=pure oneType'
section
variable{X:Cx}{pins:List (Addr×Obj)}{σ:St}{H:Hp}{s:Shared}{A:Around}{E:Value->Shared->Prop}{xs:List V}{vs:List Value}{f:Addr}{b:Bool}{κ:KeyKind}{W:Nat->List V->Hp->Prop}
theorem EO{P:PySem.Fin->Shared->Prop}(hO:κ.OneLt)(I:Inv X pins σ H s)(ha:s.heap.get? a=some (seqObj "list" #[] e1))(hk:s.heap.get? kS=some (seqObj "list" #[] 0))(Po:kS≠a)(na:H a=none)(nk:H kS=none)(Aa:MV X pins a)(Ak:MV X pins kS) (hv:Vals xs vs) (FP:vs.length<64) (T:Hw X pins σ A f xs W) (w0:W 0 [] H) (G:∀ks us H',W vs.length ks H'->Vals ks us->ks.length=vs.length->MW κ us) (h:∀s' H' ks us c g out,Inv X pins σ H' s'->H' a=none->s'.heap.get? a=some (seqObj "list" out c)->W vs.length ks H'->Vals ks us->ks.length=vs.length->Wf κ b (i3 κ us) vs.length g->out.toList=(List.range vs.length).map (λk=>vs.getD (g k) .none)->P (.done<|.ret .none) s'): wpAny (model X.prog X.w) A (ksk_rest a (.ref f) b vs.toArray e1<|.ref kS) P E s:=by
 have nc:∀(k:Array Value) (n:Nat) (v:Option Value),(seqObj "list" k n).data≠.cell v:=λ_ _ _ z=>nomatch z;unfold ksk_rest;refine za<|yT ?_;rw[List.forIn_toArray];refine za<|ksk_fold (λi s'=>∃ks kA e H',Inv X pins σ H' s'/\W i ks H'/\Vals ks kA.toList/\ks.length=i/\H' a=none/\H' kS=none/\s'.heap.get? a=some (seqObj "list" #[] e1)/\s'.heap.get? kS=some (seqObj "list" kA e)) vs 0 s {[],#[],0,H,I,w0,.nil,rfl,na,nk,ha,hk} ?_ ?_;rintro j x s' hx ⟨ks,kA,e,H',I',w',v',l',Wi,YS,YT,OC⟩;simp only[Nat.zero_add]at l' w'⊢;have hj:j<vs.length:=(zt.mp hx).1;have hl:xs.length=vs.length:=hv.length;obtain⟨y,hy⟩:∃y,xs[j]?=some y:={_,zh<|by lia};obtain⟨u,hu,ru⟩:=hv.get hy;rw[hx]at hu;cases hu;have Ip:Inv X (pins++[(a,seqObj "list" #[] e1),(kS,seqObj "list" kA e)]) σ H' s':=by refine{I'.ok,I'.os,I'.bare,I'.base,I'.loc,I'.cell,I'.free,I'.du,λp hp=>?_,I'.aH,I'.len};rcases zO.mp hp with hp|hp;exact I'.pin p<|zU _ hp;rcases zO.mp hp with hp|hp;exact I'.pin p<|zC _ hp;simp only[zg,zG,or_false]at hp;rcases hp with rfl|rfl;exact{YT,Wi,Aa.loc,Aa.fs,nc _ _};exact{OC,YS,Ak.loc,Ak.fs,nc _ _}
 have hz:kA.size=j:=by have h1:ks.length=kA.toList.length:=v'.length;have h2:kA.toList.length=kA.size:=yn;lia
 refine za<|wpAny_attempt<|wpAny_call<|yO (T j y x ks s' H' _ Ip w' hy ru) λr s2 hq=>?_;obtain⟨w,rfl,ce⟩:=hq;obtain⟨k,H2,I2,rk,w2⟩:=Ip.after ce;dsimp only;have pa:=I2.pin (a,seqObj "list" #[] e1)<|zC _<|zC _ (by simp);have pk:=I2.pin (kS,seqObj "list" kA e)<|zC _<|zC _ (by simp);have I3:Inv X pins σ H2 s2:={I2.ok,I2.os,I2.bare,I2.base,I2.loc,I2.cell,I2.free,I2.du,λp hp=>I2.pin p<|by rcases zO.mp hp with z|z;exact zU _ z;exact zC _<|zU _ z,I2.aH,I2.len};have s1:=yD s2.heap kS (Obj.mapSeq (·.push w));obtain⟨c2,J2⟩:∃c2,(s2.heap.update kS (Obj.mapSeq (·.push w))).get? kS=some (seqObj "list" (kA.push w) c2):={_,get?_update_seq pk.1 (·.push w)};refine za<|listUpdate_at pk.1 rfl ?_ (by rw[zZ];lia)<|zK (Nat.le_of_eq<|Array.size_push ..) (by rw[zZ];lia);refine zf {rfl,ks++[k],kA.push w,c2,H2,I3.turned (t':=s2.toks) (it:=kS) (λb o hb q=>(s1.2 b hb).trans q) pk.2.1 Ak.loc (.inr Ak.new) Ak.cell Ak.pin,w2,?_,by simp[l'],pa.2.1,pk.2.1,(s1.2 a Po.symm).trans pa.1,J2};rw[show(kA.push w).toList=kA.toList++[w] by simp];exact v'.append<|.cons rk .nil;rintro s' ⟨ks,kA,e,H',I',w',v',l',Wi,YS,YT,OC⟩;simp only[Nat.zero_add]at l' w';refine za<|listItems_at OC rfl ?_;have eA:kA=kA.toList.toArray:=by simp
 have good:=G ks kA.toList H' w' v' l';have hl:kA.toList.length=vs.length:=by have h1:ks.length=kA.toList.length:=v'.length;lia
 rw[eA]at OC;show wpAny _ _ (ksk_end a b vs.toArray e1 (.ref kS) kA) _ _ _;rw[eA];refine Pq (κ:=κ) hO OC YT Po hl FP good.all good.kind λh' c g out k1 k2 k3 k4=>?_;exact h _ H' ks kA.toList c g out (I'.K_ (t':=s'.toks) k1 Wi YS Aa Ak) Wi k2 w' v' l' k3 k4
theorem ux(hO:κ.OneLt)(I:Inv X pins σ H s)(hl:ji X.K H l xs)(FP:xs.length<64)(Pr:argsOk "sorted" {[.ref l],kw})(Wj:∀x,argsOk "list.sort" {[.ref x],kw})(ht:∀x,Builtin.«list.sort» {[.ref x],kw}=ksk_tree x (.ref f) b) (T:Hw X pins σ A.in1.in1 f xs W) (w0:W 0 [] H) (G:∀ks us H',W xs.length ks H'->Vals ks us->ks.length=xs.length->MW κ us) (h:∀H' ks us g D,W xs.length ks H'->Vals ks us->ks.length=xs.length->Wf κ b (i3 κ us) xs.length g->H' D=none->Q (.ref D) (upd H' D<|.lst<|(List.range xs.length).map λk=>xs.getD (g k) .av)): wpAny (model X.prog X.w) A (call (.builtin "sorted") [.ref l] kw) (EP X pins σ Q) E s:=by
 obtain⟨vs,hv,pl,_⟩:=I.list hl;have Q_:xs.length=vs.length:=hv.length;rw[Q_]at FP G h;refine call_function_entry_kw kind_sorted plain_sorted entry_sorted Pr ?_;unfold Builtin.«sorted»;refine za (m:=checkCount "sorted" 1 1 _)<|zf ?_;refine za<|collect_list pl.isList ?_ (by rw[zZ];lia);refine za<|wpAny_newList ?_ (by rw[zZ];lia);have hsz:((s.heap.push<|seqObj "list" #[] 0).update s.heap.objs.size (Obj.mapSeq (·++vs.toArray))).objs.size=s.heap.objs.size+1:=by rw[Heap.size_update,size_push']
 have FH:(((s.heap.push<|seqObj "list" #[] 0).update s.heap.objs.size (Obj.mapSeq (·++vs.toArray))).push<|seqObj "list" vs.toArray 0).get? (s.heap.objs.size+1)=some (seqObj "list" vs.toArray 0):=by rw[<-hsz];exact zi _ rfl
 have keep:∀b o,s.heap.get? b=some o->(((s.heap.push<|seqObj "list" #[] 0).update s.heap.objs.size (Obj.mapSeq (·++vs.toArray))).push<|seqObj "list" vs.toArray 0).get? b=some o:=λb o q=>by have j_:b<s.heap.objs.size:=zq q;rw[Heap.get?_push_ne _ _ _<|by rw[hsz];exact zx<|Nat.lt_succ_of_lt j_,Heap.get?_update_ne _ _ _ _<|zx j_,Heap.get?_push_ne _ _ _<|zx j_];exact q
 show wpAny _ _ _ _ _ {s with heap:=((s.heap.push<|seqObj "list" #[] 0).update s.heap.objs.size (Obj.mapSeq (·++vs.toArray))).push<|seqObj "list" vs.toArray 0};rw[hsz];generalize hg:((s.heap.push<|seqObj "list" #[] 0).update s.heap.objs.size (Obj.mapSeq (·++vs.toArray))).push (seqObj "list" vs.toArray 0)=h1 at FH keep⊢;have I1:Inv X pins σ H {s with heap:=h1}:=I.kept (t':=s.toks) keep;have Aa:MV X pins (s.heap.objs.size+1):=I.Wh<|yU _;have na:H (s.heap.objs.size+1)=none:=I.aH.fresh<|yU _;generalize s.heap.objs.size+1=a at FH Aa na⊢;refine za<|yg<|wpAny_call_entry_kw slot_list_sort {_,FH,rfl} entry_list_sort ?_<|Wj _;show wpAny (model X.prog X.w) A.in1.in1 (Builtin.«list.sort» {[.ref a],kw}) _ _ _;rw[ht a];have s1:=yD h1 a<|Obj.mapSeq λ_=>(#[]:Array Value);obtain⟨e1,Rb⟩:∃e1,(h1.update a<|Obj.mapSeq λ_=>(#[]:Array Value)).get? a=some (seqObj "list" #[] e1):={_,get?_update_seq FH λ_=>#[]};have I2:Inv X pins σ H {s with heap:=h1.update a<|Obj.mapSeq λ_=>(#[]:Array Value)}:=Inv.turned (s:={s with heap:=h1}) (h':=h1.update a<|Obj.mapSeq λ_=>(#[]:Array Value)) (t':=s.toks) (it:=a) I1 (λb o hb q=>(s1.2 b hb).trans q) na Aa.loc (.inr Aa.new) Aa.cell Aa.pin;unfold ksk_tree;refine za<|listItems_at FH rfl ?_;refine za<|listUpdate_at FH rfl ?_ (by rw[zk,zZ];lia)<|yh _;refine za<|seqEpoch_at Rb rfl ?_;refine za<|wpAny_newTuple ?_ (by show vs.length<=_;rw[zZ];lia);refine za<|wpAny_newList ?_<|yh _;refine yg ?_;generalize h1.update a (Obj.mapSeq λ_=>(#[]:Array Value))=h2 at Rb I2⊢;have k3:∀b u,h2.get? b=some u->((h2.push<|seqObj "tuple" vs.toArray 0).push<|seqObj "list" #[] 0).get? b=some u:=λb u q=>zb _<|zb _ q;have I3:Inv X pins σ H {s with heap:=(h2.push<|seqObj "tuple" vs.toArray 0).push<|seqObj "list" #[] 0}:=I2.kept (t':=s.toks) k3;have JC:h2.objs.size<=(h2.push<|seqObj "tuple" vs.toArray 0).objs.size:=by rw[size_push'];exact yU _
 refine EO (s:={s with heap:=(h2.push<|seqObj "tuple" vs.toArray 0).push<|seqObj "list" #[] 0}) (kS:=(h2.push<|seqObj "tuple" vs.toArray 0).objs.size) hO I3 (k3 _ _ Rb) (zi _ rfl) (yr<|zm (zq Rb) JC) na (I2.aH.fresh JC) Aa (I2.Wh JC) hv FP T w0 G λs' H' ks us c g out J n1 o1 w1 v1 l1 q1 q2=>{.none,rfl,?_};refine zf !{.ref a,_,J.Uz (o:=.lst<|(List.range vs.length).map λk=>xs.getD (g k) .av) n1 Aa {?_,out.toList,c,?_,?_},rfl,h H' ks us g a w1 v1 l1 q1 n1};rw[zc,List.length_range,zZ];lia;rw[q2];have:∀(ns:List Nat),(∀k∈ns,g k<vs.length)->Vals (ns.map λk=>xs.getD (g k) .av) (ns.map λk=>vs.getD (g k) .none):=λns=>by induction ns with|nil=>exact λ_=>.nil|cons k ns ih=>intro hk;have YU:=hk k zy;obtain⟨y,hy⟩:∃y,xs[g k]?=some y:={_,zh<|by lia};obtain⟨u,hu,ru⟩:=hv.get hy;refine .cons ?_<|ih λk cK=>hk k<|zj _ cK;show RelV (xs.getD (g k) .av) (vs.getD (g k) .none);rw[zJ,hy,zJ,hu];exact ru
 exact this _ λk hk=>q1.lt k<|zT.mp hk;rw[o1]
end
def Bm(mg:Str->Option Value)(base:Heap):Prop:=∃bm o,mg "__builtins__"= some (.ref bm)/\bm≠builtinsNs/\base.get? bm=some o/\o.cls=.type "module"/\o.dict=some builtinsNs/\o.data=.plain
structure YV(K:Frag)(mg:Str->Option Value)(base:Heap)(c P:Addr):Prop where
 hd:codeHdIn K c P=true
 bm:Bm mg base
theorem BH{pos p2:Pos}{c cv:Value}(l:List Value)(h:TriplesOk l)(e:codeAmong pos (l++[rawInt p2.line,rawInt p2.col,c])=some cv):codeAmong pos l=some cv\/cv=c:=by fun_induction TriplesOk l with|case1=>(simp only[List.nil_append,rawInt,codeAmong]at e;split at e;cases e;exact .inr rfl;cases e)|case2 a t b u x rest ih=>simp only[List.cons_append,codeAmong]at e⊢;split at e;rename_i hc;rw[if_pos hc];exact .inl e;rename_i hc;rw[if_neg hc];exact ih h e|case3 l h1 h2=>exact h.elim
section
variable{X:Cx}{pins:List (Addr×Obj)}{σ:St}{H:Hp}{s:Shared}
theorem Inv.tab{h':Heap}{tk:Nat}{P c:Addr}{ps Rf:Array Value}{oc fo:Obj}(I:Inv X pins σ H s)(hP:H P=some (.pU ps))(hx:Heap.ExtBut P s.heap h')(h1:s.heap.objs.size<=c)(h2:c<h'.objs.size)(hc:h'.get? c=some oc)(hp:h'.get? P=some (tabObj<|ps++Rf)): Inv X pins σ (upd (upd H P<|.pU<|ps++Rf) c<|.lj oc<|.own 0) {s with heap:=h'.push fo,toks:=tk}:=by
 have hcP:c≠P:=λz=>absurd (zm (I.aH.lt hP)<|z ▸ h1)<|yC _;have nc:H c=none:=I.aH.fresh h1;have other:∀b,b≠P->b≠c->upd (upd H P<|.pU<|ps++Rf) c (.lj oc<|.own 0) b=H b:=λb z1 z2=>by rw[ao z2,ao z1]
 have nP:∀b o,H b=some o->(∀q,o≠.pU q)->b≠P:=λb o e z q=>by rw[q,hP]at e;cases e;exact z _ rfl
 have YW:∀b,H b=none->b≠P:=λb e q=>by rw[q,hP]at e;cases e
 have lt:∀b o,s.heap.get? b=some o->b≠c:=λb o e=>zx<|zm (zq e) h1;refine I.un (h':=h'.push fo) {λb o e n _ _=>zb _<|hx b o (YW b n) e,λb o e n _ _=>{o.slots,zb _<|hx b o (YW b n) e},λb o e n _=>by rw[other b (YW b n)<|lt b o e];exact n,λb o e _=>?_,λb xs e=>by rw[other b (nP b _ e λ_=>nofun)<|aw e nc];exact e,λb o u e=>by rw[other b (nP b _ e λ_=>nofun)<|aw e nc];exact e,λb q e=>?_} λb u e=>?_;by_cases hb:b=P;rw[hb];exact{_,zb _ hp};exact{o,zb _<|hx b o hb e};by_cases hb:b=P;subst hb;rw[hP]at e;cases e;exact{Rf,by rw[ao<|Ne.symm hcP,aD]};exact{#[],by rw[other b hb<|aw e nc,e];simp};by_cases Rh:b=c;subst Rh;rw[aD]at e;cases e;exact{zb _ hc,_,zb _ hc};rw[ao Rh]at e;by_cases hb:b=P;subst hb;rw[aD]at e;cases e;exact zb _ hp;rw[ao hb]at e;refine(I.aH b u e).lX (λd v hd q=>?_) (λd q=>by rw[other d (nP d _ q λ_=>nofun)<|aw q nc];exact q) λd xs q=>by rw[other d (nP d _ q λ_=>nofun)<|aw q nc];exact q
 rcases hd with rfl|hd;exact zb _<|hx d v hb q;exact zb _<|hx d v (nP d _ hd λ_=>nofun) q
theorem Inv.Di(I:Inv X pins σ H s)(ho:s.heap.get? f=some o)(hn:H f=none)(A:MV X pins f)(d:∀v,o.data≠.cell v):Inv X (pins++[(f,o)]) σ H s:=by refine{I.ok,I.os,I.bare,I.base,I.loc,I.cell,I.free,I.du,λp hp=>?_,I.aH,I.len};rcases zO.mp hp with hp|hp;exact I.pin p<|zU _ hp;rcases zO.mp hp with hp|hp;exact I.pin p<|zC _ hp;rw[zr.mp hp];exact⟨ho,hn,A.loc,A.fs,d⟩
structure UA(X:Cx)(pins:List (Addr×Obj))(σ:St)(H H':Hp)(P:Addr)(q:Str)(params:Arguments)(body:Expr)(scope:Scope)(u:Value)(s':Shared)(f:Addr)(pm cv lV:Value):Prop where
 u:u=.ref f
 inv:Inv X (pins++[(f,xM X q params body scope pm cv lV)]) σ H' s'
 code:∃c o vs t,cv=.ref c/\H' c=some (.lj o<|.own 0)/\o.data=.fields vs/\vs[1]?=some (.str q t)
 same:∀b,H' b=H b\/(b=P/\∃ps,H' b=some (.pU ps)/\C9 H' q ps)\/(H b=none/\∃o,H' b=some (.lj o<|.own 0))
theorem xO{M:Model}{A:Around}{E:Value->Shared->Prop}{N:List Str}{src:List<|Option Nat}{scope:Scope}{params:Arguments}{body:Expr}{pos:Pos}{c P:Addr}{q:Str}{ps:Array Value}{Q:Value->Shared->Prop}(I:Inv X pins σ H s)(S:bI X N src scope)(oK:X.env.code=.ref c)(mk:YV X.K X.mg X.base c P) (hP:H P=some (.pU ps)) (ok:C9 H q ps) (hq:X.env.qual ++ "<lambda>"= q) (Hx:defaultsOf params X.env=([],[])) (h:∀u s' H' f pm cv lV,UA X pins σ H H' P q params body scope u s' f pm cv lV->Q u s'):wpAny M A (eval (.Lambda params body scope pos) X.env) Q E s:=by
 have A5:closureFor scope X.env=pure (clOf X.env.cells scope.names):=gG λy hy hf=>I.ok.has y.1<|S.Ay y hy hf;have Wk:s.heap.get? P=some (tabObj ps):=I.aH P _ hP;have hg:s.heap.Ns mainGlobals X.mg:=I.mod.glob.keeps I.bk;have hC:=codeHd_of_K I.kC mk.hd;obtain⟨bm,ob,b1,b2,b3,b4,b5,b6⟩:=mk.bm;have Wl:s.heap.get? bm=some ob:=I.bk _ _ b3;have hgP:mainGlobals≠P:=λz=>by obtain⟨o,es,ep,e,d,_⟩:=id hg;rw[z,Wk]at e;cases e;cases d
 have hbG:bm≠mainGlobals:=λz=>by obtain⟨o,es,ep,e,d,_⟩:=id hg;rw[<-z,Wl]at e;cases e;rw[b6]at d;cases d
 have hbP:bm≠P:=λz=>by rw[z,Wk]at Wl;cases Wl;cases b4
 have hB:s.heap.BuiltinsAt X.mg P:=⟨bm,ob,b1,b2,hbG,hbP,Wl,b4,b5,b6⟩;have hqs:H P≠none:=by rw[hP];nofun
 refine PySem.W.kla_eval Hx ?_;rw[hq];cases hf:codeAmong pos ps.toList with|none=>(refine PySem.W.kla_makeFunction A5 I.ok.glob hg oK hC Wk ok.1 hf hgP hB λc' lV h' tk hx h1 h2 hr hp=>?_;obtain⟨c2,oc,vs,t,e2,VM,hd,hv⟩:=hr;cases e2;have J:=I.tab (tk:=tk) (fo:=xM X q params body scope ((X.mg "__name__").getD .none) (.ref c') lV) hP hx h1 h2 VM hp;have hcP:c'≠P:=λz=>absurd (zm (I.aH.lt hP)<|z ▸ h1)<|yC _;have nc:H c'=none:=I.aH.fresh h1;have fresh:∀b,h'.objs.size<=b->upd (upd H P<|.pU<|ps++#[rawInt pos.line,rawInt pos.col,.ref c']) c' (.lj oc<|.own 0) b=none:=λb hb=>(by have uQ:s.heap.objs.size<=b:=zK (zK h1<|yM h2) hb;rw[ao<|yr<|zm h2 hb,ao<|yr<|zm (I.aH.lt hP) uQ];exact I.aH.fresh uQ);have hsz:s.heap.objs.size<=h'.objs.size:=zK h1<|yM h2;refine h _ _ _ h'.objs.size _ _ _ {rfl,J.Di (zi _ rfl) (fresh _<|zl _) (I.Wh hsz) (λv z=>nomatch z),⟨c',oc,vs,t,rfl,aD,hd,hv⟩,λb=>?_};by_cases Rh:b=c';subst Rh;exact .inr<|.inr ⟨nc,oc,aD⟩;by_cases hb:b=P;subst hb;refine .inr<|.inl {rfl,_,by rw[ao Rh,aD],?_,λp2 cv e=>?_};rw[Array.toList_append];exact TriplesOk_snoc _ _ _ _ ok.1;rw[Array.toList_append]at e;rcases BH _ ok.1 e with e|e;obtain⟨d,o,ws,t2,z1,z2,z3⟩:=ok.2 p2 cv e;exact{d,o,ws,t2,z1,by rw[ao<|aw z2 nc,ao λz=>by rw[z,hP]at z2;cases z2];exact z2,z3};exact⟨c',oc,vs,t,e,aD,hd,hv⟩;exact .inl<|by rw[ao Rh,ao hb])|some cv=>refine PySem.W.kla_makeFunctionHit A5 I.ok.glob hg oK hC Wk ok.1 hf hB λlV h' tk hk hsz=>?_;have J:Inv X pins σ H {s with heap:=h'.push<|xM X q params body scope ((X.mg "__name__").getD .none) cv lV,toks:=tk}:=I.kept λb u e=>zb _<|hk b u e;exact h _ _ _ h'.objs.size _ _ _ {rfl,J.Di (zi _ rfl) (I.aH.fresh hsz) (I.Wh hsz) (λv z=>nomatch z),ok.2 pos cv hf,λb=>.inl rfl}
end
def ltD:D->D->Prop|.int a,.int b=>a<b|.str a,.str b=>a.cps.toList<b.cps.toList|_,_=>False
def xP(ks:List D):Prop:=(∃zs:List Str,ks=zs.map D.str)\/∃ns:List Int,ks=ns.map D.int
structure Pt(b:Bool)(key:Nat->D)(n:Nat)(g:Nat->Nat):Prop where
 lt:∀k,k<n->g k<n
 inj:∀i j,i<n->j<n->g i=g j->i=j
 ord:∀i j,i<j->j<n->(if b=true then ltD (key<|g j) (key<|g i) else ltD (key<|g i) (key<|g j))\/(key (g i)=key (g j)/\g i<g j)
def xQ(b:Bool)(P:Addr)(q:Str)(src:List<|Option Nat)(te:TD)(σ:SD)(R:KD)(d:D)(S1:ax):Prop:=∃(l:Addr)(xs:List D)(f:D->D),d=.ref l/\S1 l=some (.lst xs)/\xs.length<64/\S1 P=some (.tab q)/\xP (xs.map f)/\(∀x,x∈xs->∀S',Sub S1 S'->∀Qk:KD,(∀S2,Sub S' S2->Qk (f x) S2)->te ((mq σ src).set 0<|some x) S' Qk Zf)/\∀g S2 p,Pt b (λj=>f<|xs.getD j .av) xs.length g->Sub S1 S2->S2 p=none->R (.ref p) (S2.set p<|.lst<|(List.range xs.length).map λk=>xs.getD (g k) .av)
def MX(b:Bool)(P:Addr)(q:Str)(src:List<|Option Nat)(tl te:TD):TD:=λσ S R Z=>tl σ S (λd S1=>xQ b P q src te σ R d S1) Z
def Hy(F:D->ax->Prop):List D->ax->Prop|[d],S=>F d S|_,_=>False
theorem Dj{F:D->ax->Prop}{ds:List D}{S:ax}(h:Hy F ds S):∃d,ds=[d]/\F d S:=by match ds,h with|[d],h=>exact⟨d,rfl,h⟩
theorem q9:∀{ss:List Int}{au:List Value},Vals (ss.map V.int) au->IntsAre au ss|[],_,.nil=>.nil|z::ss,_,.cons r t=>by obtain⟨tk,rfl⟩:=r;exact .cons z tk<|q9 t
theorem q_:∀{us:List Value}{zs:List Str},StrsAre us zs->∀j,j<zs.length->i3 strKind us j=(zs.getD j "").cps.toList|_,_,.cons z t h,0,_=>rfl|_,_,.cons z t h,j+1,hj=>by have:=q_ h j (by simpa using hj);unfold i3 at this⊢;rw[List.getD_cons_succ,List.getD_cons_succ];exact this
theorem rf:∀{us:List Value}{zs:List Int},IntsAre us zs->∀j,j<zs.length->i3 intK us j=zs.getD j 0|_,_,.cons z t h,0,_=>rfl|_,_,.cons z t h,j+1,hj=>by have:=rf h j (by simpa using hj);unfold i3 at this⊢;rw[List.getD_cons_succ,List.getD_cons_succ];exact this
theorem Hz(h:StrsAre us zs):∀u∈us,∃x,strKind.keyOf u=some x:=by induction h with|nil=>(intro u hu;cases hu)|cons z t h ih=>intro u hu;rcases zg.mp hu with rfl|hu;exact{_,rfl};exact ih u hu
theorem HA(h:IntsAre us zs):∀u∈us,∃x,intK.keyOf u=some x:=by induction h with|nil=>(intro u hu;cases hu)|cons z t h ih=>intro u hu;rcases zg.mp hu with rfl|hu;exact{_,rfl};exact ih u hu
theorem HB{xs:List D}{f:D->D}{j:Nat}(hj:j<xs.length):(xs.map f)[j]?=some (f<|xs.getD j .av):=by rw[zu,zJ,zh hj];rfl
theorem vB{K:Frag}{H:Hp}{ds:List D}{xs:List V}(h:RvAll K H ds xs)(g:Nat->Nat):∀(ns:List Nat),(∀k∈ns,g k<ds.length)->RvAll K H (ns.map λk=>ds.getD (g k) .av) (ns.map λk=>xs.getD (g k) .av)|[],_=>bE|k::ns,hk=>by have YU:=hk k zy;obtain⟨v,e,r⟩:=h.get<|zh YU;refine aS ?_<|vB h g ns λk cK=>hk k<|zj _ cK;show Rv K H (ds.getD (g k) .av) (xs.getD (g k) .av);rw[zJ,zh YU,zJ,e];exact r
section
variable{K:Frag}{Y:Cx}{pins:List (Addr×Obj)}{τ:St}{H H2:Hp}{s:Shared}{N:List Str}{src:List (Option Nat)}{scope:Scope}{params:Arguments}{body:Expr}{q p:Str}{pm cv lV:Value}{f l:Addr}{te:TD}{b:Bool}{kw:List (Str×Value)}{k:Nat}
theorem xR{σ:SD}{S1:ax}{xs:List D}{fD:D->D}{Q:VK}{R:KD}{E:Value->Shared->Prop}(I:Inv Y (pins++[(f,xM Y q params body scope pm cv lV)]) τ H s)(hK:Y.K=K)(UB:Y.calm=true)(hr:bB k Y.A)(oK:∃c o vs t,cv=.ref c/\H c=some (.lj o<|.own 0)/\o.data=.fields vs/\vs[1]?=some (.str q t)) (CS:bI Y N src scope) (K8:N[0]?=some p) (hp:scope.names.lookup p=some .local) (h0:src[0]?=some none) (K9:scope.isCoroutine=false) (BG:scope.isGenerator=false) (hb:∀cl pm cv lV u,bindArgs (kla_fn "<lambda>" q params body scope cl pm cv lV) {[u],[]}=pure [(p,u)]) (he:∀cv s H,DE K (Q9 Y N q scope f cv Y.A.in1.in1 s H) body te) (aB:gb K H σ τ) (hS:Rs K S1 H) (hl:S1 l=some (.lst xs)) (FP:xs.length<64) (kd:xP<|xs.map fD) (step:∀x,x∈xs->∀S',Sub S1 S'->∀Qk:KD,(∀S2,Sub S' S2->Qk (fD x) S2)->te ((mq σ src).set 0<|some x) S' Qk Zf) (hR:Cn K H R Q) (fin:∀g S2 p,Pt b (λj=>fD<|xs.getD j .av) xs.length g->Sub S1 S2->S2 p=none->R (.ref p) (S2.set p<|.lst<|(List.range xs.length).map λk=>xs.getD (g k) .av)) (Pr:argsOk "sorted" {[.ref l],kw}) (Wj:∀x,argsOk "list.sort" {[.ref x],kw}) (ht:∀x,Builtin.«list.sort» {[.ref x],kw}=ksk_tree x (.ref f) b): wpAny (model Y.prog Y.w) Y.A (call (.builtin "sorted") [.ref l] kw) (EP Y pins τ Q) E s:=by
 subst hK;obtain⟨vs,hv,rv⟩:=hS.lst hl;have Q_:vs.length=xs.length:=rv.len;obtain⟨c,oc,ws,tk,ecv,hc,pW,hcq⟩:=oK;have drop:∀{u:Value}{s':Shared},EP Y (pins++[(f,xM Y q params body scope pm cv lV)]) τ Q u s'->EP Y pins τ Q u s':=λ⟨v,H',J,r,q⟩=>{v,H',{J.ok,J.os,J.bare,J.base,J.loc,J.cell,J.free,J.du,λp hp=>J.pin p<|by rcases zO.mp hp with z|z;exact zU _ z;exact zC _<|zU _ z,J.aH,J.len},r,q};have T:Hw Y (pins++[(f,xM Y q params body scope pm cv lV)]) τ Y.A.in1.in1 f vs λi ks H'=>∃S',Sub S1 S'/\Rs Y.K S' H'/\Kp Y.K H H'/\RvAll Y.K H' ((xs.take i).map fD) ks:=by rintro i x u ks s' H' more I' ⟨S',sb,rs,kp,rk⟩ hx ru;have hi:i<xs.length:=(by have:=(zt.mp hx).1;lia);obtain⟨v,e1,r1⟩:=rv.get<|zh hi;rw[hx]at e1;cases e1;have po:=(I'.pin (f,xM Y q params body scope pm cv lV)<|zC _<|zU _<|zC _<|by simp).1;have hcr:s'.heap.CodeRec cv q:={c,oc,ws,tk,ecv,(I'.aH c _<|kp.f _ _ _ hc).1,pW,hcq};refine Hs (A:=Y.A.in1.in1) I' CS K8 hp h0 I'.ok.frames (I'.ok.hd UB) (by have:=hr.dp;show Y.A.depth<_;lia) ru po hcr K9 BG (hb _ _ _ _ _) ((he cv s' H').of<|.none _ rfl) ?_;refine{_,S',λkk S2=>kk=fD xs[i]/\Sub S' S2,Zf,((aB.ts kp).pick src).set 0<|Rv.ts kp _ r1,rs,step _ (List.getElem_mem hi) S' sb _ λS2 h2=>⟨rfl,h2⟩,λkk S2 v2 H2 ⟨e2,C5⟩ Ri YX Wm=>?_,.f};subst e2;refine{S2,sb.trans C5,YX,kp.trans Wm,?_};rw[show xs.take (i+1)=xs.take i++[xs[i]] by rw[List.take_add_one,zh hi];rfl,zE];exact(RvAll.ts Wm _ rk).app<|aS Ri bE
 have w0:∃S',Sub S1 S'/\Rs Y.K S' H/\Kp Y.K H H/\RvAll Y.K H ((xs.take 0).map fD) []:={S1,.refl _,hS,.refl _,by rw[List.take_zero];exact bE};have VR:ji Y.K H l vs:=.of hv;rcases kd with⟨zs,ez⟩|⟨zs,ez⟩;have YY:zs.length=xs.length:=by have:=congrArg List.length ez;rw[zc,zc]at this;exact this.symm
 have ka:∀j,j<xs.length->fD (xs.getD j .av)=.str (zs.getD j ""):=λj hj=>by have e1:=HB (f:=fD) hj;rw[ez,zu,zh<|by lia]at e1;rw[zJ (l:=zs),zh<|by lia];exact(zV e1).symm
 have kv:∀ks us H',(∃S',Sub S1 S'/\Rs Y.K S' H'/\Kp Y.K H H'/\RvAll Y.K H' ((xs.take vs.length).map fD) ks)->Vals ks us->StrsAre us zs:=λks us H' ⟨S',_,_,_,rk⟩ hu=>by rw[Q_,yG,ez]at rk;rw[rk.strs]at hu;exact qZ hu
 refine yq (ux (κ:=strKind) (Q:=Q) (b:=b) strKind_oneLt I VR (by lia) Pr Wj ht T w0 (λks us H' w1 v1 l1=>{Hz<|kv ks us H' w1 v1,λnH nI rest e=>keyKind_strs<|by rw[<-e];exact kv ks us H' w1 v1}) λH' ks us g D w1 v1 l1 sr hD=>?_) (λu s' z=>drop z) λ_ _ z=>z;have sk:=kv ks us H' w1 v1;obtain⟨S',sb,rs,kp,rk⟩:=w1;rw[Q_]at sr⊢;refine(hR.kp kp).new rs hD (λhp=>fin g S' D {sr.lt,sr.inj,λi j pF hj=>?_} sb hp)<|vB (RvAll.ts kp _ rv) g _ λk hk=>sr.lt k<|zT.mp hk;have h1:=sr.lt i (by lia);have h2:=sr.lt j hj;have:=sr.ord i j pF hj;rw[q_ sk _<|by lia,q_ sk _<|by lia]at this;rw[ka _ h1,ka _ h2];rcases this with z|⟨z1,z2⟩;left;cases b with|false=>rw[if_neg zd]at z⊢;show(zs.getD (g i) "").cps.toList<(zs.getD (g j) "").cps.toList;exact zo z|true=>rw[if_pos rfl]at z⊢;show(zs.getD (g j) "").cps.toList<(zs.getD (g i) "").cps.toList;exact zo z
 exact .inr {by rw[YL z1],z2};have YY:zs.length=xs.length:=by have:=congrArg List.length ez;rw[zc,zc]at this;exact this.symm
 have ka:∀j,j<xs.length->fD (xs.getD j .av)=.int (zs.getD j 0):=λj hj=>by have e1:=HB (f:=fD) hj;rw[ez,zu,zh<|by lia]at e1;rw[zJ (l:=zs),zh<|by lia];exact(zV e1).symm
 have kv:∀ks us H',(∃S',Sub S1 S'/\Rs Y.K S' H'/\Kp Y.K H H'/\RvAll Y.K H' ((xs.take vs.length).map fD) ks)->Vals ks us->IntsAre us zs:=λks us H' ⟨S',_,_,_,rk⟩ hu=>by rw[Q_,yG,ez]at rk;rw[rk.ints]at hu;exact q9 hu
 refine yq (ux (κ:=intK) (Q:=Q) (b:=b) Ht I VR (by lia) Pr Wj ht T w0 (λks us H' w1 v1 l1=>{HA<|kv ks us H' w1 v1,λnH nI rest e=>keyKind_ints<|by rw[<-e];exact kv ks us H' w1 v1}) λH' ks us g D w1 v1 l1 sr hD=>?_) (λu s' z=>drop z) λ_ _ z=>z;have sk:=kv ks us H' w1 v1;obtain⟨S',sb,rs,kp,rk⟩:=w1;rw[Q_]at sr⊢;refine(hR.kp kp).new rs hD (λhp=>fin g S' D {sr.lt,sr.inj,λi j pF hj=>?_} sb hp)<|vB (RvAll.ts kp _ rv) g _ λk hk=>sr.lt k<|zT.mp hk;have h1:=sr.lt i (by lia);have h2:=sr.lt j hj;have:=sr.ord i j pF hj;rw[rf sk _<|by lia,rf sk _<|by lia]at this;rw[ka _ h1,ka _ h2];rcases this with z|⟨z1,z2⟩;left;cases b with|false=>rw[if_neg zd]at z⊢;show zs.getD (g i) 0<zs.getD (g j) 0;exact zo z|true=>rw[if_pos rfl]at z⊢;show zs.getD (g j) 0<zs.getD (g i) 0;exact zo z
 exact .inr {by rw[z1],z2}
end
section
variable{K:Frag}{X:Cx}{N:List Str}{src:List (Option Nat)}{scope:Scope}{params:Arguments}{e body:Expr}{q p x:Str}{np pos lp kq kq2 cp:Pos}{ci}{tl te:TD}{k:Nat}{c P:Addr}
theorem UA.kp{pins:List<|Addr×Obj}{τ:St}{H H':Hp}{u:Value}{s':Shared}{f:Addr}{pm cv lV:Value}{Y:Cx}(L:UA Y pins τ H H' P q params body scope u s' f pm cv lV){ps:Array Value}(hP:H P=some (.pU ps)):Kp K H H':=.of λb o e=>by rcases L.same b with z|⟨z,_⟩|⟨z,_⟩;exact .inl (by rw[z];exact e);rw[z,hP]at e;cases e;exact .inr {λ_=>nofun,λ_ _=>nofun};rw[z]at e;cases e
theorem UA.rs{pins:List<|Addr×Obj}{τ:St}{H H':Hp}{u:Value}{s':Shared}{f:Addr}{pm cv lV:Value}{Y:Cx}{S:ax}(L:UA Y pins τ H H' P q params body scope u s' f pm cv lV)(hS:Rs K S H)(ht:S P=some (.tab q)):Rs K S H':=λb x hb=>by obtain⟨ps,hP,_⟩:=hS P _ ht;have kp:Kp K H H':=L.kp hP;rcases L.same b with z|⟨rfl,Rf,z1,z2⟩|⟨z,_⟩;exact(hS b x hb).keep (λo e=>by rw[z];exact e) kp;rw[ht]at hb;cases hb;exact⟨Rf,z1,z2⟩;obtain⟨o,e,_⟩:=(hS b x hb).has;rw[z]at e;cases e
theorem UC(oK:X.env.code=.ref c)(mk:YV K X.mg X.base c P)(hr:bB k X.A)(CS:bI X N src scope)(hl:DE K X e tl)(he:∀f cv s H,DE K (Q9 X N q scope f cv X.A.in1.in1 s H) body te)(hm:X.mg x=none)(hv:bootBuiltins x=some (.builtin "sorted")) (hq:autoParam (X.env.qual ++ "<lambda>"= q) qQJ) (K8:autoParam (N[0]?=some p) qQJ) (hp:autoParam (scope.names.lookup p=some .local) qQJ) (h0:autoParam (src[0]?=some none) qQJ) (K9:autoParam (scope.isCoroutine=false) qQJ) (BG:autoParam (scope.isGenerator=false) qQJ) (hb:autoParam (∀cl pm cv lV u,bindArgs (kla_fn "<lambda>" q params body scope cl pm cv lV) {[u],[]}=pure [(p,u)]) qJ1) (Hx:autoParam (defaultsOf params X.env=([],[])) qQJ) (hg:autoParam (Gl X x) qQJ) (hn:autoParam (x≠"__name__") qQZ) (jb:autoParam ((x==("__debug__": Str))=false) qQZ) (YZ:autoParam (backTo pos (starEach [e] X.env)=(false,eval e X.env)::backTo pos (starEach [] X.env)) qQJ) (eE:autoParam ((backTo pos<|starEach [e] X.env).any (·.1)=false) qQJ) (UD:autoParam (isPlain e=true) qQJ) (hK:autoParam (X.K=K) qQJ) (hC:autoParam (X.calm=true) qQJ): DE K X (.Call (.Name x np) [e] [{some "key",.Lambda params body scope lp,kq}] pos) (MX false P q src tl te):=by subst hK;refine⟨λy=>?_⟩;rintro pins s τ H Q I ⟨σ,S,R,Z,aB,hS,t,hR,hZ⟩;refine yF<|gF I hg hm hv ?_ hn jb;refine callWith_kw (bu (((ac hl an UD).of y) pos pins s τ H (λvs H1=>∃ds S1,Hy (xQ false P q src te σ R) ds S1/\RvAll X.K H1 ds vs/\Rs X.K S1 H1/\Kp X.K H H1) I {σ,S,Hy<|xQ false P q src te σ R,Z,aB,hS,t,λds S1 vs H1 r rv rs k1=>⟨ds,S1,r,rv,rs,k1⟩,hZ}) λus s1 ⟨vs,H1,I1,r1,ds,S1,r,rv,rs,k1⟩=>?_) YZ eE;obtain⟨d,rfl,l,xs,fD,rfl,el,FP,et,kd,step,fin⟩:=Dj r;obtain⟨v,XH,rfl,UE,Ri⟩:=rv.cons;cases Ri.nil;cases UE.ref;obtain⟨u,rfl,ru⟩:=vals1 r1;cases ru;obtain⟨ps,hP,aH⟩:=rs P _ et;refine kws_cons<|xO I1 ⟨CS.kind,CS.gH,CS.loc,CS.Ay,CS.len,CS.src⟩ oK mk hP aH hq Hx λw s2 H2 f pm cv lV L=>?_;refine kws_nil ?_;cases L.u;have k2:Kp X.K H1 H2:=L.kp hP;exact xR L.inv rfl hC hr L.code ⟨CS.kind,CS.gH,CS.loc,CS.Ay,CS.len,CS.src⟩ K8 hp h0 K9 BG hb (he f) ((aB.ts k1).ts k2) (L.rs rs et) el FP kd step (hR.kp<|k1.trans k2) fin (ksk_s1 _ _) (λx=>ksk_l1 _ _) λx=>ksk_t1 _ _
theorem MY(oK:X.env.code=.ref c)(mk:YV K X.mg X.base c P)(hr:bB k X.A)(CS:bI X N src scope)(hl:DE K X e tl)(he:∀f cv s H,DE K (Q9 X N q scope f cv X.A.in1.in1 s H) body te)(hm:X.mg x=none)(hv:bootBuiltins x=some (.builtin "sorted")) (hq:autoParam (X.env.qual ++ "<lambda>"= q) qQJ) (K8:autoParam (N[0]?=some p) qQJ) (hp:autoParam (scope.names.lookup p=some .local) qQJ) (h0:autoParam (src[0]?=some none) qQJ) (K9:autoParam (scope.isCoroutine=false) qQJ) (BG:autoParam (scope.isGenerator=false) qQJ) (hb:autoParam (∀cl pm cv lV u,bindArgs (kla_fn "<lambda>" q params body scope cl pm cv lV) {[u],[]}=pure [(p,u)]) qJ1) (Hx:autoParam (defaultsOf params X.env=([],[])) qQJ) (hg:autoParam (Gl X x) qQJ) (hn:autoParam (x≠"__name__") qQZ) (jb:autoParam ((x==("__debug__": Str))=false) qQZ) (YZ:autoParam (backTo pos (starEach [e] X.env)=(false,eval e X.env)::backTo pos (starEach [] X.env)) qQJ) (eE:autoParam ((backTo pos<|starEach [e] X.env).any (·.1)=false) qQJ) (UD:autoParam (isPlain e=true) qQJ) (hK:autoParam (X.K=K) qQJ) (hC:autoParam (X.calm=true) qQJ): DE K X (.Call (.Name x np) [e] [{some "key",.Lambda params body scope lp,kq},{some "reverse",.Constant (.bool true) ci cp,kq2}] pos) (MX true P q src tl te):=by subst hK;refine⟨λy=>?_⟩;rintro pins s τ H Q I ⟨σ,S,R,Z,aB,hS,t,hR,hZ⟩;refine yF<|gF I hg hm hv ?_ hn jb;refine callWith_kw (bu (((ac hl an UD).of y) pos pins s τ H (λvs H1=>∃ds S1,Hy (xQ true P q src te σ R) ds S1/\RvAll X.K H1 ds vs/\Rs X.K S1 H1/\Kp X.K H H1) I {σ,S,Hy<|xQ true P q src te σ R,Z,aB,hS,t,λds S1 vs H1 r rv rs k1=>⟨ds,S1,r,rv,rs,k1⟩,hZ}) λus s1 ⟨vs,H1,I1,r1,ds,S1,r,rv,rs,k1⟩=>?_) YZ eE;obtain⟨d,rfl,l,xs,fD,rfl,el,FP,et,kd,step,fin⟩:=Dj r;obtain⟨v,XH,rfl,UE,Ri⟩:=rv.cons;cases Ri.nil;cases UE.ref;obtain⟨u,rfl,ru⟩:=vals1 r1;cases ru;obtain⟨ps,hP,aH⟩:=rs P _ et;refine kws_cons<|xO I1 ⟨CS.kind,CS.gH,CS.loc,CS.Ay,CS.len,CS.src⟩ oK mk hP aH hq Hx λw s2 H2 f pm cv lV L=>?_;refine kws_cons<|bu (Ml (X:=y.cx) _ s2 τ H2 (λv H'=>v=.bl true/\H'=H2) L.inv ⟨rfl,rfl⟩) λw2 s3 ⟨v2,H3,I3,r3,e3,e4⟩=>?_;subst e3 e4;obtain rfl:w2=Value.bool true:=r3;refine kws_nil ?_;cases L.u;have k2:Kp X.K H1 H3:=L.kp hP;exact xR I3 rfl hC hr L.code ⟨CS.kind,CS.gH,CS.loc,CS.Ay,CS.len,CS.src⟩ K8 hp h0 K9 BG hb (he f) ((aB.ts k1).ts k2) (L.rs rs et) el FP kd step (hR.kp<|k1.trans k2) fin (ksk_s2 _ _ _) (λx=>ksk_l2 _ _ _) λx=>ksk_t2 _ _ _
end
section
variable{P:Program}{w:World}{K:Frag}{mg:Str->Option Value}{base:Heap}
theorem nG.okC{x qual:Str}{st:Stmt}{f:Addr}{fd:FuncData}{N ps:List Str}{k:Nat}{sp:gY}(F:nG K x qual st f fd)(S:eR N ps<|ae st)(len:∀ds S R Z,sp ds S R Z->ds.length=ps.length) (gT:∀(eV:Value)(A:Around)(outer:List Env)(s:Shared)(H:Hp)(E:XK)(ds:List D)(S:ax)(R:KD)(Z:KX),eV=fd.code->bB k (A.deeper<|envOfC qual (ae st) s.heap.objs.size f eV)->sp ds S R Z->∃t,xC K (iz (fj P w mg) P w K mg base N qual (ae st) f eV A outer s H E) true (aV st) t/\t {nx:=λ_ S'=>Fo S'<|R .av,rt:=λd S'=>Fo S'<|R d} (eJ N ds) S λ_ C S'=>Fo S'<|Z C):bK P w K mg base (fj P w mg) (k+1) f fd ps (qW K sp):=by
 obtain⟨oc,od,dV,kV,doc,pm,an,eV,ct,Mt,rfl,lk,pW⟩:=F.ex;have eE:ps.length<=N.length:=by have:=congrArg List.length S.pre;rw[yf]at this;lia
 refine Ms lk pW S (by rintro vs H Q E ⟨ds,S',R,Z,v,_,h,_⟩;exact by rw[v.len];exact len _ _ _ _ h) λA outer s H vs Q E hr ⟨ds,S',R,Z,v,hS,h,hR,hZ⟩=>?_;obtain⟨t,ht,q⟩:=gT eV A outer s H E ds S' R Z rfl hr h;have L:dj (iz (fj P w mg) P w K mg base N qual (ae st) f eV A outer s H E) E:=uh;let y:Ev (iz (fj P w mg) P w K mg base N qual (ae st) f eV A outer s H E) true:={_,(iz (fj P w mg) P w K mg base N qual (ae st) f eV A outer s H E).xe,λ_=>E,{λp2 τ H1 s1 e s' I h=>Mz L p2 τ H1 s1 e s' I h,λ_ p2 τ H1 s1 h' a cls args I hx he=>oJ L I hx he,λ_=>PassesOwn.leaving}};refine{L2.Tl K (λ_=>E) t,ht.of y,eJ N ds,S',_,λ_ C S'=>Fo S'<|Z C,?_,hS,q,{by rintro σ S1 τ H1 ⟨S2,sb,r⟩ a b c;exact(hR.kp c).now (b.sub sb) r iA,by rintro d S1 v H1 ⟨S2,sb,r⟩ a b c;exact hR _ _ _ _ r a (b.sub sb) c,λ_ _ _ _ z=>z.elim,λ_ _ _ _ z=>z.elim},by rintro σ τ C S1 H1 ⟨S2,sb,r⟩ a b c;exact hZ C S2 H1 r (b.sub sb) c};unfold eJ start;refine(mi v).app ?_;rw[v.len];exact mh _ _<|by rw[yi]
end
structure xS(ts:List Addr)(H:Hp):Prop where
 all:∀b,H b=none\/(∃o xs,H b=some (.lj o<|.lst xs))\/(b∈ts/\H b=some (.pU #[]))
 tab:∀b∈ts,H b=some (.pU #[])
theorem ER{P:Program}{w:World}{K:Frag}{mg mb:Str->Option Value}{CX:AW}{k:Nat}{fa a:Addr}{fd:FuncData}{x:Str}{sp:Sp}{aT:Shared}{vs:List Value}{ns:List Int}{ts:List Addr} (KX:K.In aT.heap) (Pn:aT.heap.Ns mainGlobals mg) (hb:aT.heap.Ns builtinsNs mb) (hbb:∀x:Str,x≠"__name__"->mb x=bootBuiltins x) (Y0:aT.heap.NoLimit) (hbm:Bm mg aT.heap) (hg:aT.gens=#[]) (hT:∀b∈ts,aT.heap.get? b=some (tabObj #[])) (hC:∀b∈ts,isCodeTable aT.heap b) (hN:∀b∈ts,K.lookup b=none) (ha:aT.heap.get? a=some {cls:=.type "list",data:=.seq vs.toArray}) (hi:IntsAre vs ns) (hl:ns.length<=sizeLine) (hr:bB k callerA) (F:∀base:Heap,Bm mg base->K.In base->base.Ns mainGlobals mg->bK P w K mg base CX k fa fd [x] sp) (UG:∀(s:Shared) (u:Value),BindsTo s fd {[u],[]} [(x,u)]) (Mu:∀H:Hp,xS ts H->ji K H a (ns.map V.int)->sp [.ref a] H (λv _=>v=.bl true) λ_ _ _=>False) (Y1:∀H e s',CX [] H aT (λ_ _ _=>False) e s'->False): codeAny (model P w) callerA (.call (.ref fa) {[.ref a],[]}) (λr s'=>r=.ok (.ret<|.bool true)/\OldK aT.heap s'.heap/\s'.os=aT.os/\AllBare s'.gens) aT:=by
 have rv:=ud hi;have Y2:=hi.length;have Wb:a∉ts:=λz=>by rw[hT a z]at ha;cases ha
 have core:∀H:Hp,xS ts H->ji K H a (ns.map V.int)->kB P w H aT.heap->(∀b,H b≠none->b=a\/b∈ts)->(H a≠none->K.lookup a=none)->codeAny (model P w) callerA (.call (.ref fa) {[.ref a],[]}) (λr s'=>r=.ok (.ret<|.bool true)/\OldK aT.heap s'.heap/\s'.os=aT.os/\AllBare s'.gens) aT:=by intro H hO hS aH hA hK;have vE:∀{b:Addr}{o:Obj},aT.heap.get? b=some o->H b=none->(sN aT.heap H).get? b=some o:=λe n=>FU e n;have J1:∀{b:Addr}{o:Obj}{es:Array DictEntry}{ep:Nat},aT.heap.get? b=some o->o.data=.dict es ep->H b=none:=λ{b o es ep} e d=>(by cases q:H b with|none=>rfl|some u=>rcases hA b (by rw[q];simp) with e'|e';subst e';rw[ha]at e;cases e;have d':Data.seq vs.toArray _=Data.dict es ep:=d;cases d';rw[hT b e']at e;cases e;cases d);have Wn:∀{b:Addr}{m:Str->Option Value},aT.heap.Ns b m->(sN aT.heap H).Ns b m:=λ{b m} ⟨o,es,ep,e,d,r⟩=>{o,es,ep,vE e<|J1 e d,d,r};have hKb:K.In (sN aT.heap H):=λb o e=>vE (KX b o e) (by cases q:H b with|none=>rfl|some u=>rcases hA b (by rw[q];simp) with e'|e';subst e';rw[hK<|by rw[q];simp]at e;cases e;rw[hN b e']at e;cases e);have hM:Mod K mg (sN aT.heap H):={hKb,Wn Pn,{mb,Wn hb,hbb},by obtain⟨mc,h1,h2⟩:=Y0;exact{mc,Wn h1,h2}};have e0:uR P w K mg (sN aT.heap H) callerA [] aT H:={rfl,hM,λb o e=>JH e,Nat.le_of_eq<|D5 _ _,trivial,λb hb=>absurd (show b∈([]:List Addr) from hb)<|by simp,aH,.of_eq hg};have hBm:Bm mg (sN aT.heap H):=(by obtain⟨bm,ob,b1,b2,b3,b4,b5,b6⟩:=hbm;refine{bm,ob,b1,b2,vE b3 ?_,b4,b5,b6};cases q:H bm with|none=>rfl|some u=>rcases hA bm (by rw[q];simp) with e'|e';rw[e',ha]at b3;cases b3;cases b6;rw[hT bm e']at b3;cases b3;cases b4);refine yO ((F _ hBm hKb<|Wn Pn).run callerA [] aT H {[.ref a],[]} [.ref a] [.ref a] _ _ hr e0 (UG aT<|.ref a) (.cons rfl .nil)<|Mu H hO hS) λr s' h=>?_;cases r with|error e=>exact(Y1 H e s' h).elim|ok fl=>cases fl with|next=>exact False.elim h|brk=>exact False.elim h|cont=>exact False.elim h|ret u=>obtain⟨v,H',os,bare,un,UH,r',q⟩:=h;have q':v=.bl true:=q;subst q';obtain rfl:u=Value.bool true:=r';refine{rfl,{λb o e=>?_,λb o e=>un.there b o e<|by simp},os,bare};rcases hO.all b with z|⟨ob,xs,z⟩|⟨z1,z⟩;exact .inl<|un.keep b o e z (by intro z;exact absurd (show b∈([]:List Addr) from z)<|by simp) (by simp);have z2:=un.fG b ob _ z;obtain⟨e1,_⟩:=aH b _ z;obtain⟨e2,_⟩:=UH b _ z2;rw[e]at e1;cases e1;exact .inl e2;obtain⟨more,z2⟩:=un.fH b _ z;have e2:=hT b z1;rw[e]at e2;cases e2;exact .inr<|.inl {hC b z1,rfl,#[],more,rfl,by have:=UH b _ z2;exact this}
 have tabs:∀(H:Hp),(∀b,b∈ts->H b=some (.pU #[]))->∀b u,b∈ts->H b=some u->aU P w H aT.heap b u:=λH h b u hb e=>by rw[h b hb]at e;cases e;exact hT b hb
 cases hk:K.lookup a with|some o=>(have e:=KX a o hk;rw[ha]at e;cases e;refine core (λb=>if b∈ts then some (.pU #[]) else none) {λb=>?_,λb hb=>if_pos hb} (.inr {_,vs.toArray,_,hk,rfl,rfl,rfl,by rw[zk,Y2];exact hl,by simpa using rv}) (λb u z=>?_) (λb z=>?_) λz=>absurd (if_neg Wb) z;by_cases hb:b∈ts;exact .inr<|.inr {hb,if_pos hb};exact .inl<|if_neg hb;by_cases hb:b∈ts;exact tabs _ (λb hb=>if_pos hb) b u hb z;have z':=(if_neg hb).symm.trans z;cases z';by_cases hb:b∈ts;exact .inr hb;exact absurd (if_neg hb) z)|none=>refine core (λb=>if b=a then some (.lj {cls:=.type "list",data:=.seq vs.toArray}<|.lst<|ns.map V.int) else if b∈ts then some (.pU #[]) else none) {λb=>?_,λb hb=>?_} (.inl<|.inr {{cls:=.type "list",data:=.seq vs.toArray},if_pos rfl}) (λb u z=>?_) (λb z=>?_) λ_=>hk;by_cases hb:b=a;exact .inr<|.inl {_,_,if_pos hb};by_cases EK:b∈ts;exact .inr<|.inr {EK,(if_neg hb).trans<|if_pos EK};exact .inl<|(if_neg hb).trans<|if_neg EK;have:b≠a:=λz=>Wb<|z ▸ hb;exact(if_neg this).trans<|if_pos hb;by_cases hb:b=a;have z':=(if_pos hb).symm.trans z;cases z';subst hb;exact{ha,by rw[zc];exact hl,vs,_,rv,ha};have z':=(if_neg hb).symm.trans z;by_cases EK:b∈ts;have z2:=(if_pos EK).symm.trans z';cases z2;exact hT b EK;have z2:=(if_neg EK).symm.trans z';cases z2;by_cases hb:b=a;exact .inl hb;by_cases EK:b∈ts;exact .inr EK;exact absurd ((if_neg hb).trans<|if_neg EK) z
theorem Dk:∀{K:Frag},b∉K.map (·.1)->K.lookup b=none|[],_=>rfl| (a,o)::K,h=>by rw[zQ,zg,not_or]at h;rw[zP,show(b==a)=false from beq_false_of_ne h.1];exact Dk h.2
theorem La{K:Params->Frag}{as:List Addr}{e:∀P,as=(K P).map (·.1)}{ts:List Addr}{w:World}{h:Heap}(_:(PySem.W.kmHook K as e ts).says w h)(d:∀b∈ts,b∉as):∀b∈ts,(K w.params).lookup b=none:=λb hb=>Dk<|by rw[<-e];exact d b hb
theorem HC{l:PySem.W.OpenLaw}{n k:Nat}{q:Program}{loose:List Str}{XP:(Str->Option Value)->Heap->Prop}{YP:World->Heap->Prop}{d:DefRec}{K:Params->Frag}{CX:AW}{x:Str}{ts:List Addr} (hn:l.most=some n) (Mq:n<=sizeLine) (Xo:d.params.defaults=[]) (hr:bB k callerA) (hY:∀(w:World)(h:Heap),YP w h->(K w.params).In h) (hT:∀(w:World)(h:Heap),YP w h->∀b∈ts,h.get? b=some (tabObj #[])) (hN:∀(w:World)(h:Heap),YP w h->∀b∈ts,(K w.params).lookup b=none) (F:∀(w:World)(mg:Str->Option Value)(fa:Addr)(h:Heap),(K w.params).In h->h.Ns mainGlobals mg->mg d.name=some (.ref fa)->∃(fd:FuncData)(sp:Sp),(∀b∈ts,∃c,codeHdIn (K w.params) c b=true)/\(∀(s:Shared)(u:Value),BindsTo s fd {[u],[]} [(x,u)])/\(∀base:Heap,Bm mg base->(K w.params).In base->base.Ns mainGlobals mg->bK l.prog w (K w.params) mg base CX k fa fd [x] sp)/\∀(H:Hp)(a:Addr)(ns:List Int),ns.length<=n->xS ts H->ji (K w.params) H a (ns.map V.int)->sp [.ref a] H (λv _=>v=.bl true) λ_ _ _=>False) (Y1:∀(H:Hp)(s:Shared)(e:Value)(s':Shared),CX [] H s (λ_ _ _=>False) e s'->False): PySem.W.WalkO q loose XP YP l.row.toRowW d [] (λf vs=>PySem.call f vs):=by refine Att.xb hn Xo λw dr aT mg mb fa o pm cd doc a vs ns G Y ho hd pW Oz OA hints hlen hg=>?_;have KX:=hY w _ Y;obtain⟨fd,sp,hC,hb,hF,Mu⟩:=F w mg fa _ KX G.T.g Oz;have hT':=hT w _ Y;exact ER KX G.T.g G.T.b G.T.builtins G.T.nolimit G.T.bmain hg hT' (λb z=>by obtain⟨c,hc⟩:=hC b z;exact((codeHd_of_K KX hc).tab<|hT' b z).isCodeTable) (hN w _ Y) OA hints (zK hlen Mq) hr hF hb (λH hO hS=>Mu H a ns hlen hO hS) λH e s'=>Y1 H aT e s'
namespace Rt
theorem own:Manifest.owners.lookup (String.ofList ['d','e','s','r','e','v','e','r'].reverse)=some Manifest.sig_reversed:=by kernel_rfl
theorem mw:Slot "reversed" "__next__" "reversed.__next__":=.of (owner:="reversed") (n:="__next__") (by rw[typeLookup_type,builtinLookup_eq_fast];kernel_rfl) (by trivial) (by trivial) (by trivial) (by first|exact .inl (by trivial)|exact .inr (by trivial))<|by rw[isSubtype_type];kernel_rfl
theorem Dm:entryFor table "reversed.__next__"= some Builtin.«reversed.__next__»:=entryFor_of_tree<|by kernel_rfl
theorem Dn(a:Value):argsOk "reversed.__next__" {[a],[]}:=by unfold argsOk;rw[signature?_of (id:="reversed.__next__") (n:=['_','_','t','x','e','n','_','_']) (o:=['d','e','s','r','e','v','e','r']) (by kernel_rfl) own];kernel_rfl
theorem Dq:Slot "reversed" "__iter__" "reversed.__iter__":=.of (owner:="reversed") (n:="__iter__") (by rw[typeLookup_type,builtinLookup_eq_fast];kernel_rfl) (by trivial) (by trivial) (by trivial) (by first|exact .inl (by trivial)|exact .inr (by trivial))<|by rw[isSubtype_type];kernel_rfl
theorem Lb(a:Value):argsOk "reversed.__iter__" {[a],[]}:=by unfold argsOk;rw[signature?_of (id:="reversed.__iter__") (n:=['_','_','r','e','t','i','_','_']) (o:=['d','e','s','r','e','v','e','r']) (by kernel_rfl) own];kernel_rfl
theorem Ld:entryFor table "reversed.__iter__"= some Builtin.«dict_keyiterator.__iter__»:=entryFor_alias (id':="dict_keyiterator.__iter__") (by kernel_rfl) (by first|rfl|decide +kernel|(unfold String.splitOn;simp +decide [String.splitOnAux])) (by trivial)<|by kernel_rfl
theorem Le:Slot "reversed" "__init__" "object.__init__":=.of (owner:="object") (n:="__init__") (by rw[typeLookup_type,builtinLookup_eq_fast];kernel_rfl) (by trivial) (by trivial) (by trivial) (by first|exact .inl (by trivial)|exact .inr (by trivial))<|by rw[isSubtype_type];kernel_rfl
theorem called:TypeCalled "reversed" "reversed.__new__" "object.__init__":={by trivial,by trivial,{_,_,F.mro_reversed},F.made_reversed,by trivial,by rw[isSubtype_type];kernel_rfl,Le}
theorem Pu:typeLookup (.type "tuple") "__reversed__"= pure none:=by rw[typeLookup_type,builtinLookup_eq_fast];kernel_rfl
theorem Ds:typeLookup (.type "tuple") "__getitem__"= pure (some<|.builtin "tuple.__getitem__"):=by rw[typeLookup_type,builtinLookup_eq_fast];kernel_rfl
theorem Lg:isSubtype (.type "tuple") (.type "dict")=pure false:=by rw[isSubtype_type];kernel_rfl
end Rt
noncomputable def xT(l:Addr)(i:Int):Obj:={cls:=.type "reversed",data:=.fields #[.ref l,rawInt i]}
def rh(h:Heap)(a l:Addr)(i:Int):Prop:=∃o,h.get? a=some o/\o.cls=.type "reversed"/\o.data=.fields #[.ref l,rawInt i]
section
variable{prog:Program}{w:World}{A:Around}{E:Value->Shared->Prop}{s:Shared}
theorem rh.typeIs(x:rh s.heap a l i):s.TypeIs (.ref a) "reversed":=by obtain⟨o,ho,hc,_⟩:=x;exact⟨o,ho,hc⟩
theorem rh.keep(x:rh h a l i)(e:∀o,h.get? a=some o->h'.get? a=some o):rh h' a l i:=by obtain⟨o,ho,r⟩:=x;exact{o,e _ ho,r}
theorem Pw(hl:IsTup s.heap l items)(hz:items.size<=sizeLine)(h:Q₁ (.ref s.heap.objs.size) {s with heap:=s.heap.push<|xT l<|(items.size:Int)-1,toks:=s.toks+1+1}): codeAny (model prog w) A (.call (.builtin "reversed.__new__") {[.type "reversed",.ref l],[]}) (wants Q₁ E) s:=by
 refine codeAny_of_tree ?_;show wpAny _ A.in1 (do checkBuiltinCall "reversed.__new__" {[.type "reversed",.ref l],[]};again (.builtin "reversed.__new__" {[.type "reversed",.ref l],[]})) _ _ s;refine za<|yV (F.newCall_reversed_1 _)<|zf {plainId_quiet F.plain_reversed_new _,yJ F.entry_reversed_new ?_};rw[Around.under_plainId F.plain_reversed_new _];unfold Builtin.«reversed.__new__»;refine za<|yV (newClass_reversed _) ?_;refine za<|yV (a:=()) (by first|rfl|kernel_rfl)<|za<|yV (a:=()) (by first|rfl|kernel_rfl) ?_;refine za<|wpAny_specialOf hl.typeIs Rt.Pu ?_;refine za<|za<|wpAny_isInstance hl.typeIs Rt.Lg<|za<|wpAny_specialOf hl.typeIs Rt.Ds ?_;show wpAny _ _ (if (["tuple.__getitem__","str.__getitem__","bytes.__getitem__","bytearray.__getitem__","memoryview.__getitem__","numpy.ndarray.__getitem__","sqlite3.Row.__getitem__"]:List String).contains "tuple.__getitem__"= true then pure true else _) _ _ _;rw[if_pos<|by trivial];refine zf ?_
 show wpAny _ _ (do
     let nL <-call (Value.builtin "len") [Value.ref l]
     let __x <-asInt? nL
     match __x with
      |some n=>do
       let nL <-Builtin.SmallTypes.newRecord (Value.type "reversed") [Value.ref l,rawInt (n-1)]
       ret nL
      |x=>unsupported "internal:reversed.__new__") _ _ _
 refine za<|len_tuple hl (by rw[zZ]at hz;lia) ?_;refine za<|yV (a:=some ((items.size:Nat):Int)) rfl ?_;exact za (m:=newObj (.type "reversed")<|.fields #[.ref l,rawInt<|((items.size:Nat):Int)-1])<|ym<|zf h
theorem Lh(hl:IsTup s.heap l items)(hz:items.size<=sizeLine)(h:Q (.ref s.heap.objs.size) {s with heap:=s.heap.push<|xT l<|(items.size:Int)-1,toks:=s.toks+1+1}): wpAny (model prog w) A (call (.type "reversed") [.ref l]) Q E s:=by refine callType_codes Rt.called (F.typeCall_reversed_1 _) F.entry_object_init (Q₁:=λobj aT=>aT.TypeIs obj "reversed"/\Q obj aT) (Pw hl hz {{_,zi _ rfl,rfl},h}) λobj aT h₁=>?_;exact{h₁.1,F.args_object_init_2 obj _,object_init_meets Rt.called.init.lookup Rt.called.made (by decide) prog w A.in1 _ aT ⟨h₁.1,rfl,h₁.2⟩}
theorem sqx(h:k<n):seqIndex? ((k:Nat):Int) n=some k:=by have e:(if ((k:Nat):Int)<0 then ((k:Nat):Int)+(n:Int) else ((k:Nat):Int))=((k:Nat):Int):=if_neg (by lia);unfold seqIndex?;dsimp only;rw[e,if_pos<|by simp;lia];rfl
theorem Li{it l:Addr}{i:Nat}{items:Array Value}{x:Value}{Q:Option Value->Shared->Prop}(hit:rh s.heap it l (i:Int))(hl:IsTup s.heap l items)(hz:items.size<=sizeLine)(hx:items[i]?=some x) (hQ:∀h' tk,rh h' it l ((i:Int)-1)->Heap.SameBut it s.heap h'->Q (some x) {s with heap:=h',toks:=tk}):wpAny (model prog w) A (pyNext<|.ref it) Q E s:=by obtain⟨o,ho,hc,hd⟩:=id hit;have hi:i<items.size:=(Array.getElem?_eq_some_iff.mp hx).1;unfold pyNext;refine za<|wpAny_attempt<|yp (name:=Str.ofString "__next__") hit.typeIs Rt.mw<|yA Rt.mw hit.typeIs Rt.Dm ?_<|Rt.Dn _;unfold Builtin.«reversed.__next__»;refine za<|yV (a:=(Value.ref it,[])) rfl<|za<|ya ho hd (x:=.ref l) rfl<|za<|ya ho hd (x:=rawInt (i:Int)) rfl ?_;show wpAny _ _ (if (i:Int)<0 then _ else _) _ _ s;rw[if_neg<|by lia];show wpAny _ _ (specialOf (.ref l) "__getitem__" >>=_) _ _ s;refine za<|wpAny_specialOf hl.typeIs Rt.Ds ?_;show wpAny _ _ (mkInt (i:Int) >>=_) _ _ s;refine za<|wpAny_mkInt ?_;refine za<|wpAny_attempt<|getItem_tuple (j:=i) hl (by lia) (by rw[zZ]at hz;lia) (sqx hi) hx ?_;refine za<|ya ho hd (x:=rawInt (i:Int)) rfl ?_;show wpAny _ _ (setField (.ref it) 1 (rawInt<|(i:Int)-1) >>=λ_=>ret x) _ _ _;refine za<|yR ho hd (by simp)<|zf {x,rfl,zf<|hQ _ _ ?_<|yD ..};exact{_,yx _ ho<|Obj.isFreed_of_fields<|yz hd _,(Obj.cls_mapFields ..).trans hc,by rw[yz hd];simp}
theorem Px(hh:A.handled=none)(hit:rh s.heap it l (-1))(hQ:∀h',Heap.ExtBut it s.heap h'->Q none {s with heap:=h'}):wpAny (model prog w) A (pyNext<|.ref it) Q E s:=by
 obtain⟨o,ho,hc,hd⟩:=id hit;unfold pyNext;refine za<|wpAny_attempt<|yp (name:=Str.ofString "__next__") hit.typeIs Rt.mw<|yA Rt.mw hit.typeIs Rt.Dm ?_<|Rt.Dn _;unfold Builtin.«reversed.__next__»;refine za<|yV (a:=(Value.ref it,[])) rfl<|za<|ya ho hd (x:=.ref l) rfl<|za<|ya ho hd (x:=rawInt (-1)) rfl ?_;show wpAny _ _ (if (-1:Int)<0 then _ else _) _ _ s;rw[if_pos<|by decide];refine za<|yT ?_;have hd1:=yz hd (·.setIfInBounds 1 (rawInt (-1)));have Rb:=yx (Obj.mapFields (·.setIfInBounds 1 (rawInt (-1)))) ho<|Obj.isFreed_of_fields hd1;refine za (m:=setField (.ref it) 1 (rawInt (-1)) >>=λ_=>setField (.ref it) 0 .none)<|za<|yR ho hd (by simp)<|yR Rb hd1 (by simp) ?_;have eb:Heap.ExtBut it s.heap ((s.heap.update it (Obj.mapFields (·.setIfInBounds 1 (rawInt (-1))))).update it (Obj.mapFields (·.setIfInBounds 0 Value.none))):=λb u hb e=>by rw[yu _ _<|Ne.symm hb,yu _ _<|Ne.symm hb];exact e
 refine za ?_;show wpAny _ _ (newExc (.type "StopIteration") [] >>=_) _ _ _;refine za ?_;simp only[newExc,newTuple];refine za<|ym ?_ (by size_fits);refine za (m:=firstArgMember _ _)<|yV (a:=Value.none) (by first|rfl|(simp only[firstArgMember];rfl)) ?_;refine ym ?_ (by size_fits);simp only[raiseNew];refine za<|wpAny_handled ?_;first|rw[show A.in1.handled=none from hh]|rw[hh]
 refine za<|zf<|wpAny_throw ?_;refine za<|wpAny_isInstance (T:="StopIteration") (b:=true) {_,zi _ rfl,rfl} isSubtype_stop ?_;exact zf<|hQ _<|(eb.push _).push _
theorem Du(hit:rh s.heap it l i)(h:Q (.ref it) s):wpAny (model prog w) A (pyIter<|.ref it) Q E s:=by refine wpAny_pyIter_slot hit.typeIs Rt.Dq<|yA Rt.Dq hit.typeIs Rt.Ld ?_<|Rt.Lb _;show wpAny _ _ (ret<|.ref it) _ _ s;exact zf !{"reversed",_,hit.typeIs,Rt.mw.lookup,h}
end
end L2
namespace L2
open PySem PySem.Spec PyProof.Rows
def UI(K:Frag)(a:Addr)(n:Nat):It:={λi H=>∃xs x,gp K H a xs/\xs.length=n/\i<n/\xs[n-1-i]?=some x,λi H x H'=>H'=H/\∀xs,gp K H a xs->xs.length=n->xs[n-1-i]?=some x,λi _=>n<=i}
theorem Lj{P:Program}{w:World}{K:Frag}{tg:Expr}(a it:Addr)(n:Nat):Turn P w K tg (UI K a n) [it] it (λi h=>i<=n/\rh h it a ((n:Int)-1-(i:Int))) where
 mem:=by simp
 obj:=λi h st b hb=>by
  have e:b=it:=by simpa using hb
  subst e
  obtain⟨_,o,e,c,d⟩:=st
  exact{o,e,λv z=>by rw[d]at z;cases z}
 keep:=λi h h' st k=>{st.1,st.2.keep λo e=>k it (by simp) o e}
 item:=by
  intro X hP hw hK hc i pins s σ H E I hf st hg
  subst hP hw hK
  obtain⟨xs,x,hq,hn,hi,hx⟩:=hg
  obtain⟨au,rv,p,hz⟩:=I.tuple hq
  obtain⟨u,hu,ru⟩:=rv.get hx
  obtain⟨f0,f1,f2,f3,f4,f5⟩:=hf it<|by simp
  have e:(n:Int)-1-(i:Int)=((n-1-i:Nat):Int):=by lia
  have hit:=st.2
  rw[e]at hit
  refine Li hit p (by rw[zk,<-rv.length];exact hz) (x:=u) (by simpa using hu) λh' tk fb sb=>?_
  have I1:Inv X pins σ H {s with heap:=h',toks:=tk}:=I.turned (t':=tk) (λb o hb e=>(sb.2 b hb).trans e) f0 f1 f3 f4 f5
  obtain⟨o,e1,c,d⟩:=id fb
  refine{u,rfl,tW (s:={s with heap:=h',toks:=tk}) e1 c d (by decide) {x,H,I1,ru,{rfl,λys hy _=>by rw[I.nr hy hq];exact hx},{hi,?_},λb hb=>(hf b hb).1}}
  have e2:(n:Int)-1-((i+1:Nat):Int)=((n-1-i:Nat):Int)-1:=by lia
  rw[e2];exact fb
 done:=by
  intro X hP hw hK hc i pins s σ H E I hf st hg
  subst hP hw hK
  obtain⟨f0,f1,f2,f3,f4,f5⟩:=hf it<|by simp
  have hg:n<=i:=hg
  have e:(n:Int)-1-(i:Int) = -1:=by have:=st.1;lia
  have hit:=st.2
  rw[e]at hit
  exact Px (I.ok.hd hc) hit λh' eb=>{rfl,I.turned (t':=s.toks) (λb o hb e=>eb b o hb e) f0 f1 f3 f4 f5}
 self:=λ_ _ _ _ _ st h=>Du st.2 h
def iRt(K:Frag)(ta:TA):TI:=λσ H R=>ta σ H λvs H1=>∃a xs,vs=[.ref a]/\gp K H1 a xs/\R (UI K a xs.length) H1
theorem UJ{X:Cx}{tg a:Expr}{ta:TA}{p pos:Pos}(hg:Gl X "reversed")(hm:X.mg "reversed"= none)(ha:PA X [a] ta)(hs:starEach [a] X.env=[(false,eval a X.env)]):PI X tg (.Call (.Name "reversed" p) [a] [] pos) (iRt X.K ta):=by
 intro pins s σ H R I h;refine Call_<|gF I hg hm boot_reversed<|PyProof.Rows.callWith_type1 (bu (ha pos pins s σ H _ I h) λus s1 ⟨vs,H1,I1,r1,q1⟩=>?_) hs rfl;obtain⟨l,xs,e,q,hR⟩:=q1;subst e;obtain⟨u,rfl,ru⟩:=vals1 r1;cases ru;obtain⟨au,rv,pl,hz⟩:=I1.tuple q;have hn:au.toArray.size=xs.length:=by rw[zk,rv.length]
 refine Lh pl (by rw[hn];exact hz) ?_;rw[hn];have st:rh (s1.heap.push<|xT l<|(xs.length:Int)-1) s1.heap.objs.size l ((xs.length:Int)-1-((0:Nat):Int)):={_,zi _ rfl,rfl,by show Data.fields _=Data.fields _;simp};have I2:Inv X pins σ H1 {s1 with heap:=s1.heap.push<|xT l<|(xs.length:Int)-1,toks:=s1.toks+1+1}:=I1.kept (t':=s1.toks+1+1) λb o e=>zb _ e;refine Du (s:={s1 with heap:=s1.heap.push<|xT l<|(xs.length:Int)-1,toks:=s1.toks+1+1}) st {_,_,_,_,H1,rfl,I2,Lj l s1.heap.objs.size xs.length,{yh _,st},λb hb=>?_,hR};have hb:b=s1.heap.objs.size:=by simpa using hb
 subst hb;exact I1.pA (zl _)<|I1.aH.fresh<|zl _
section
variable{K:Frag}{X:Cx}{tg:Expr}
def Y3(t:iD):AB:=λσ S R Z=>t σ S (λds S1=>∃es,ds=[.tup es]/\R {es.reverse,λ_=>True} S1) Z
theorem irt{t:iD}(hm:X.mg "reversed"= none)(ha:DA K X [a] t)(hg:autoParam (Gl X "reversed") qQJ)(hs:autoParam (starEach [a] X.env=[(false,eval a X.env)]) qQJ)(hK:autoParam (X.K=K) qQJ):DI K X tg (.Call (.Name "reversed" p) [a] [] pos) (Y3 t):=by subst hK;exact⟨λy=>(UJ (X:=y.cx) hg hm (ha.of y) hs).mono <| by rintro τ H R ⟨σ,S,RI,Z,aB,hS,q,hR,hZ⟩;exact{σ,S,_,Z,aB,hS,q,by rintro ds S1 vs H1 ⟨es,e,r1⟩ v1 s1 k1;subst e;obtain⟨v,rfl,r⟩:=v1.one;obtain⟨a,xs,rfl,hq,t⟩:=r.tup;refine{a,xs,rfl,.inl<|.of hq,hR _ S1 _ H1 r1 (λi S2 H2 k2 s2 V9=>?_) s1 k1};have Q7:gp X.K H2 a xs:=.inl<|.of<|k2.t _ _ hq;have t2:=RvAll.ts k2 _ t;have hl:xs.length=es.length:=t.len;refine{λd hd=>?_,λh=>by rw[List.length_reverse]at h;show xs.length<=i;lia};have hi:i<es.length:=(by have:=(zt.mp hd).1;rwa [List.length_reverse]at this);rw[List.getElem?_reverse hi]at hd;obtain⟨v,e1,r⟩:=t2.get hd;rw[hl];refine{⟨xs,v,Q7,hl,hi,e1⟩,λx' H' ⟨e2,e3⟩=>?_};subst e2;have:=e3 xs Q7 hl;rw[e1]at this;cases this;exact{r,.refl _,s2},hZ}⟩
end
section
variable{K:Frag}{X:Cx}{pos:Pos}
def Py(tc:mj)(tb:kF):kF:=λDe σ S Z=>∃P:Nat->SD->ax->Prop,(∃m,P m σ S)/\∀m σ S,P m σ S->tc σ S (λb S1=>if b=true then tb {De with nx:=λaq S'=>∃m',m'<m/\P m' aq S',ct:=λaq S'=>∃m',m'<m/\P m' aq S',bk:=De.nx} σ S1 Z else De.nx σ S1) (Z σ)
theorem Y4(hc:DT K X c tc)(hb:xC K X true body tb):DS K X true (.While c body [] pos) (Py tc tb):=
 ⟨λy=>(F9 (X:=y.cx) (y.ok.loop rfl) (hc.of y)<|hb.of y).mono <| by rintro D τ H ⟨σ,S,De,Z,aB,hS,⟨P,⟨m,p0⟩,turn⟩,hD,hZ⟩;exact
  ⟨λm Q5 H'=>∃σ S,gb K H' σ Q5/\Rs K S H'/\P m σ S/\Kp K H H',⟨m,σ,S,aB,hS,p0,.refl _⟩,by rintro m V7 H1 ⟨uP,S1,a1,s1,p1,k1⟩;exact⟨uP,S1,_,Z uP,a1,s1,turn m uP S1 p1,λb S2 H2 r2 s2 k2=>by
   cases b with
   |true =>
    rw[if_pos rfl]at r2⊢
    refine{λτ3 H3=>∃σ S,gb K H3 σ τ3/\Rs K S H3/\(∃m',m'<m/\P m' σ S)/\Kp K H H3,by rintro τ3 H3 ⟨ir,S3,a3,s3,⟨m',hm,p3⟩,k3⟩;exact⟨m',hm,ir,S3,a3,s3,p3,k3⟩,?_}
    have kk:=k1.trans k2
    exact{uP,S2,_,Z,a1.ts k2,s2,r2,{λPc S5 Yy H5 r5 a5 s5 k5=>{Pc,S5,a5,s5,r5,kk.trans k5},hD.rt.kp kk,hD.nx.kp kk,λPc S5 Yy H5 r5 a5 s5 k5=>{Pc,S5,a5,s5,r5,kk.trans k5}},hZ.kp kk}
   |false =>
    rw[if_neg zd]at r2⊢
    exact hD.nx _ _ _ _ r2 (a1.ts k2) s2<|k1.trans k2,(hZ.kp k1).at a1⟩⟩⟩
def Y5(i:Nat)(te:TD):kF:=λDe σ S Z=>∃a:Int,σ[i]?=some (some<|.int a)/\te σ S (λd S1=>∃b:Int,d=.int b/\De.nx (σ.set i<|some<|.int<|a+b) S1) (Z σ)
theorem sau(hN:X.N.Nodup)(he:DE K X e te)(hi:autoParam (X.N[i]?=some x) qQJ)(hx:autoParam (Loc X.env.scope x) qQ8)(hf:autoParam (X.fn x=true\/X.env.scope.names.lookup x=some .local) qQ8): DS K X b (.AugAssign (.Name x pos') .Add e pos) (Y5 i te):=⟨λy=>(NR (X:=y.cx) hN hi hx (he.of y) NS hf).mono <| by rintro D τ H ⟨σ,S,De,Z,aB,hS,⟨a,ha,t⟩,hD,hZ⟩;obtain⟨v,e1,r⟩:=aB.get ha;exact{v,e1,σ,S,_,Z σ,aB,hS,t,by rintro d S1 u H1 ⟨c,e2,n⟩ rv s1 k1;subst e2;exact{a,c,r.int,rv.int,hD.nx _ _ _ _ n ((aB.ts k1).set i<|aQ _) s1 k1},hZ.at aB}⟩
noncomputable def vD:V->D|.int i=>.int i|.str z=>.str z|.bl b=>.bl b|_=>.av
noncomputable def HD:V->Bool|.int _=>true|.str _=>true|_=>false
def UK(kvs:List<|Str×V)(ty:TD):TD:=λσ S R Z=>ty σ S (λy S1=>∃z,y=.str z/\R ((kvs.lookup z).elim .av vD) S1) Z
theorem mgk{w:World}{ad:Addr}{kvs:List<|Str×V}{o e:Expr}{apos aP:Pos}{ty:TD}(d:JA w K ad kvs)(hf:(kvs.all λp=>HD p.2)=true)(ho:∀Y:Cx,Y.env=X.env->Y.mg=X.mg->PE Y o (tC<|.ref ad))(he:DE K X e ty)(hw:autoParam (X.w=w) qQJ)(hK:autoParam (X.K=K) qQJ)(m:autoParam (M1 X o "get" apos e aP) qQ4): DE K X (.Call (.Attribute o "get" apos) [e] [] aP) (UK kvs ty):=⟨λy=>(G1 (X:=y.cx) hw hK (ho y.cx rfl rfl) (he.of y) ⟨m.base,m.FJ,m.line,m.trees⟩).mono <| by rintro τ H Q ⟨σ,S,R,Z,aB,hS,q,hR,hZ⟩;exact⟨ad,kvs,rfl,d,σ,S,_,Z,aB,hS,q,by
 rintro yv S1 v H1 ⟨z,e1,r⟩ rv s1 k1;subst e1;refine{z,rv.str,hR _ _ _ _ r ?_ s1 k1};have fl:∀v,kvs.lookup z=some v->HD v=true:=λv hv=>by have:=yj hv;exact yk.mp hf _ this
 cases q:kvs.lookup z with|none=>exact iA|some v=>have:=fl v q;cases v with|int i=>exact aQ i|str i=>exact jr i|_=>(cases this),hZ⟩⟩
end
theorem gK(hm:X.mg x=some (.ref a))(hg:autoParam (Gl X x) qQJ)(hd:autoParam ((x==("__debug__": Str))=false) qQZ):∀Y:Cx,Y.env=X.env->Y.mg=X.mg->PE Y (.Name x pos) (tC<|.ref a):=λY e1 e2=>CK (X:=Y) (u:=.ref a) (show Y.env.kindOf x=_ by rw[e1];exact hg) (by rw[e2];exact hm) rfl hd
structure Fb(K:Frag)(x q:Str)(st:Stmt)(ps:List Str)(f:Addr)(d:FuncData):Prop where
 F:nG K x q st f d
 b:Binds K d ps []
structure FQ(K:Frag)(mg:Str->Option Value)(x:Str)(st:Stmt)(ps:List Str)(f:Addr)(d:FuncData):Prop extends Fb K x x st ps f d where
 k:keepIn K (.ref f)=true
 m:mg x=some (.ref f)
structure MZ(K:Frag)(c:Addr)(x q:Str)(st:Stmt)(ps:List Str)(f:Addr)(d:FuncData):Prop extends Fb K x q st ps f d where
 e:Meth K c x f
abbrev Ok(P:Program)(w:World)(base:Heap){K:Frag}{mg:Str->Option Value}{x:Str}{st:Stmt}{ps:List Str}{f:Addr}{d:FuncData}(_:FQ K mg x st ps f d)(k:Nat)(sp:gY):Prop:=bK P w K mg base (fj P w mg) k f d ps<|qW K sp
abbrev AE(P:Program)(w:World)(mg:Str->Option Value)(base:Heap){K:Frag}{c:Addr}{x q:Str}{st:Stmt}{ps:List Str}{f:Addr}{d:FuncData}(_:MZ K c x q st ps f d)(k:Nat)(sp:gY):Prop:=bK P w K mg base (fj P w mg) k f d ps<|qW K sp
theorem fsc{N P:List Str}{sc:Scope}(a:autoParam (sc.kind=.function/\sc.isCoroutine=false/\sc.isGenerator=false/\N.take P.length=P) qQ4)(b:autoParam (N.Nodup/\(∀x∈P,sc.names.lookup x=some .local\/sc.names.lookup x=some .cell)/\∀y∈sc.names,y.2≠.free) qJ3):eR N P sc:=⟨a.1,a.2.1,a.2.2.1,b.1,a.2.2.2,b.2.1,b.2.2⟩
section
variable{R:Prop}{K:Frag}{h:Heap}{mg:Str->Option Value}{od an:Option Addr}{sl:Array (Option Value)}{oc dV kV dc pm cd ct:Value}{f da:Addr}{Lk:Option Addr}{dn:Nat}{Ll:Array (Option Value)}{c:Addr}{tk:Tok}{d:FuncData}
theorem fn1(X:K.In h)(G:h.Ns mainGlobals mg)(x:Str)(st:Stmt)(ps:List Str)(a:nsIn K mainGlobals x=some (some<|.ref f))(l:K.lookup f=some {oc,od,.func<|fnOf x x (bw st) (aV st) (ae st) dV kV dc pm an cd ct,sl}) (e:codeIn K cd x=true) (k:keepIn K (.ref f)=true) (b:∀us:List Value,us.length=ps.length->bindArgs (fnOf x x (bw st) (aV st) (ae st) dV kV dc pm an cd ct) {us,[]}=pure (ps.zip us)) (g:∀d,FQ K mg x st ps f d->R):R:=g _ {{{_,_,_,_,_,_,_,_,_,_,rfl,l,e},.all b},k,mg_of X G a}
theorem Y6(X:K.In h)(G:h.Ns mainGlobals mg)(x:Str)(st:Stmt)(ps:List Str)(a:nsIn K mainGlobals x=some (some<|.ref f))(l:K.lookup f=some {oc,od,.func<|fnOf x x (bw st) (aV st) (ae st) dV kV dc pm an cd ct,sl}) (e:codeIn K cd x=true) (k:keepIn K (.ref f)=true) (b:∀us:List Value,us.length=ps.length->bindArgs (fnOf x x (bw st) (aV st) (ae st) dV kV dc pm an cd ct) {us,[]}=pure (ps.zip us)) (g:∀d,d.code=cd->(∀(s:Shared)(us:List Value),us.length=ps.length->BindsTo s d {us,[]} (ps.zip us))->FQ K mg x st ps f d->R):R:=g _ rfl (λs us h=>.of_eq<|b us h) {{{_,_,_,_,_,_,_,_,_,_,rfl,l,e},.all b},k,mg_of X G a}
theorem fm1(C:qx K c)(x q:Str)(st:Stmt)(ps:List Str)(a:findIn K (.ref c) x=some (some<|.ref f))(i:isFn K (.ref f)=true)(l:K.lookup f=some {oc,od,.func<|fnOf x q (bw st) (aV st) (ae st) dV kV dc pm an cd ct,sl}) (e:codeIn K cd q=true) (k:keepIn K (.ref f)=true) (b:∀us:List Value,us.length=ps.length->bindArgs (fnOf x q (bw st) (aV st) (ae st) dV kV dc pm an cd ct) {us,[]}=pure (ps.zip us)) (g:∀d,MZ K c x q st ps f d->R):R:=g _ {{{_,_,_,_,_,_,_,_,_,_,rfl,l,e},.all b},a,i,k}
theorem fmd(C:qx K c)(x q:Str)(st:Stmt)(ps:List Str)(a:findIn K (.ref c) x=some (some<|.ref f))(i:isFn K (.ref f)=true)(l:K.lookup f=some {oc,od,.func<|fnOf x q (bw st) (aV st) (ae st) (.ref da) kV dc pm an cd ct,sl}) (t:K.lookup da=some {.type "tuple",Lk,.seq #[.none] dn,Ll}) (e:codeIn K cd q=true) (k:keepIn K (.ref f)=true) (b:∀(s:Shared) (us:List Value),s.heap.get? da=some {.type "tuple",Lk,.seq #[.none] dn,Ll}->us.length=ps.length->BindsTo s (fnOf x q (bw st) (aV st) (ae st) (.ref da) kV dc pm an cd ct) {us,[]} (ps.zip us)) (b2:∀(s:Shared) (us:List Value),s.heap.get? da=some {.type "tuple",Lk,.seq #[.none] dn,Ll}->us.length+1=ps.length->BindsTo s (fnOf x q (bw st) (aV st) (ae st) (.ref da) kV dc pm an cd ct) {us,[]} (ps.zip<|us++[.none])) (g:∀d,MZ K c x q st ps f d->Binds K d ps [.none]->R):R:=g _ {{{_,_,_,_,_,_,_,_,_,_,rfl,l,e},λs us hK hl=>by rw[ye]at hl⊢;exact b s us (hK _ _ t) hl},a,i,k} λs us hK hl=>b2 s us (hK _ _ t)<|by simpa using hl
theorem xU(X:K.In h)(G:h.Ns mainGlobals mg)(x:Str)(a:nsIn K mainGlobals x=some none)(g:mg x=none->R):R:=g<|PySem.W.mg_none_of X G a
theorem Ln(X:K.In h)(G:h.Ns mainGlobals mg)(x:Str)(i:Int)(a:nsIn K mainGlobals x=some (some<|.int i tk))(g:mg x=some (.int i tk)->R):R:=g<|mg_of X G a
theorem UL(X:K.In h)(G:h.Ns mainGlobals mg)(x:Str)(a:nsIn K mainGlobals x=some (some<|.ref c))(l:K.lookup c=some o)(g:mg x=some (.ref c)->K.lookup c=some o->R):R:=g (mg_of X G a) l
theorem JD(X:K.In h)(G:h.Ns mainGlobals mg)(x:Str)(a:nsIn K mainGlobals x=some (some<|.ref c))(e:excIn K c L2.me "ValueError.__new__"= true)(g:mg x=some (.ref c)->excIn K c L2.me "ValueError.__new__"= true->R):R:=g (mg_of X G a) e
theorem gvc(X:K.In h)(G:h.Ns mainGlobals mg)(x:Str)(a:nsIn K mainGlobals x=some (some<|.ref c))(pg:plainGet K c Str.empty=true)(hd:hasDictIn K c=true)(po:plainOver K c=true)(sa:findIn K (.ref c) "__setattr__"= some (some<|.builtin "object.__setattr__"))(ms:makesIn K c=true)(kc:keepIn K (.ref c)=true) (g:mg x=some (.ref c)->qx K c->makesIn K c=true->keepIn K (.ref c)=true->R):R:=g (mg_of X G a) ⟨pg,hd,po,sa⟩ ms kc
theorem Y7(C:qx K c)(x:Str)(a:findIn K (.ref c) x=some none)(g:findIn K (.ref c) x=some none->R):R:=g a
theorem Pz{P:Addr}(l:K.lookup c=some o)(e:codeHdIn [(c,o)] c P=true):codeHdIn K c P=true:=by unfold codeHdIn at e⊢;rw[l];rw[show([(c,o)]:Frag).lookup c=some o by simp]at e;exact e
theorem gvm{P:Addr}(X:K.In h)(e:d.code=.ref c)(o:K.lookup c=some {oC,od,.fields vC,sl})(q:vC[11]?=some (.ref P))(hh:codeHdIn [(c,{oC,od,.fields vC,sl})] c P=true)(g:codeHdIn K c P=true->R):R:=g<|Pz o hh
end
section
variable{Q:List Value->Prop}
theorem Y8(h:Q [])(us:List Value)(e:us.length=0):Q us:=by cases us with|nil=>exact h|cons a us=>cases e
theorem ES(h:∀a us,us.length=n->Q (a::us))(us:List Value)(e:us.length=n+1):Q us:=by cases us with|nil=>(cases e)|cons a us=>exact h a us<|yW e
theorem UM(h:∀a,Q [a]):∀us:List Value,us.length=1->Q us:=ES λa=>Y8<|h a
theorem ln2(h:∀a b,Q [a,b]):∀us:List Value,us.length=2->Q us:=ES λa=>UM<|h a
theorem UN(h:∀a b c,Q [a,b,c]):∀us:List Value,us.length=3->Q us:=ES λa=>ln2<|h a
theorem Y9(h:∀a b c d,Q [a,b,c,d]):∀us:List Value,us.length=4->Q us:=ES λa=>UN<|h a
theorem Y_(h:∀a b c d e,Q [a,b,c,d,e]):∀us:List Value,us.length=5->Q us:=ES λa=>Y9<|h a
theorem UO(h:∀a b c d e f,Q [a,b,c,d,e,f]):∀us:List Value,us.length=6->Q us:=ES λa=>Y_<|h a
theorem Za(h:∀a,Q [a])(us:List Value)(e:us.length+1=2):Q us:=UM h us<|yW e
theorem Zb(h:∀a b,Q [a,b])(us:List Value)(e:us.length+1=3):Q us:=ln2 h us<|yW e
end
section
variable{R:Prop}{K:Frag}{h:Heap}{mg:Str->Option Value}{X Y:Str}{c d:Addr}
theorem pG(_:K.In h)(_:mg X=some (.ref c))(_:mg Y=some (.ref d))(b:Bool)(e:kitOne K (.ref c) (.ref d)=some b)(g:kitOne K (.ref c) (.ref d)=some b->R):R:=g e
theorem UP(_:K.In h)(_:mg X=some (.ref c))(_:mg Y=some (.ref d))(e:mroIn K c (.ref d)=some true)(g:mroIn K c (.ref d)=some true->R):R:=g e
theorem UQ(_:K.In h)(_:mg X=some (.ref c))(e1:findIn K (.ref c) "__getattribute__"= some (some<|.builtin "BaseException.__getattribute__"))(e2:findIn K (.ref c) "__getattr__"= some none)(e3:findIn K (.ref c) "__class__"= some (some<|.builtin "object.__class__"))(g:XA K c->R):R:=g ⟨e1,e2,e3⟩
end
section
variable{K:Frag}{X:Cx}{x:Str}{st:Stmt}{ps:List Str}{f:Addr}{fd:FuncData}{sp:gY}{e:Expr}{es:List Expr}{p pos:Pos}
theorem aY{t:iD}(T:FQ K X.mg x st ps f fd)(F:bK X.prog X.w K X.mg X.base (fj X.prog X.w X.mg) k f fd ps<|qW K sp)(hr:bB k' X.A)(ha:DA K X (e::es) t)(hle:autoParam (k<=k') qJX) (hg:autoParam (Gl X x) qQJ) (jb:autoParam ((x==("__debug__": Str))=false) qQZ) (he:autoParam (starEach (e::es) X.env=(false,eval e X.env)::starEach es X.env) qQJ) (eE:autoParam ((backTo pos<|starEach es X.env).any (·.1)=false) qQJ) (hK:autoParam (X.K=K) qQJ): DE K X (.Call (.Name x p) (e::es) [] pos) (Hg sp [] t):=cf (F.mono hle) hr T.m T.k T.b d0 ha hg jb he eE hK
end
theorem bB.u(r:bB k A):A.units+64<cLine:=r.units
section
variable{P:Program}{w:World}{K:Frag}{mg:Str->Option Value}{base:Heap}{x qual:Str}{st:Stmt}{f:Addr}{fd:FuncData}{N ps:List Str}{k:Nat}{sp:gY}
theorem nG.vF(F:nG K x qual st f fd)(S:eR N ps<|ae st) (gT:∀(eV:Value)(A:Around)(outer:List Env)(s:Shared)(H:Hp)(E:XK)(ds:List D)(S:ax)(R:KD)(Z:KX),bB k (A.deeper<|PyProof.Rows.envOfC qual (ae st) s.heap.objs.size f eV)->sp ds S R Z->∃t,xC K (iz (fj P w mg) P w K mg base N qual (ae st) f eV A outer s H E) true (aV st) t/\t {nx:=λ_ S'=>Fo S'<|R .av,rt:=λd S'=>Fo S'<|R d} (eJ N ds) S λ_ C S'=>Fo S'<|Z C) (len:∀ds S R Z,sp ds S R Z->ds.length=ps.length:=by intro _ _ _ _ h;repeat first|(obtain⟨e,_⟩:=h;rw[e];rfl;done)|obtain⟨_,h⟩:=h):bK P w K mg base (fj P w mg) (k+1) f fd ps (qW K sp):=F.ok S len gT
end
end L2
namespace L2
open PySem PySem.Spec PyProof.Rows PySem.SeqAt
def isStrOf(z:Str):Value->Bool|.str y _=>y==z|_=>false
end L2
namespace L2
open PySem PySem.Spec PyProof.Rows
section
variable{K:Frag}
theorem RvAll.thr(h:RvAll K H [a,b,c] vs):∃x y z,vs=[x,y,z]/\Rv K H a x/\Rv K H b y/\Rv K H c z:=by obtain⟨x,vs1,rfl,h1,h⟩:=h.cons;obtain⟨y,vs2,rfl,h2,h⟩:=h.cons;obtain⟨z,vs3,rfl,h3,h⟩:=h.cons;rw[h.nil];exact⟨x,y,z,rfl,h1,h2,h3⟩
theorem PB:bootBuiltins "max"= some (.builtin "max"):=by with_unfolding_all rfl
noncomputable def oM:List D->List D->List D->List D|x::xs,y::ys,z::zs=>.tup [x,y,z]::oM xs ys zs|_,_,_=>[]
theorem uy:∀{xs ys zs:List D},xs.length=ys.length->xs.length=zs.length->(oM xs ys zs).length=xs.length|[],_,_,_,_=>by rw[oM.eq_def]|x::xs,y::ys,z::zs,h,k=>congrArg Nat.succ<|uy (yW h)<|yW k
theorem nM:∀{xs ys zs:List D}{i:Nat}{d:D},(oM xs ys zs)[i]?=some d->∃x y z,xs[i]?=some x/\ys[i]?=some y/\zs[i]?=some z/\d=.tup [x,y,z]|x::xs,y::ys,z::zs,0,d,h=>{x,y,z,rfl,rfl,rfl,(zV h).symm}|x::xs,y::ys,z::zs,i+1,d,h=>nM (i:=i) h|[],_,_,i,d,h=>by rw[oM.eq_def]at h;simp at h|_::_,[],_,i,d,h=>by rw[oM.eq_def]at h;simp at h|_::_,_::_,[],i,d,h=>by rw[oM.eq_def]at h;simp at h
def PC(t:iD):AB:=λσ S R Z=>t σ S (λds S1=>∃xs ys zs,ds=[.tup xs,.tup ys,.tup zs]/\xs.length=ys.length/\xs.length=zs.length/\R {oM xs ys zs,λ_=>True} S1) Z
end
section
variable{R:Prop}{K:Frag}{h:Heap}{mg:Str->Option Value}{od an:Option Addr}{sl:Array (Option Value)}{oc kV dc pm cd ct:Value}{f da:Addr}{Lk:Option Addr}{dn:Nat}{Ll:Array (Option Value)}
theorem Zc(X:K.In h)(G:h.Ns mainGlobals mg)(x:Str)(st:Stmt)(ps:List Str)(ar:Array Value)(a:nsIn K mainGlobals x=some (some<|.ref f))(l:K.lookup f=some {oc,od,.func<|fnOf x x (bw st) (aV st) (ae st) (.ref da) kV dc pm an cd ct,sl}) (t:K.lookup da=some {.type "tuple",Lk,.seq ar dn,Ll}) (e:codeIn K cd x=true) (k:keepIn K (.ref f)=true) (b:∀(s:Shared) (us:List Value),s.heap.get? da=some {.type "tuple",Lk,.seq ar dn,Ll}->us.length=ps.length->BindsTo s (fnOf x x (bw st) (aV st) (ae st) (.ref da) kV dc pm an cd ct) {us,[]} (ps.zip us)) (g:∀d,FQ K mg x st ps f d->R):R:=g _ {{{_,_,_,_,_,_,_,_,_,_,rfl,l,e},λs us hK hl=>by rw[ye]at hl⊢;exact b s us (hK _ _ t) hl},k,mg_of X G a}
end
mutual
inductive Dr (S:ax):D->PyData->Prop where
 |av:Dr S .av .none
 |bl (b:Bool):Dr S (.bl b) (.bool b)
 |int (i:Int):Dr S (.int i) (.int i)
 |str (z:Str):Dr S (.str z) (.str z)
 |tup {ds:List D}{ps:List PyData} : UR S ds ps->Dr S (.tup ds) (.tuple ps)
 |ref {a:Addr}{ds:List D}{ps:List PyData} : S a=some (.lst ds)->UR S ds ps->Dr S (.ref a) (.list ps)
inductive UR (S:ax):List D->List PyData->Prop where
 |nil:UR S [] []
 |cons {d:D}{ds:List D}{p:PyData}{ps:List PyData} : Dr S d p->UR S ds ps->UR S (d::ds) (p::ps)
end
def lA:Stmt->Str|.FunctionDef n _ _ _ _ _ _ _ _ _=>n|_=>Str.empty
def pH(s:Stmt):List Str:=(bw s).args.map λa=>a.arg
def ET(K:Frag)(mg:Str->Option Value)(top:Nat->Stmt)(f:Nat->Addr)(d:Nat->FuncData)(l:List Nat):Prop:=∀i∈l,FQ K mg (lA<|top i) (top i) (pH<|top i) (f i)<|d i
def EU(K:Frag)(c:Addr)(q:Str)(cl:Stmt)(f:Nat->Addr)(d:Nat->FuncData)(l:List Nat):Prop:=∀i∈l,MZ K c (lA<|inClass cl i) (q++lA (inClass cl i)) (inClass cl i) (pH<|inClass cl i) (f i)<|d i
section
variable{K:Frag}{h:Heap}{mg:Str->Option Value}{od an:Option Addr}{sl:Array (Option Value)}{oc dV kV dc pm cd ct:Value}{x:Addr}{top:Nat->Stmt}{l:List Nat}{c:Addr}{q:Str}{cl:Stmt}
theorem af(X:K.In h)(G:h.Ns mainGlobals mg)(i:Nat)(ni:i∉l)(a:nsIn K mainGlobals (lA<|top i)=some (some<|.ref x))(o:K.lookup x=some {oc,od,.func<|fnOf (lA<|top i) (lA<|top i) (bw<|top i) (aV<|top i) (ae<|top i) dV kV dc pm an cd ct,sl}) (e:codeIn K cd (lA<|top i)=true) (k:keepIn K (.ref x)=true) (b:∀us:List Value,us.length=(pH<|top i).length->bindArgs (fnOf (lA<|top i) (lA<|top i) (bw<|top i) (aV<|top i) (ae<|top i) dV kV dc pm an cd ct) {us,[]}=pure ((pH<|top i).zip us)) (g:∃f d,ET K mg top f d l):∃f d,ET K mg top f d (i::l):=by refine fn1 X G _ _ _ a o e k b λd0 F=>?_;obtain⟨f,d,A⟩:=g;refine{λj=>if j=i then x else f j,λj=>if j=i then d0 else d j,λj hj=>?_};by_cases z:j=i;subst z;dsimp only;rw[if_pos rfl,if_pos rfl];exact F;dsimp only;rw[if_neg z,if_neg z];exact A j<|(zg.mp hj).resolve_left z
theorem af0:∃f d,ET K mg top f d []:={λ_=>0,λ_=>fnOf Str.empty Str.empty (bw<|.Pass {0,0,0,0}) [] (ae<|.Pass {0,0,0,0}) .none .none .none .none none .none .none,λ_ h=>nomatch h}
theorem afx{R:Prop}(_:K.In h)(_:h.Ns mainGlobals mg)(g:∃f d,ET K mg top f d l)(r:∀f d,ET K mg top f d l->R):R:=by obtain⟨f,d,A⟩:=g;exact r f d A
theorem amx{R:Prop}(_:qx K c)(g:∃f d,EU K c q cl f d l)(r:∀f d,EU K c q cl f d l->R):R:=by obtain⟨f,d,A⟩:=g;exact r f d A
theorem am(C:qx K c)(i:Nat)(ni:i∉l)(a:findIn K (.ref c) (lA<|inClass cl i)=some (some<|.ref x))(w:isFn K (.ref x)=true)(o:K.lookup x=some {oc,od,.func<|fnOf (lA<|inClass cl i) (q++lA (inClass cl i)) (bw<|inClass cl i) (aV<|inClass cl i) (ae<|inClass cl i) dV kV dc pm an cd ct,sl}) (e:codeIn K cd (q++lA (inClass cl i))=true) (k:keepIn K (.ref x)=true) (b:∀us:List Value,us.length=(pH<|inClass cl i).length->bindArgs (fnOf (lA<|inClass cl i) (q++lA (inClass cl i)) (bw<|inClass cl i) (aV<|inClass cl i) (ae<|inClass cl i) dV kV dc pm an cd ct) {us,[]}=pure ((pH<|inClass cl i).zip us)) (g:∃f d,EU K c q cl f d l):∃f d,EU K c q cl f d (i::l):=by refine fm1 C _ _ _ _ a w o e k b λd0 F=>?_;obtain⟨f,d,A⟩:=g;refine{λj=>if j=i then x else f j,λj=>if j=i then d0 else d j,λj hj=>?_};by_cases z:j=i;subst z;dsimp only;rw[if_pos rfl,if_pos rfl];exact F;dsimp only;rw[if_neg z,if_neg z];exact A j<|(zg.mp hj).resolve_left z
theorem am0:∃f d,EU K c q cl f d []:={λ_=>0,λ_=>fnOf Str.empty Str.empty (bw<|.Pass {0,0,0,0}) [] (ae<|.Pass {0,0,0,0}) .none .none .none .none none .none .none,λ_ h=>nomatch h}
end
section
variable{K:Frag}{X:Cx}{x q:Str}{st:Stmt}{ps:List Str}{C f:Addr}{fd:FuncData}{sp:gY}{o e:Expr}{es:List Expr}{apos pos:Pos}{k k':Nat}
theorem vG{t:iD}(he:DE K X o ta)(c:qx K C)(T:MZ K C x q st ps f fd)(F:bK X.prog X.w K X.mg X.base (fj X.prog X.w X.mg) k f fd ps<|qW K sp)(hr:bB k' X.A)(ha:DA K X (e::es) t)(hle:autoParam (k<=k') qJX)
  (lS:autoParam (starEach (e::es) X.env=(false,eval e X.env)::starEach es X.env) qQJ) (eE:autoParam ((backTo pos<|starEach es X.env).any (·.1)=false) qQJ)
  (ht:autoParam (eval (.Call (.Attribute o x apos) (e::es) [] pos) X.env=(do
   let ov <-eval o X.env
   standAt apos.atName
   let (f,first) <-holding [ov] (getMethod ov x pl)
   callWith pos f first (backTo pos<|starEach (e::es) X.env) (backToKw pos<|keywordEach [] X.env))) qQJ) (hK:autoParam (X.K=K) qQJ):
  DE K X (.Call (.Attribute o x apos) (e::es) [] pos) (Dc C x sp [] ta t):=Ym he c T.e (F.mono hle) hr T.b d0 ha lS eE ht hK
theorem nN(he:DE K X o ta)(c:qx K C)(T:MZ K C x q st ps f fd)(F:bK X.prog X.w K X.mg X.base (fj X.prog X.w X.mg) k f fd ps<|qW K sp)(hr:bB k' X.A)(hle:autoParam (k<=k') qJX)
  (ht:autoParam (eval (.Call (.Attribute o x apos) [] [] pos) X.env=(do
   let ov <-eval o X.env
   standAt apos.atName
   let (f,first) <-holding [ov] (getMethod ov x pl)
   callWith pos f first (backTo pos<|starEach [] X.env) (backToKw pos<|keywordEach [] X.env))) qQJ) (hK:autoParam (X.K=K) qQJ):
  DE K X (.Call (.Attribute o x apos) [] [] pos) (Dc C x sp [] ta G7):=TU he c T.e (F.mono hle) hr T.b d0 ht hK
end
section
variable{K:Frag}{X:Cx}
def US:D->Option Int->Option Int->ax->KD->Prop:=λx lo hi S R=>match x with|.ref a=>∃ds,S a=some (.lst ds)/\∀p,S p=none->R (.ref p) (S.set p<|.lst<|cW ds lo hi)|.jd ds=>∀p,S p=none->R (.ref p) (S.set p<|.lst<|cW ds lo hi)|_=>False
theorem UT(hK:X.K=K):QU X (λx lo hi H Q=>∃d S R,Rv K H d x/\Rs K S H/\US d lo hi S R/\Cn K H R Q):=by rintro pins s σ H x v vl vu lo hi sl Q I rx hs pl pu ⟨d,S,R,r1,hS,h,hR⟩;subst hK;cases d with|ref a=>(obtain⟨ds,e,h⟩:=h;obtain⟨xs,e1,t⟩:=hS.lst e;exact C3 pins s σ H _ v vl vu lo hi sl Q I rx hs pl pu {a,xs,r1.ref,.of e1,λp hp=>hR.new hS hp (h p)<|t.cut lo hi})|jd ds=>(obtain⟨a,xs,rfl,q,t⟩:=r1.jd;exact C3 pins s σ H _ v vl vu lo hi sl Q I rx hs pl pu {a,xs,rfl,q.sq,λp hp=>hR.new hS hp (h p)<|t.cut lo hi})|_=>exact h.elim
def Zd(te:TD)(tl th:MF):TD:=λσ S R Z=>te σ S (λx S1=>tl σ S1 (λl S2=>th σ S2 (λu S3=>US x l u S3 R) Z) Z) Z
theorem M0{e:Expr}{lo hi:Option Expr}{te:TD}{tl th:MF}{p2 pos:Pos}(he:DE K X e te)(hl:DO K X lo tl)(hu:DO K X hi th)(hK:autoParam (X.K=K) qQJ):DE K X (.Subscript e (.Slice lo hi none p2) pos) (Zd te tl th):=
 ⟨λy=>(w6 (X:=y.cx) (UT hK) (he.of y) (hl.of y)<|hu.of y).mono <| by rintro τ H Q ⟨σ,S,R,Z,aB,hS,q,hR,hZ⟩;exact
  ⟨σ,S,_,Z,aB,hS,q,λd S1 x H1 r1 v1 s1 k1=>⟨σ,S1,_,Z,aB.ts k1,s1,r1,λl S2 H2 r2 s2 k2=>⟨σ,S2,_,Z,aB.ts<|k1.trans k2,s2,r2,λu S3 H3 r3 s3 k3=>⟨d,S3,R,Rv.ts (k2.trans k3) _ v1,s3,r3,hR.kp<|(k1.trans k2).trans k3⟩,hZ.kp<|k1.trans k2⟩,hZ.kp k1⟩,hZ⟩⟩
def Ze:uk:=λx y S R=>match x,y with|.int i,.int j=>R (.int<|i+j) S|.str a,.str b=>a.length+b.length<=sizeLine/\R (.str<|a++b) S|.ref a,.ref b=>∃xs ys,S a=some (.lst xs)/\S b=some (.lst ys)/\xs.length+ys.length<=sizeLine/\∀p,S p=none->R (.ref p) (S.set p<|.lst<|xs++ys)|_,_=>False
theorem ba:pE K (binaryOp .Add) Ze:=by rintro X hK hu pins s σ H x y v u Q I rx ry ⟨d,e,S,R,r1,r2,hS,h,hR⟩;subst hK;cases d<;>cases e<;>first|exact False.elim h|exact Ge pins s σ H x y v u Q I rx ry {_,_,r1.int,r2.int,hR.now hS h<|aQ _}|exact qw pins s σ H x y v u Q I rx ry {_,_,r1.str,r2.str,h.1,hR.now hS h.2<|jr _}|skip;obtain⟨xs,ys,e1,e2,hl,q⟩:=h;obtain⟨vs,h1,t1⟩:=hS.lst e1;obtain⟨ws,h2,t2⟩:=hS.lst e2;exact Gy pins s σ H x y v u Q I rx ry {_,_,vs,ws,r1.ref,r2.ref,h1,h2,by rw[t1.len,t2.len];exact hl,λp hp=>hR.new hS hp (q p)<|t1.app t2}
end
structure W(sp:gY)(ds:List D)(S:ax)(R:KD)(Z:KX):Prop where
 of:sp ds S R Z
def Zg(s:Stmt):List Str:=((ae s).names.filter λp=>p.2==.local||p.2==.cell).map (·.1)
theorem cg(s:Stmt)(a:autoParam ((ae s).kind=.function/\(ae s).isCoroutine=false/\(ae s).isGenerator=false/\(Zg s).take (pH s).length=pH s) qQ4)(b:autoParam ((Zg s).Nodup/\(∀x∈pH s,(ae s).names.lookup x=some .local\/(ae s).names.lookup x=some .cell)/\∀y∈(ae s).names,y.2≠.free) qJ3):eR (Zg s) (pH s) (ae s):=fsc a b
section
variable{P:Program}{w:World}{K:Frag}{mg:Str->Option Value}{base:Heap}{x qual:Str}{st:Stmt}{f:Addr}{fd:FuncData}{N ps:List Str}{k:Nat}{sp:gY}
theorem nG.dQ(F:nG K x qual st f fd)(S:eR N ps<|ae st) (gT:∀(eV:Value)(A:Around)(outer:List Env)(s:Shared)(H:Hp)(E:XK)(ds:List D)(S:ax)(R:KD)(Z:KX),bB k (A.deeper<|PyProof.Rows.envOfC qual (ae st) s.heap.objs.size f eV)->sp ds S R Z->∃t,xC K (iz (fj P w mg) P w K mg base N qual (ae st) f eV A outer s H E) true (aV st) t/\t {nx:=λ_ S'=>Fo S'<|R .av,rt:=λd S'=>Fo S'<|R d} (eJ N ds) S λ_ C S'=>Fo S'<|Z C) (len:∀ds S R Z,sp ds S R Z->ds.length=ps.length:=by intro _ _ _ _ h;first|(cases h;subst_vars;rfl;done)|(repeat first|(obtain⟨e,_⟩:=h;rw[e];rfl;done)|obtain⟨_,h⟩:=h)):bK P w K mg base (fj P w mg) (k+1) f fd ps (qW K sp):=F.ok S len gT
end
structure aa2(X:Cx)(N:List Str)(src:List (Option Nat))(scope:Scope):Prop where
 kind:scope.kind=.function
 nd:(scope.names.map Prod.fst).Nodup
 loc:∀y∈scope.names,y.2=.local->scope.names.lookup y.1=some .local
 Ay:∀y∈scope.names,y.2=.free->X.env.kindOf y.1=some .cell\/X.env.kindOf y.1=some .free
 len:src.length=N.length
 src:∀(i j:Nat)(x:Str),src[i]?=some (some j)->N[i]?=some x->X.N[j]?=some x/\scope.names.lookup x=some .free/\Nz X.env.scope x
section
variable{K:Frag}{p:Pos}{e:Expr}
structure adh(P:Program)(w:World)(K:Frag)(mg:Str->Option Value)(base:Heap)(k:Nat)(f:Addr)(sp:Sp):Prop where
 ex:∃fd ps,bK P w K mg base (fj P w mg) k f fd ps sp/\Binds K fd ps []
 kp:keepIn K (.ref f)=true
inductive CvR {ι:Type} (i:Nat) (fa:ι->Addr) (σ:SD) (p:ι->Prop):Prop where
 |mk (o:ι) (e:σ[i]?=some (some<|.ref<|fa o)) (r:p o)
end
section
variable{X:Cx}{pos:Pos}{prog:Program}{w:World}{A:Around}{E:Value->Shared->Prop}
theorem UU(ne:l≠it):∀(n i:Nat){s:Shared}{Q:List Value->Shared->Prop},s.heap.IsListIter it l i->s.heap.IsList l au->i+n<=au.size->(∀h',h'.IsListIter it l (i+n)->Heap.SameBut it s.heap h'->Q ((au.toList.drop i).take n) {s with heap:=h'})->wpAny (model prog w) A (draw (.ref it) n) Q E s:=by intro n;induction n with|zero=>intro i s Q hit _ _ q;have:=q s.heap hit<|Heap.SameBut.refl ..;rw[List.take_zero]at this;exact zf this|succ n ih=>intro i s Q hit hl hz q;have hi:i<au.size:=(by lia);refine za<|wpAny_pyNext_list_item hit hl (x:=au[i]) (by simp[hi]) λh1 Q2 s1=>?_;refine za<|yg<|ih (i+1) Q2 (hl.extBut s1.extBut ne) (by lia) λh2 it2 s2=>zf ?_;have:=q h2 (by rw[Nat.add_comm n 1,<-Nat.add_assoc];exact it2)<|s1.trans s2;rw[show au.toList.drop i=au[i]::au.toList.drop (i+1) by simp[List.drop_eq_getElem_cons,hi],List.take_succ_cons]at this;exact this
theorem Lo(hh:A.handled=none)(hl:s.heap.IsList l au) (q:∀h',Heap.ExtBut s.heap.objs.size s.heap h'->Q au.toList {s with heap:=h'}):wpAny (model prog w) A (unpackItems (.ref l) au.size none) Q E s:=by
 have ne:l≠s.heap.objs.size:=by obtain⟨o,ho,_⟩:=id hl;exact zx<|zq ho
 unfold unpackItems notIterableAtAll;refine za<|za<|wpAny_specialOf hl.typeIs slot_list_iter.lookup<|zf ?_;simp only[Bool.false_eq_true,if_false];refine za<|yg<|wpAny_pyIter_list hl ?_;refine za<|yg<|UU ne au.size 0 {_,zi _ rfl,rfl,rfl} (hl.push _) (by lia) λh1 Q2 s1=>?_;rw[List.drop_zero,List.take_of_length_le<|by simp,if_neg<|by simp];refine za<|yg<|wpAny_pyNext_list_end hh Q2 ((hl.push _).extBut s1.extBut ne) (by simp) λh2 e2=>?_;simp only[Option.isSome_none,Bool.false_eq_true,if_false];exact zf<|q h2 λb o hb e=>e2 b o hb<|s1.extBut b o hb<|zb _ e
def UW(K:Frag)(n:Nat)(t:Jx):TG:=λv σ H Q=>∃a xs,v=.ref a/\ji K H a xs/\xs.length=n/\t xs σ H Q
theorem PD{t:Jx}(hc:X.calm=true)(h:JO X es t)(hn:(assignEach es X.env).length=n)(lS:(assignEach es X.env).findIdx? (·.1)=none):PG X (.Tuple es k pos) (UW X.K n t):=by rintro pins s σ H v u Q I r ⟨a,xs,rfl,hq,hl,hw⟩;cases r;obtain⟨au,rv,⟨o,m,e,c,_,d⟩,hz⟩:=I.list hq;have hL:s.heap.IsList a au.toArray:=⟨o,e,c,m,d⟩;rw[assign_Tuple];refine za<|wpAny_standAt ?_;unfold unpack;rw[lS,show(assignEach es X.env).length=au.toArray.size by simp[hn,<-hl,rv.length]];refine za<|yg<|Lo (I.ok.hd hc) hL λh' hx=>?_;have I1:Inv X pins σ H {s with heap:=h'}:=I.kept (t':=s.toks) λb o e=>hx b o (zx<|zq e) e;exact h pins _ σ H xs _ Q I1 (by simpa using rv) hw
end
section
variable{K:Frag}{X:Cx}{pos:Pos}
def UX(n:Nat)(g:Bz):xD:=λd σ S R=>∃a ds,d=.ref a/\S a=some (.lst ds)/\ds.length=n/\g ds σ S R
theorem gtl(h:T4 K X es g)(hn:autoParam (∀env:Env,(assignEach es env).length=n) qQ0)(lS:autoParam (∀env:Env,(assignEach es env).findIdx? (·.1)=none) qQ0)(hK:autoParam (X.K=K) qQJ)(hc:autoParam (X.calm=true) qQJ):DG K X (.Tuple es j pos) (UX n g):=⟨λY a b c d f=>(PD (X:=Y) (by rw[f];exact hc) (h.of Y a b c d f) (hn _)<|lS _).mono <| by rintro v τ H Q ⟨d,σ,S,R,rv,aB,hS,⟨l,ds,e,hl,hz,q⟩,hR⟩;subst e;obtain⟨xs,e1,t⟩:=hS.lst hl;exact{l,xs,rv.ref,by rw[a,hK];exact .of e1,by rw[t.len];exact hz,ds,σ,S,R,t,aB,hS,q,hR}⟩
end
noncomputable def fJ(N:Nat)(v:Nat->Value):Array Value:=((List.range N).map v).toArray
structure ZN(n N:Nat)(l:Nat->Addr)(i:Nat)(h:Heap):Prop where
 z:IsZip h (n+N+2) (n+N) (n+N+1) .none
 t:mf h (n+N) (fJ N λj=>.ref<|n+j)
 o:∃arr:Array Value,arr.size=N/\mf h (n+N+1) arr
 it:∀j,j<N->h.IsTupleIter (n+j) (l j) i
theorem kf:(fJ N v).size=N:=by unfold fJ;simp
theorem jw:(fJ N v).toList.length=N:=by unfold fJ;simp
theorem Lp(h:arr.size=N)(e:∀j,j<N->arr[j]?=some (v j)):arr=fJ N v:=by refine Array.ext (by rw[h,kf]) λj h1 h2=>?_;have:=e j (by lia);rw[Array.getElem?_eq_getElem h1]at this;rw[zV this];simp[fJ]
section
variable{prog:Program}{w:World}{A:Around}{E:Value->Shared->Prop}{s:Shared}{n N:Nat}{l:Nat->Addr}{i:Nat}{xs:Nat->Array Value}
theorem EV{v:Nat->Value}{Q:Value->Shared->Prop}(h1:1<=N)(h3:N<=3)(lt:∀j,j<N->l j<n)(hs:ZN n N l i s.heap)(tu:∀j,j<N->s.heap.IsTuple (l j) (xs j))(ev:∀j,j<N->(xs j)[i]?=some (v j)) (hQ:∀h',IsZip h' (n+N+2) (n+N) (n+N+1) (rawInt s.heap.objs.size)->mf h' (n+N+1) (fJ N v)->(∀j,j<N->h'.IsTupleIter (n+j) (l j) (i+1))->mf h' s.heap.objs.size (fJ N v)->(∀c o,c≠n+N+2->c≠n+N+1->(∀j,j<N->c≠n+j)->s.heap.get? c=some o->h'.get? c=some o)->Q (.ref s.heap.objs.size) {s with heap:=h'}): wpAny (model prog w) A (Builtin.«zip.__next__» {[.ref<|n+N+2],[]}) (λfin s'=>∃v,fin=.done (.ret v)/\Q v s') E s:=by
 obtain⟨hz,hI,⟨arr,na,hO⟩,hit⟩:=hs;show wpAny _ _ (field (.ref<|n+N+2) 2 >>=_) _ _ _;refine za<|ya hz rfl (x:=.bool false) rfl ?_;show wpAny _ _ (field (.ref<|n+N+2) 3 >>=_) _ _ _;refine za<|ya hz rfl (x:=.ref<|n+N) rfl ?_;refine za<|wpAny_seqItems hI rfl ?_;have he:(fJ N λj=>Value.ref<|n+j).isEmpty=false:=by rw[Array.isEmpty_eq_false_iff];intro e;have:=congrArg Array.size e;rw[kf]at this;simp at this;lia
 dsimp only;rw[if_neg<|by rw[he];exact zd];refine za ?_;unfold Builtin.SmallTypes.ownedTupleIsFree;refine za<|ya hz rfl (x:=.none) rfl<|zf ?_;simp only[if_true];refine za<|yT ?_;refine za<|ya hz rfl (x:=.ref<|n+N+1) rfl ?_;refine za<|wpAny_setField_rec hz (by simp) λh0 PF q0=>?_;replace PF:IsZip h0 (n+N+2) (n+N) (n+N+1) .ellipsis:=PF;have k0:∀c o,c≠n+N+2->s.heap.get? c=some o->h0.get? c=some o:=λc o d e=>q0.extBut _ _ d e;refine za<|wpAny_forIn_list _ (λrest b s'=>∃(k:Nat)(h':Heap)(a':Array Value),k<=N/\rest=((fJ N λj=>Value.ref<|n+j).toList.zipIdx).drop k/\b=(none,())/\s'={s with heap:=h'}/\mf h' (n+N+1) a'/\a'.size=N/\(∀j,j<k->a'[j]?=some (v j))/\(∀j,j<N->h'.IsTupleIter (n+j) (l j) (if j<k then i+1 else i))/\IsZip h' (n+N+2) (n+N) (n+N+1) .ellipsis/\h'.objs.size=s.heap.objs.size/\(∀c o,c≠n+N+2->c≠n+N+1->(∀j,j<N->c≠n+j)->s.heap.get? c=some o->h'.get? c=some o)) _ ?_ ?_ _ _ ?_;rintro x rest b s' ⟨k,h',a',hk,e1,rfl,rfl,O,ha,hv,J,Z,sz,kp⟩;have cK:k<N:=by have:=congrArg List.length e1;rw[zD,yK,List.length_zipIdx,jw]at this;lia
 have e2:((fJ N λj=>Value.ref<|n+j).toList.zipIdx).drop k=(Value.ref<|n+k,k)::((fJ N λj=>Value.ref<|n+j).toList.zipIdx).drop (k+1):=by rw[List.drop_eq_getElem_cons<|by rw[List.length_zipIdx,jw];exact cK];simp[fJ]
 rw[e2]at e1;cases e1;have lk:@LT.lt Nat _ (l k) n:=lt k cK;have Jk:=J k cK;rw[if_neg<|yC _]at Jk;have T0:Heap.IsTuple h' (l k) (xs k):=by obtain⟨o,a1,a2⟩:=tu k cK;exact{o,kp _ _ (by show @Ne Nat _ _;lia) (by show @Ne Nat _ _;lia) (λj _=>by show @Ne Nat _ _;lia) a1,a2}
 refine za<|wpAny_onRaise ?_;show wpAny _ _ (Builtin.SmallTypes.nextOf (.ref<|n+k) >>=_) _ _ _;refine za<|Bc (s:={s with heap:=h'}) Jk T0 (ev k cK) λg1 m0 q1=>zf ?_;have O1:mf g1 (n+N+1) a':=q1.extBut _ _ (by show @Ne Nat _ _;lia) O;refine za<|wpAny_seqItems (s:={s with heap:=g1}) O1 rfl ?_;refine za<|EB (s:={s with heap:=g1}) O1 (by lia) λg2 O2 q2=>?_;refine za<|wpAny_letGo<|zf ?_;refine{k+1,g2,_,cK,rfl,rfl,rfl,O2,by rw[Array.size_setIfInBounds];exact ha,λj hj=>?_,λj hj=>?_,q2.extBut _ _ (by show @Ne Nat _ _;lia)<|q1.extBut _ _ (by show @Ne Nat _ _;lia) Z,by rw[q2.1,q1.1];exact sz,λc o d1 d2 d3 e=>q2.extBut _ _ d2<|q1.extBut _ _ (d3 k cK)<|kp c o d1 d2 d3 e};by_cases z:j=k;subst z;rw[Array.getElem?_setIfInBounds_self_of_lt<|by lia];rw[Array.getElem?_setIfInBounds_ne<|Ne.symm z];exact hv j (by lia);by_cases z:j=k;subst z;rw[if_pos<|Nat.lt_succ_self _];exact vg q2.extBut (by show @Ne Nat _ _;lia) m0;have:=J j hj;rw[show(if j<k+1 then i+1 else i)=if j<k then i+1 else i by by_cases y:j<k;rw[if_pos y,if_pos<|by lia];rw[if_neg y,if_neg<|by lia]];exact vg q2.extBut (by show @Ne Nat _ _;lia)<|vg q1.extBut (by show @Ne Nat _ _;lia) this;rintro b s' ⟨k,h',a',hk,e1,rfl,rfl,O,ha,hv,J,Z,sz,kp⟩;have cK:k=N:=by have:=congrArg List.length e1;rw[List.length_nil,yK,List.length_zipIdx,jw]at this;lia
 subst cK;have ea:=Lp ha hv;subst ea;refine za<|wpAny_seqItems (s:={s with heap:=h'}) O rfl ?_;refine za<|wpAny_newTuple ?_ (hsz:=by rw[jw];exact XX h3);have lz:n+k+2<h'.objs.size:=zq Z;show wpAny _ _ (Builtin.SmallTypes.ownedTupleHandOut (.ref<|n+k+2) (.ref h'.objs.size) >>=_) _ _ _;refine za ?_;unfold Builtin.SmallTypes.ownedTupleHandOut;have hzM:IsZip (h'.push {cls:=.type "tuple",data:=.seq<|fJ k v}) (n+k+2) (n+k) (n+k+1) .ellipsis:=zb _ Z;refine za<|wpAny_setField_rec (s:={s with heap:=h'.push {cls:=.type "tuple",data:=.seq<|fJ k v}}) hzM (by simp) λg1 Rj r1=>?_;replace Rj:IsZip g1 (n+k+2) (n+k) (n+k+1) (rawInt h'.objs.size):=Rj;refine wpAny_setField_rec (s:={s with heap:=g1}) Rj (by simp) λg2 Pp r2=>?_;replace Pp:IsZip g2 (n+k+2) (n+k) (n+k+1) (rawInt h'.objs.size):=Pp;have up:∀c o,c≠n+k+2->h'.get? c=some o->g2.get? c=some o:=λc o d e=>r2.extBut _ _ d<|r1.extBut _ _ d<|zb _ e;have hT:mf g2 h'.objs.size (fJ k v):=r2.extBut _ _ (yr lz)<|r1.extBut _ _ (yr lz)<|zi _ rfl;rw[sz]at Pp hT;refine zf !⟨?_⟩;show Q (.ref h'.objs.size) _;rw[sz];refine hQ g2 Pp (up _ _ (by show @Ne Nat _ _;lia) O) (λj hj=>?_) hT λc o d1 d2 d3 e=>up c o d1<|kp c o d1 d2 d3 e;have:=J j hj;rw[if_pos hj]at this;exact MA (λo e=>up _ o (by show @Ne Nat _ _;lia) e) this;refine{0,h0,arr,yh _,rfl,rfl,rfl,k0 _ _ (by show @Ne Nat _ _;lia) hO,na,λj hj=>absurd hj<|Nat.not_lt_zero _,λj hj=>?_,PF,q0.1,λc o d _ _ e=>k0 c o d e};rw[if_neg<|Nat.not_lt_zero _];obtain⟨o,a1,a2⟩:=hit j hj;exact{o,k0 _ _ (by show @Ne Nat _ _;lia) a1,a2}
theorem HE(h1:1<=N)(hh:A.handled=none)(hs:ZN n N l i s.heap)(lt:l 0<n)(t0:s.heap.IsTuple (l 0)<|xs 0)(e0:(xs 0)[i]?=none) (hE:∀h' e,(∀c o,c≠n+N+2->c≠n+0->s.heap.get? c=some o->h'.get? c=some o)->(∃o,h'.get? e=some o/\o.cls=.type "StopIteration")->E (.ref e) {s with heap:=h'}): wpAny (model prog w) A (Builtin.«zip.__next__» {[.ref<|n+N+2],[]}) Q E s:=by
 obtain⟨hz,hI,⟨arr,na,hO⟩,hit⟩:=hs;show wpAny _ _ (field (.ref<|n+N+2) 2 >>=_) _ _ _;refine za<|ya hz rfl (x:=.bool false) rfl ?_;show wpAny _ _ (field (.ref<|n+N+2) 3 >>=_) _ _ _;refine za<|ya hz rfl (x:=.ref<|n+N) rfl ?_;refine za<|wpAny_seqItems hI rfl ?_;have he:(fJ N λj=>Value.ref<|n+j).isEmpty=false:=by rw[Array.isEmpty_eq_false_iff];intro e;have:=congrArg Array.size e;rw[kf]at this;simp at this;lia
 dsimp only;rw[if_neg<|by rw[he];exact zd];refine za ?_;unfold Builtin.SmallTypes.ownedTupleIsFree;refine za<|ya hz rfl (x:=.none) rfl<|zf ?_;simp only[if_true];refine za<|yT ?_;refine za<|ya hz rfl (x:=.ref<|n+N+1) rfl ?_;refine za<|wpAny_setField_rec hz (by simp) λh0 PF q0=>?_;replace PF:IsZip h0 (n+N+2) (n+N) (n+N+1) .ellipsis:=PF;have lk:@LT.lt Nat _ (l 0) n:=lt;have J0:Heap.IsTupleIter h0 (n+0) (l 0) i:=by obtain⟨o,a1,a2⟩:=hit 0 h1;exact{o,q0.extBut _ _ (by show @Ne Nat _ _;lia) a1,a2}
 have T0:Heap.IsTuple h0 (l 0) (xs 0):=by obtain⟨o,a1,a2⟩:=t0;exact{o,q0.extBut _ _ (by show @Ne Nat _ _;lia) a1,a2}
 have e2:(fJ N λj=>Value.ref<|n+j).toList.zipIdx=(Value.ref<|n+0,0)::((fJ N λj=>Value.ref<|n+j).toList.zipIdx).drop 1:=by have:=List.drop_eq_getElem_cons (l:=(fJ N λj=>Value.ref<|n+j).toList.zipIdx) (i:=0) (by rw[List.length_zipIdx,jw];exact h1);rw[List.drop_zero]at this;rw[this];simp[fJ]
 rw[e2,List.forIn_cons];refine za<|za<|za<|wpAny_onRaise ?_;show wpAny _ _ (Builtin.SmallTypes.nextOf (.ref<|n+0) >>=_) _ _ _;refine za<|qN (s:={s with heap:=h0}) hh J0 T0 e0 λh1 e q1 he=>?_;obtain⟨oe,Zh,hce⟩:=he;have Rj:IsZip h1 (n+N+2) (n+N) (n+N+1) .ellipsis:=q1 _ _ (by show @Ne Nat _ _;lia) PF;have ez:e≠n+N+2:=λx=>by subst x;rw[Rj]at Zh;cases Zh;simp at hce
 refine wpAny_setField_rec (s:={s with heap:=h1}) Rj (by simp) λh2 _ q2=>hE h2 e (λc o dz d0 x=>q2.extBut _ _ dz<|q1 _ _ d0<|q0.extBut _ _ dz x) {oe,q2.extBut _ _ ez Zh,hce}
end
noncomputable def PH(K:Frag)(N:Nat)(l:Nat->Addr):It:={λi H=>∃(xs:Nat->List V)(x:Nat->V),∀j,j<N->gp K H (l j) (xs j)/\(xs j)[i]?=some (x j),λi H y H'=>∃T,H T=none/\y=.ref T/\∀(xs:Nat->List V)(x:Nat->V),(∀j,j<N->gp K H (l j) (xs j)/\(xs j)[i]?=some (x j))->H'=upd H T (.tup<|(List.range N).map x),λi H=>∃xs:Nat->List V,(∀j,j<N->gp K H (l j) (xs j))/\(xs 0).length<=i}
noncomputable def Rk(n N:Nat):List Addr:=(List.range<|N+3).map λj=>n+j
theorem p_(h:b∈Rk n N):∃j,j<N+3/\b=n+j:=by obtain⟨j,hj,e⟩:=ze.mp h;exact{j,zT.mp hj,e.symm}
theorem fK(h:j<N+3):(n+j:Nat)∈Rk n N:=ze.mpr {j,zT.mpr h,rfl}
theorem BI(h:∀j,j<N->RelV (x j) (u j)):Vals ((List.range N).map x) ((List.range N).map u):=by
 have:∀l:List Nat,(∀j∈l,j<N)->Vals (l.map x) (l.map u):=by intro l;induction l with|nil=>exact λ_=>.nil|cons a l ih=>exact λhl=>.cons (h a<|hl a zy)<|ih λj hj=>hl j<|zj _ hj
 exact this _ λj hj=>zT.mp hj
theorem uz{P:Program}{w:World}{K:Frag}{es:List Expr}{kk:Nat}{tp:Pos}{n N:Nat}{l:Nat->Addr}(h1:1<=N)(h3:N<=3)(lt:∀j,j<N->l j<n):Turn P w K (.Tuple es kk tp) (PH K N l) (Rk n N) (n+N+2) (ZN n N l) where
 mem:=fK (j:=N+2)<|by lia
 obj:=λi h st b hb=>by
  obtain⟨j,hj,rfl⟩:=p_ hb
  by_cases q:j<N
  ·obtain⟨o,e,c,d⟩:=st.it j q;exact{o,e,λv z=>by rw[d]at z;cases z}
  ·obtain⟨arr,na,hO⟩:=st.o
   have:j=N\/j=N+1\/j=N+2:=by lia
   rcases this with rfl|rfl|rfl
   ·exact{_,st.t,λv z=>by cases z}
   ·exact{_,hO,λv z=>by cases z}
   ·exact{_,st.z,λv z=>by cases z}
 keep:=λi h h' st k=>by
  obtain⟨hz,hI,⟨arr,na,hO⟩,J⟩:=st
  exact{k _ (fK (j:=N+2)<|by lia) _ hz,k _ (fK (j:=N)<|by lia) _ hI,{arr,na,k _ (fK (j:=N+1)<|by lia) _ hO},λj hj=>MA (λo e=>k _ (fK<|by lia) o e)<|J j hj}
 item:=by
  intro X hP hw hK hc i pins s σ H E I hf st hg
  subst hP hw hK
  obtain⟨xs,x,hx⟩:=hg
  have ex:∀j,∃(au:List Value)(u:Value),j<N->Vals (xs j) au/\s.heap.IsTuple (l j) au.toArray/\au[i]?=some u/\RelV (x j) u:=λj=>by
   by_cases q:j<N
   ·obtain⟨au,rv,p,_⟩:=I.tuple (hx j q).1
    obtain⟨u,hu,ru⟩:=rv.get (hx j q).2
    exact{au,u,λ_=>⟨rv,p,hu,ru⟩}
   ·exact{[],.none,λh=>absurd h q}
  have fx:=Classical.axiomOfChoice ex
  obtain⟨au,fx⟩:=fx
  obtain⟨u,fx⟩:=Classical.axiomOfChoice fx
  have hT:s.TypeIs (.ref<|n+N+2) "zip":={_,st.z,rfl}
  have lz:@LT.lt Nat _ (n+N+2) s.heap.objs.size:=zq st.z
  unfold pyNext
  refine za<|wpAny_attempt<|yp (name:=Str.ofString "__next__") hT F.slot_zip_next<|yA F.slot_zip_next hT F.entry_zip_next (EV h1 h3 lt st (xs:=λj=>(au j).toArray) (v:=u) (λj hj=>(fx j hj).2.1) (λj hj=>by simpa using (fx j hj).2.2.1) λg1 z1 O1 m1 T1 kp=>zf !⟨?_⟩)<|F.args_zip_next_1 _
  refine wpAny_letOwnedTupleGo_zip (s:={s with heap:=g1}) z1 λg2 z2 r2=>?_
  have Wm:∀c o,c∉Rk n N->s.heap.get? c=some o->g2.get? c=some o:=λc o hc e=>r2.extBut _ _ (λz=>hc<|z ▸ fK (j:=N+2) (by lia))<|kp c o (λz=>hc<|z ▸ fK (j:=N+2) (by lia)) (λz=>hc<|z ▸ fK (j:=N+1) (by lia)) (λj hj z=>hc<|z ▸ fK (by lia)) e
  have T2:mf g2 s.heap.objs.size (fJ N u):=r2.extBut _ _ (yr lz) T1
  have I2:Inv X pins σ (upd H s.heap.objs.size<|.tup<|(List.range N).map x) {s with heap:=g2}:=I.Kv (t':=s.toks) (Rk n N) hf Wm (Heap.get?_none_of_le<|zl _) {by rw[zc,List.length_range];exact XW<|zK h3<|by decide,_,BI λj hj=>(fx j hj).2.2.2,{_,T2,rfl,rfl,_,rfl}}
  refine{.ref s.heap.objs.size,_,I2,rfl,{_,I.aH.fresh<|zl _,rfl,λys y hy=>?_},{z2,?_,{_,kf,r2.extBut _ _ (by show @Ne Nat _ _;lia) O1},λj hj=>vg r2.extBut (by show @Ne Nat _ _;lia)<|m1 j hj},λb hb=>?_}
  ·congr 2
   refine zX λj hj=>?_
   have hj:=zT.mp hj
   have:=I.nr (hy j hj).1 (hx j hj).1
   have e:=(hy j hj).2
   rw[this,(hx j hj).2]at e
   exact zV e
  ·exact r2.extBut _ _ (by show @Ne Nat _ _;lia) (kp _ _ (by show @Ne Nat _ _;lia) (by show @Ne Nat _ _;lia) (λj hj=>by show @Ne Nat _ _;lia) st.t)
  ·obtain⟨j,hj,rfl⟩:=p_ hb
   rw[ao<|by show @Ne Nat _ _;lia]
   exact(hf _ hb).1
 done:=by
  intro X hP hw hK hc i pins s σ H E I hf st hg
  subst hP hw hK
  obtain⟨xs,hx,hl⟩:=hg
  obtain⟨HF,Zi,p0,_⟩:=I.tuple<|hx 0 h1
  have hT:s.TypeIs (.ref<|n+N+2) "zip":={_,st.z,rfl}
  have Rl:=Zi.length
  unfold pyNext
  refine za<|wpAny_attempt<|yp (name:=Str.ofString "__next__") hT F.slot_zip_next<|yA F.slot_zip_next hT F.entry_zip_next (HE h1 (I.ok.hd hc) st (lt 0 h1) (xs:=λ_=>HF.toArray) p0 (by simp;lia) λh1 e kp he=>?_)<|F.args_zip_next_1 _
  obtain⟨o,ho,K9⟩:=he
  refine za<|wpAny_isInstance (T:="StopIteration") (b:=true) ⟨o,ho,K9⟩ isSubtype_stop<|zf {rfl,?_}
  exact I.Ku (t':=s.toks) (Rk n N) hf λc o hc e=>kp c o (λz=>hc<|z ▸ fK (j:=N+2) (by lia)) (λz=>hc<|z ▸ fK (j:=0) (by lia)) e
 self:=λA' i s Q E st h=>wpAny_pyIter_zip st.z h
noncomputable def two(a b:Addr):Nat->Addr:=λj=>if j=0 then a else b
noncomputable def PJ(a b c:Addr):Nat->Addr:=λj=>if j=0 then a else if j=1 then b else c
theorem Wo{p:Nat->Prop}(h0:p 0)(h1:p 1):∀j,j<2->p j|0,_=>h0|1,_=>h1|j+2,h=>by lia
theorem Wq{p:Nat->Prop}(h0:p 0)(h1:p 1)(h2:p 2):∀j,j<3->p j|0,_=>h0|1,_=>h1|2,_=>h2|j+3,h=>by lia
section
variable{X:Cx}{a b c:Expr}{ta:TA}{p pos tp:Pos}{es:List Expr}{kk:Nat}
theorem PK(hg:Gl X "zip")(hm:X.mg "zip"= none)(ha:PA X [a,b] ta)(hs:starEach [a,b] X.env=[(false,eval a X.env),(false,eval b X.env)])(uQ:starEach [b] X.env=[(false,eval b X.env)]): PI X (.Tuple es kk tp) (.Call (.Name "zip" p) [a,b] [] pos) (λσ H R=>ta σ H λvs H1=>∃l0 l1,vs=[.ref l0,.ref l1]/\(∃xs,gp X.K H1 l0 xs)/\(∃xs,gp X.K H1 l1 xs)/\R (PH X.K 2<|two l0 l1) H1):=by intro pins s σ H R I h;refine Call_<|gF I hg hm boot_zip<|PyProof.Rows.callWith_type1 (bu (ha pos pins s σ H _ I h) λus s1 ⟨vs,H1,I1,r1,q1⟩=>?_) (by rw[hs,uQ]) (by rw[uQ];rfl);obtain⟨l0,l1,e,⟨Be,q0⟩,⟨Bf,q2⟩,q⟩:=q1;subst e;obtain⟨u,v,rfl,r,r'⟩:=r1.two;cases r;cases r';obtain⟨HF,Zi,p0,_⟩:=I1.tuple q0;obtain⟨PL,UE,p1,_⟩:=I1.tuple q2;refine Bi (show s1.heap.IsTuple l0 HF.toArray from p0) (show s1.heap.IsTuple l1 PL.toArray from p1) λh' zs kp=>?_;have zn:ZN s1.heap.objs.size 2 (two l0 l1) 0 h':={zs.1,zs.2.1,zs.2.2.1,Wo zs.2.2.2.1 zs.2.2.2.2};refine wpAny_pyIter_zip (s:={s1 with heap:=h'}) zs.1 {_,_,_,_,H1,rfl,I1.kept (t':=s1.toks) kp,uz (by decide) (by decide)<|Wo p0.lt p1.lt,zn,λb hb=>?_,q};obtain⟨j,_,rfl⟩:=p_ hb;exact I1.pA (Nat.le_add_right _ _)<|I1.aH.fresh<|Nat.le_add_right _ _
theorem PM(hg:Gl X "zip")(hm:X.mg "zip"= none)(ha:PA X [a,b,c] ta)(hs:starEach [a,b,c] X.env=[(false,eval a X.env),(false,eval b X.env),(false,eval c X.env)])(uQ:starEach [b,c] X.env=[(false,eval b X.env),(false,eval c X.env)]): PI X (.Tuple es kk tp) (.Call (.Name "zip" p) [a,b,c] [] pos) (λσ H R=>ta σ H λvs H1=>∃l0 l1 l2,vs=[.ref l0,.ref l1,.ref l2]/\(∃xs,gp X.K H1 l0 xs)/\(∃xs,gp X.K H1 l1 xs)/\(∃xs,gp X.K H1 l2 xs)/\R (PH X.K 3<|PJ l0 l1 l2) H1):=by intro pins s σ H R I h;refine Call_<|gF I hg hm boot_zip<|PyProof.Rows.callWith_type1 (bu (ha pos pins s σ H _ I h) λus s1 ⟨vs,H1,I1,r1,q1⟩=>?_) (by rw[hs,uQ]) (by rw[uQ];rfl);obtain⟨l0,l1,l2,e,⟨Be,q0⟩,⟨Bf,q2⟩,⟨Q3,q3⟩,q⟩:=q1;subst e;obtain⟨u,v,z,rfl,r,r',r''⟩:=r1.three;cases r;cases r';cases r'';obtain⟨HF,Zi,p0,_⟩:=I1.tuple q0;obtain⟨PL,UE,p1,_⟩:=I1.tuple q2;obtain⟨l6,Ri,p2,_⟩:=I1.tuple q3;refine Bp (show s1.heap.IsTuple l0 HF.toArray from p0) (show s1.heap.IsTuple l1 PL.toArray from p1) (show s1.heap.IsTuple l2 l6.toArray from p2) λh' zs kp=>?_;have zn:ZN s1.heap.objs.size 3 (PJ l0 l1 l2) 0 h':={zs.1,zs.2.1,zs.2.2.1,Wq zs.2.2.2.1 zs.2.2.2.2.1 zs.2.2.2.2.2};refine wpAny_pyIter_zip (s:={s1 with heap:=h'}) zs.1 {_,_,_,_,H1,rfl,I1.kept (t':=s1.toks) kp,uz (by decide) (by decide)<|Wq p0.lt p1.lt p2.lt,zn,λb hb=>?_,q};obtain⟨j,_,rfl⟩:=p_ hb;exact I1.pA (Nat.le_add_right _ _)<|I1.aH.fresh<|Nat.le_add_right _ _
end
section
variable{K:Frag}{X:Cx}{a c e:Expr}{t:iD}{p pos tp:Pos}{es:List Expr}{kk:Nat}
theorem izn(hm:X.mg "zip"= none)(ha:DA K X [a,c] t)(hg:autoParam (Gl X "zip") qQJ)(hs:autoParam (starEach [a,c] X.env=[(false,eval a X.env),(false,eval c X.env)]) qQJ)(uQ:autoParam (starEach [c] X.env=[(false,eval c X.env)]) qQJ)(hK:autoParam (X.K=K) qQJ): DI K X (.Tuple es kk tp) (.Call (.Name "zip" p) [a,c] [] pos) (Ul t):=by subst hK;exact⟨λy=>(PK (X:=y.cx) hg hm (ha.of y) hs uQ).mono λτ H R ⟨σ,S,RI,Z,aB,hS,q,hR,hZ⟩=>{σ,S,_,Z,aB,hS,q,λds S1 vs H1 ⟨xs,ys,e,hl,r1⟩ v1 s1 k1=>by subst e;obtain⟨v,u,rfl,ra,rb⟩:=v1.two;obtain⟨a,va,rfl,qa,ta⟩:=ra.tup;obtain⟨b,vb,rfl,qb,tb⟩:=rb.tup;refine{a,b,rfl,{va,.of qa},{vb,.of qb},hR _ S1 _ H1 r1 (λi S2 H2 k2 s2 _=>?_) s1 k1};have UY:gp X.K H2 a va:=.of<|k2.t _ _ qa;have UZ:gp X.K H2 b vb:=.of<|k2.t _ _ qb;have la:va.length=xs.length:=ta.len;let f:Nat->List V:=λj=>if j=0 then va else vb;refine{λd hd=>?_,λh=>{f,Wo UY UZ,by show va.length<=i;unfold cJ at h;rw[List.length_zipWith]at h;lia}};unfold cJ at hd;obtain⟨x,y',e1,e2,e3⟩:=List.getElem?_zipWith_eq_some.mp hd;subst e3;obtain⟨vx,f1,g1⟩:=(RvAll.ts k2 _ ta).get e1;obtain⟨vy,f2,g2⟩:=(RvAll.ts k2 _ tb).get e2;let g:Nat->V:=λj=>if j=0 then vx else vy;have ok:∀j,j<2->gp X.K H2 (two a b j) (f j)/\(f j)[i]?=some (g j):=Wo ⟨UY,f1⟩ ⟨UZ,f2⟩;refine{⟨f,g,ok⟩,λx' H' ⟨T,hT,e4,e5⟩=>?_};have:=e5 f g ok;subst this e4;have kk:Kp X.K H2 (upd H2 T<|.tup [vx,vy]):=.new hT;exact{iB aD<|RvAll.ts kk _<|aS g1<|aS g2 bE,kk,s2.grow hT},hZ}⟩
theorem Zj(hm:X.mg "zip"= none)(ha:DA K X [a,c,e] t)(hg:autoParam (Gl X "zip") qQJ)(hs:autoParam (starEach [a,c,e] X.env=[(false,eval a X.env),(false,eval c X.env),(false,eval e X.env)]) qQJ)(uQ:autoParam (starEach [c,e] X.env=[(false,eval c X.env),(false,eval e X.env)]) qQJ)(hK:autoParam (X.K=K) qQJ): DI K X (.Tuple es kk tp) (.Call (.Name "zip" p) [a,c,e] [] pos) (PC t):=by subst hK;exact⟨λy=>(PM (X:=y.cx) hg hm (ha.of y) hs uQ).mono λτ H R ⟨σ,S,RI,Z,aB,hS,q,hR,hZ⟩=>{σ,S,_,Z,aB,hS,q,λds S1 vs H1 ⟨xs,ys,zs,e,hl,Gz,r1⟩ v1 s1 k1=>by subst e;obtain⟨v,u,w,rfl,ra,rb,rc⟩:=v1.thr;obtain⟨a,va,rfl,qa,ta⟩:=ra.tup;obtain⟨b,vb,rfl,qb,tb⟩:=rb.tup;obtain⟨c,vc,rfl,qc,tc⟩:=rc.tup;refine{a,b,c,rfl,{va,.of qa},{vb,.of qb},{vc,.of qc},hR _ S1 _ H1 r1 (λi S2 H2 k2 s2 _=>?_) s1 k1};have UY:gp X.K H2 a va:=.of<|k2.t _ _ qa;have UZ:gp X.K H2 b vb:=.of<|k2.t _ _ qb;have qc2:gp X.K H2 c vc:=.of<|k2.t _ _ qc;have la:va.length=xs.length:=ta.len;let f:Nat->List V:=λj=>if j=0 then va else if j=1 then vb else vc;refine{λd hd=>?_,λh=>{f,Wq UY UZ qc2,by show va.length<=i;rw[la,<-uy hl Gz];exact h}};obtain⟨x,y',z,e1,e2,e3,e4⟩:=nM hd;subst e4;obtain⟨vx,f1,g1⟩:=(RvAll.ts k2 _ ta).get e1;obtain⟨vy,f2,g2⟩:=(RvAll.ts k2 _ tb).get e2;obtain⟨vz,f3,g3⟩:=(RvAll.ts k2 _ tc).get e3;let g:Nat->V:=λj=>if j=0 then vx else if j=1 then vy else vz;have ok:∀j,j<3->gp X.K H2 (PJ a b c j) (f j)/\(f j)[i]?=some (g j):=Wq ⟨UY,f1⟩ ⟨UZ,f2⟩ ⟨qc2,f3⟩;refine{⟨f,g,ok⟩,λx' H' ⟨T,hT,e4,e5⟩=>?_};have:=e5 f g ok;subst this e4;have kk:Kp X.K H2 (upd H2 T<|.tup [vx,vy,vz]):=.new hT;exact{iB aD<|RvAll.ts kk _<|aS g1<|aS g2<|aS g3 bE,kk,s2.grow hT},hZ}⟩
end
end L2
namespace My
open PySem L2
def top(i:Nat):Stmt:=PySem.Challenge.pw_pageturns_k33_pages_refused.main.body.getD i<|.Pass {0,0,0,0}
abbrev EW:Stmt:=top 20
abbrev HG:Stmt:=top 21
abbrev EX:Stmt:=top 22
abbrev pI:Stmt:=top 29
abbrev BJ:Stmt:=top 31
abbrev vH:Stmt:=top 34
abbrev kW:Stmt:=top 44
abbrev lB:Stmt:=top 47
abbrev BK:Stmt:=top 49
abbrev s_:Stmt:=top 57
abbrev xV:Stmt:=top 58
abbrev xW:Stmt:=top 62
abbrev jx:Stmt:=top 66
abbrev gZ:Stmt:=top 68
abbrev g6:Stmt:=top 69
abbrev fL:Stmt:=top 70
abbrev BL:Stmt:=top 94
abbrev HH:Stmt:=top 98
abbrev Lq:Stmt:=top 99
abbrev EY:Stmt:=top 100
abbrev Ls:Stmt:=top 104
abbrev U0:Stmt:=top 105
abbrev bx:Stmt:=top 86
structure gm where
 (nO lC EZ xX E1 M4 mx rj vI jy jz iF uA cq my g7 aE aF az aN rl mz aA aj gu aR fk aL:Addr)
 (g_ fM E3 xY E6 HJ gv jA:FuncData)
 (mB nQ mC rm kG xZ kH mD x5:Tok)
 ts:List Addr
 (f BM:Nat->Addr)
 (d PN:Nat->FuncData)
structure Txt(w:World)(K:Frag)(mg:Str->Option Value)(t:gm):Prop where
 fn:ET K mg top t.f t.d [17,18,19,20,21,22,23,24,25,26,29,30,31,32,33,34,35,41,42,43,44,45,46,47,48,49,50,51,57,58,59,60,61,62,63,65,66,67,69,75,76,77,78,79,80,81,82,83,87,89,90,91,92,93,94,95,96,97,98,99,100,101,102,103,104]
 eT:EU K t.aj "Shelf." bx t.BM t.PN [0,1,2,3,4,5,6,7,8,13]
 fN:FQ K mg "sorted_by_keys" (top 68) ["rows","way"] t.nO t.g_
 eK:FQ K mg "sorted_by_values" (top 70) ["columns","part","rows"] t.lC t.fM
 vJ:FQ K mg "page_on" (top 73) ["shelf","order","sieve","size","gap","moment"] t.EZ t.E3
 nR:FQ K mg "page_back" (top 74) ["shelf","order","sieve","size","gap","moment"] t.xX t.xY
 qd:FQ K mg "stretch" (top 84) ["shelf","order","sieve","fore","hinder","moment"] t.E1 t.E6
 Zk:FQ K mg "law" (top 105) ["_law_script"] t.M4 t.HJ
 dD:MZ K t.aj "worths_at" "Shelf.worths_at" (inClass bx 9) ["self","key","moment"] t.mx t.gv
 fm:Binds K t.gv ["self","key","moment"] [.none]
 cX:MZ K t.aj "all_at" "Shelf.all_at" (inClass bx 10) ["self","moment"] t.rj t.jA
 nS:Binds K t.jA ["self","moment"] [.none]
 lE:mg "MOST_NAME_SIGNS"= some (.int 8 t.mB)
 mE:mg "MOST_KEY_SIGNS"= some (.int 12 t.nQ)
 lF:mg "MOST_WORD_SIGNS"= some (.int 40 t.mC)
 pJ:mg "MOST_COLUMNS"= some (.int 8 t.rm)
 jB:mg "MOST_PARTS_orders"= some (.int 8 t.kG)
 vK:mg "MOST_DEEP"= some (.int 8 t.xZ)
 jC:mg "MOST_PARTS_sieves"= some (.int 200 t.kH)
 lG:mg "MOST_IN_A_TUPLE"= some (.int 8 t.mD)
 vL:mg "MOST_ROWS"= some (.int 1000 t.x5)
 HK:mg "KINDS"= some (.ref t.vI)
 HL:∀H,Rv K H (.kt [.str "number",.str "word"])<|.ref t.vI
 vM:mg "OTHER_WAY"= some (.ref t.jy)
 x6:JA w K t.jy [("up",.str "down"),("down",.str "up")]
 vN:mg "OTHER_END"= some (.ref t.jz)
 x8:JA w K t.jz [("first",.str "last"),("last",.str "first")]
 tj:mg "OTHER_SIDE"= some (.ref t.iF)
 vO:JA w K t.iF [("ahead",.str "behind"),("behind",.str "ahead")]
 BN:mg "LENGTHS"= some (.ref t.uA)
 E7:JA w K t.uA [("every",.int 1),("is",.int 3),("below",.int 3),("above",.int 3),("begins",.int 3),("key",.int 2),("not",.int 2),("and",.int 2),("or",.int 2)]
 aZ:mg "len"= none
 kX:mg "all"= none
 U1:mg "any"= none
 ak:mg "isinstance"= none
 dR:mg "range"= none
 HM:mg "int"= none
 oN:mg "str"= none
 PQ:mg "bool"= none
 bL:mg "tuple"= none
 BO:mg "list"= none
 BP:mg "dict"= none
 M5:mg "set"= none
 HN:mg "zip"= none
 hG:mg "sorted"= none
 M6:mg "min"= none
 U4:mg "max"= none
 rn:mg "reversed"= none
 vP:mg "PageError"= some (.ref t.cq)
 jD:excIn K t.cq L2.me "ValueError.__new__"= true
 gJ:mg "BadColumns"= some (.ref t.my)
 dS:excIn K t.my L2.me "ValueError.__new__"= true
 kh:mg "BadRow"= some (.ref t.g7)
 hU:excIn K t.g7 L2.me "ValueError.__new__"= true
 dI:mg "BadOrder"= some (.ref t.aE)
 cL:excIn K t.aE L2.me "ValueError.__new__"= true
 jE:mg "BadSieve"= some (.ref t.aF)
 fO:excIn K t.aF L2.me "ValueError.__new__"= true
 dJ:mg "BadPlace"= some (.ref t.az)
 cM:excIn K t.az L2.me "ValueError.__new__"= true
 rq:mg "BadSize"= some (.ref t.aN)
 kj:excIn K t.aN L2.me "ValueError.__new__"= true
 E8:mg "HasKey"= some (.ref t.rl)
 rA:excIn K t.rl L2.me "ValueError.__new__"= true
 HP:mg "NoKey"= some (.ref t.mz)
 vQ:excIn K t.mz L2.me "ValueError.__new__"= true
 oO:mg "NoMoment"= some (.ref t.aA)
 iG:excIn K t.aA L2.me "ValueError.__new__"= true
 jF:XA K t.aE
 jG:XA K t.aF
 jH:XA K t.az
 lH:XA K t.aN
 jI:XA K t.aA
 cN:mroIn K t.aE (.ref t.cq)=some true
 cO:mroIn K t.aF (.ref t.cq)=some true
 cP:mroIn K t.az (.ref t.cq)=some true
 dk:mroIn K t.aN (.ref t.cq)=some true
 cQ:mroIn K t.aA (.ref t.cq)=some true
 k_BadOrder_BadOrder:kitOne K (.ref t.aE) (.ref t.aE)=some true
 k_BadOrder_BadSieve:kitOne K (.ref t.aE) (.ref t.aF)=some false
 k_BadOrder_BadPlace:kitOne K (.ref t.aE) (.ref t.az)=some false
 k_BadOrder_BadSize:kitOne K (.ref t.aE) (.ref t.aN)=some false
 k_BadOrder_NoMoment:kitOne K (.ref t.aE) (.ref t.aA)=some false
 k_BadSieve_BadOrder:kitOne K (.ref t.aF) (.ref t.aE)=some false
 k_BadSieve_BadSieve:kitOne K (.ref t.aF) (.ref t.aF)=some true
 k_BadSieve_BadPlace:kitOne K (.ref t.aF) (.ref t.az)=some false
 k_BadSieve_BadSize:kitOne K (.ref t.aF) (.ref t.aN)=some false
 k_BadSieve_NoMoment:kitOne K (.ref t.aF) (.ref t.aA)=some false
 k_BadPlace_BadOrder:kitOne K (.ref t.az) (.ref t.aE)=some false
 k_BadPlace_BadSieve:kitOne K (.ref t.az) (.ref t.aF)=some false
 k_BadPlace_BadPlace:kitOne K (.ref t.az) (.ref t.az)=some true
 k_BadPlace_BadSize:kitOne K (.ref t.az) (.ref t.aN)=some false
 k_BadPlace_NoMoment:kitOne K (.ref t.az) (.ref t.aA)=some false
 k_BadSize_BadOrder:kitOne K (.ref t.aN) (.ref t.aE)=some false
 k_BadSize_BadSieve:kitOne K (.ref t.aN) (.ref t.aF)=some false
 k_BadSize_BadPlace:kitOne K (.ref t.aN) (.ref t.az)=some false
 k_BadSize_BadSize:kitOne K (.ref t.aN) (.ref t.aN)=some true
 k_BadSize_NoMoment:kitOne K (.ref t.aN) (.ref t.aA)=some false
 k_NoMoment_BadOrder:kitOne K (.ref t.aA) (.ref t.aE)=some false
 k_NoMoment_BadSieve:kitOne K (.ref t.aA) (.ref t.aF)=some false
 k_NoMoment_BadPlace:kitOne K (.ref t.aA) (.ref t.az)=some false
 k_NoMoment_BadSize:kitOne K (.ref t.aA) (.ref t.aN)=some false
 k_NoMoment_NoMoment:kitOne K (.ref t.aA) (.ref t.aA)=some true
 HQ:mg "Shelf"= some (.ref t.aj)
 ah:qx K t.aj
 HR:Mk K t.aj (t.BM 0)
 cY:findIn K (.ref t.aj) "columns"= some none
 cR:findIn K (.ref t.aj) "deeds"= some none
 bQ:findIn K (.ref t.aj) "runs"= some none
 gw:t.g_.code=.ref t.gu
 dU:codeHdIn K t.gu t.aR=true
 mF:t.aR∈t.ts
 fq:t.fM.code=.ref t.fk
 dm:codeHdIn K t.fk t.aL=true
 kI:t.aL∈t.ts
 np:[t.aR,t.aL].Nodup
 ta:∀b∈t.ts,b=t.aR\/b=t.aL
 bl:∀(s:Shared)(u:Value),BindsTo s t.HJ {[u],[]} [("_law_script",u)]
section
variable{w:World}{K:Frag}{mg:Str->Option Value}{t:gm}(T:Txt w K mg t)
def Txt.jJ:=T.fn 17<|by decide
def Txt.hW:=T.fn 18<|by decide
def Txt.nU:=T.fn 19<|by decide
def Txt.qf:=T.fn 20<|by decide
def Txt.lI:=T.fn 21<|by decide
def Txt.vR:=T.fn 22<|by decide
def Txt.vS:=T.fn 23<|by decide
def Txt.jK:=T.fn 24<|by decide
def Txt.compared:=T.fn 25<|by decide
def Txt.dH:=T.fn 26<|by decide
def Txt.gL:=T.fn 29<|by decide
def Txt.nV:=T.fn 30<|by decide
def Txt.mG:=T.fn 31<|by decide
def Txt.fP:=T.fn 32<|by decide
def Txt.kl:=T.fn 33<|by decide
def Txt.lJ:=T.fn 34<|by decide
def Txt.cA:=T.fn 35<|by decide
def Txt.vT:=T.fn 41<|by decide
def Txt.BQ:=T.fn 42<|by decide
def Txt.vU:=T.fn 43<|by decide
def Txt.gz:=T.fn 44<|by decide
def Txt.vV:=T.fn 45<|by decide
def Txt.jL:=T.fn 46<|by decide
def Txt.eL:=T.fn 47<|by decide
def Txt.nW:=T.fn 48<|by decide
def Txt.rB:=T.fn 49<|by decide
def Txt.fg:=T.fn 50<|by decide
def Txt.rC:=T.fn 51<|by decide
def Txt.gA:=T.fn 57<|by decide
def Txt.nX:=T.fn 58<|by decide
def Txt.dW:=T.fn 59<|by decide
def Txt.jM:=T.fn 60<|by decide
def Txt.gM:=T.fn 61<|by decide
def Txt.passes:=T.fn 62<|by decide
def Txt.iH:=T.fn 63<|by decide
def Txt.cS:=T.fn 65<|by decide
def Txt.iI:=T.fn 66<|by decide
def Txt.rD:=T.fn 67<|by decide
def Txt.fQ:=T.fn 69<|by decide
def Txt.lK:=T.fn 75<|by decide
def Txt.iJ:=T.fn 76<|by decide
def Txt.nY:=T.fn 77<|by decide
def Txt.lL:=T.fn 78<|by decide
def Txt.fw:=T.fn 79<|by decide
def Txt.iK:=T.fn 80<|by decide
def Txt.lM:=T.fn 81<|by decide
def Txt.eW:=T.fn 82<|by decide
def Txt.dM:=T.fn 83<|by decide
def Txt.gB:=T.fn 87<|by decide
def Txt.fC:=T.fn 89<|by decide
def Txt.iL:=T.fn 90<|by decide
def Txt.nZ:=T.fn 91<|by decide
def Txt.qg:=T.fn 92<|by decide
def Txt.Dw:=T.fn 93<|by decide
def Txt.rE:=T.fn 94<|by decide
def Txt.vW:=T.fn 95<|by decide
def Txt.BR:=T.fn 96<|by decide
def Txt.vX:=T.fn 97<|by decide
def Txt.vY:=T.fn 98<|by decide
def Txt.HS:=T.fn 99<|by decide
def Txt.vZ:=T.fn 100<|by decide
def Txt.qh:=T.fn 101<|by decide
def Txt.v5:=T.fn 102<|by decide
def Txt.dX:=T.fn 103<|by decide
def Txt.HU:=T.fn 104<|by decide
def Txt.fR:=T.eT 0<|by decide
def Txt.fE:=T.eT 1<|by decide
def Txt.cZ:=T.eT 2<|by decide
def Txt.eM:=T.eT 3<|by decide
def Txt.cw:=T.eT 4<|by decide
def Txt.bM:=T.eT 5<|by decide
def Txt.cy:=T.eT 6<|by decide
def Txt.aI:=T.eT 7<|by decide
def Txt.eN:=T.eT 8<|by decide
def Txt.cz:=T.eT 13<|by decide
end
def x9:=cg<|top 17
def v7:=cg<|top 18
def v8:=cg<|top 19
def BS:=cg<|top 20
def E9:=cg<|top 21
def BU:=cg<|top 22
def BV:=cg<|top 23
def x_:=cg<|top 24
def oP:=cg<|top 25
def eF:=cg<|top 26
def n5:=cg<|top 29
def v9:=cg<|top 30
def yX:=cg<|top 31
def tm:=cg<|top 32
def v_:=cg<|top 33
def tw:=cg<|top 34
def yY:=cg<|top 35
def E_:=cg<|top 41
def Fc:=cg<|top 42
def BW:=cg<|top 43
def fS:=cg<|top 44
def BX:=cg<|top 45
def rF:=cg<|top 46
def kJ:=cg<|top 47
def wa:=cg<|top 48
def oQ:=cg<|top 49
def bF:=cg<|top 50
def oR:=cg<|top 51
def bG:=cg<|top 57
def wb:=cg<|top 58
def mH:=cg<|top 59
def jN:=cg<|top 60
def eO:=cg<|top 61
def uB:=cg<|top 62
def pK:=cg<|top 63
def mI:=cg<|top 65
def fh:=cg<|top 66
def gC:=cg<|top 67
def mJ:=cg<|top 68
def cE:=cg<|top 69
def kK:=cg<|top 70
def BY:=cg<|top 73
def wc:=cg<|top 74
def kY:=cg<|top 75
def i4:=cg<|top 76
def we:=cg<|top 77
def tD:=cg<|top 78
def pL:=cg<|top 79
def tE:=cg<|top 80
def tG:=cg<|top 81
def rG:=cg<|top 82
def cj:=cg<|top 83
def fT:=cg<|top 84
def jO:=cg<|top 87
def wg:=cg<|top 89
def cT:=cg<|top 90
def c_:=cg<|top 91
def rH:=cg<|top 92
def yZ:=cg<|top 93
def y0:=cg<|top 94
def eP:=cg<|top 95
def h_:=cg<|top 96
def Fd:=cg<|top 97
def Fe:=cg<|top 98
def mK:=cg<|top 99
def cU:=cg<|top 100
def rJ:=cg<|top 101
def df:=cg<|top 102
def aO:=cg<|top 103
def bz:=cg<|top 104
def cV:=cg<|top 105
def mL:=cg<|inClass bx 0
def wj:=cg<|inClass bx 1
def pM:=cg<|inClass bx 2
def tH:=cg<|inClass bx 3
def je:=cg<|inClass bx 4
def ia:=cg<|inClass bx 5
def eG:=cg<|inClass bx 6
def jP:=cg<|inClass bx 7
def wk:=cg<|inClass bx 8
def fU:=cg<|inClass bx 9
def fi:=cg<|inClass bx 10
def jf:=cg<|inClass bx 13
theorem sm(h:n<=1000):n<=sizeLine:=yM<|gW h
theorem pN:0<=sizeLine:=sm<|by decide
theorem gN:1<=sizeLine:=sm<|by decide
theorem ib:2<=sizeLine:=sm<|by decide
theorem rK:3<=sizeLine:=sm<|by decide
theorem Zl:4<=sizeLine:=sm<|by decide
theorem Lu:5<=sizeLine:=sm<|by decide
theorem Zm:6<=sizeLine:=sm<|by decide
theorem BZ:8<=sizeLine:=sm<|by decide
theorem PR:9<=sizeLine:=sm<|by decide
theorem U5:11<=sizeLine:=sm<|by decide
theorem M7:12<=sizeLine:=sm<|by decide
def Gt(S:ax)(d:D):Prop:=(∃k,O5 S d k)/\∀z,d=.str z->z.cps.size<=1000
noncomputable def isLet(c:Nat):Bool:=decide (97<=c)&&decide (c<=122)
noncomputable def Dx(c:Nat):Bool:=decide (48<=c)&&decide (c<=57)
noncomputable def Dy(c:Nat):Bool:=decide (32<=c)&&decide (c<=126)
noncomputable def i5(z:Str):Bool:=decide (1<=z.cps.size)&&decide (z.cps.size<=8)&&z.cps.toList.all isLet
noncomputable def fz(z:Str):Bool:=decide (1<=z.cps.size)&&decide (z.cps.size<=12)&&(z.cps.toList.head?.any isLet)&&z.cps.toList.all λc=>isLet c||Dx c
noncomputable def oS(z:Str):Bool:=decide (z.cps.size<=40)&&z.cps.toList.all Dy
noncomputable def ofStr(f:Str->Bool):D->Bool|.str z=>f z|_=>false
noncomputable def rL:D->Bool|.int _=>true|_=>false
noncomputable def cF(kind:Str)(d:D):Bool:=ay d||if kind ="number" then rL d else ofStr oS d
def wm(f:D->Bool):gY:=λds S R _=>∃d,ds=[d]/\Gt S d/\R (.bl<|f d) S
def HV(f:Nat->Bool):gY:=λds S R _=>∃c,ds=[.str ⟨#[c]⟩]/\R (.bl<|f c) S
theorem oU:∀{xs ys:List D}{a b:D},Paired rel xs ys->rel a b->Paired rel (xs++[a]) (ys++[b])|_,_,_,_,.nil,r=>.cons r .nil|_,_,_,_,.cons q t,r=>.cons q<|oU t r
theorem take_snoc{α:Type}{l:List α}{i:Nat}{d:α}(h:l[i]?=some d):l.take (i+1)=l.take i++[d]:=by rw[List.take_add_one,h];rfl
theorem ic{I:sY}{S1:ax}{g:xD}{te:TD}{σ:SD}{src:List<|Option Nat}{R:KD}(rel:D->D->Prop)(aH:I.ok S1)(hz:I.xs.length<=1000) (step:∀d,d∈I.xs->∀Q:KD,(∀v,rel d v->Q v S1)->g d (mq σ src) S1 λir S3=>te ir S3 Q Zf) (fin:∀out,Paired rel I.xs out->∀p,S1 p=none->R (.ref p) (S1.set p<|.lst out)): xE σ src g uq te R I S1:=by
 refine{λi out S=>S=S1/\Paired rel (I.xs.take i) out,{rfl,.nil},λi out S h=>by rw[h.1];exact aH,?_,?_};rintro i d out S hd ⟨rfl,hp⟩;have hlen:=yS hp;rw[yf]at hlen;refine{gW<|by lia,?_};have e:(λ(ir:SD)(S3:ax)=>uq ir S3 (λb S4=>if b=true then te ir S4 (λv S5=>S5=S/\Paired rel (I.xs.take<|i+1) (out++[v])) Zf else S4=S/\Paired rel (I.xs.take<|i+1) out) Zf)=λir S3=>te ir S3 (λv S5=>S5=S/\Paired rel (I.xs.take<|i+1) (out++[v])) Zf:=by funext ir S3;simp[uq]
 rw[e];exact step d (zI hd) _ λv hv=>{rfl,by rw[take_snoc hd];exact oU hp hv};rintro out S2 ⟨rfl,hp⟩;rw[yG]at hp;exact fin out hp
theorem rM:∀{xs out:List D},Paired (λd v=>v=f d) xs out->out=xs.map f|_,_,.nil=>rfl|_,_,.cons r t=>by rw[r,rM t];rfl
theorem comp_map(f:D->D)(aH:I.ok S1)(hz:I.xs.length<=1000) (step:∀d,d∈I.xs->∀Q:KD,Q (f d) S1->g d (mq σ src) S1 λir S3=>te ir S3 Q Zf) (fin:∀p,S1 p=none->R (.ref p) (S1.set p<|.lst<|I.xs.map f)): xE σ src g uq te R I S1:=ic (λd v=>v=f d) aH hz (λd hd Q h=>step d hd Q<|h _ rfl) λout hp p U6=>by rw[rM hp];exact fin p U6
theorem km{I:sY}{S1:ax}{g:xD}{tc:mj}{te:TD}{σ:SD}{src:List<|Option Nat}{R:KD}(keep:D->Bool)(f:D->D)(aH:I.ok S1)(hz:I.xs.length<=1000) (step:∀d,d∈I.xs->∀(Q:KD)(Q':ax->Prop),(keep d=true->Q (f d) S1)->(keep d=false->Q' S1)->g d (mq σ src) S1 λir S3=>tc ir S3 (λb S4=>if b=true then te ir S4 Q Zf else Q' S4) Zf) (fin:∀p,S1 p=none->R (.ref p) (S1.set p<|.lst<|(I.xs.filter keep).map f)): xE σ src g tc te R I S1:=by refine{λi out S=>S=S1/\out=((I.xs.take i).filter keep).map f,⟨rfl,rfl⟩,λi out S h=>by rw[h.1];exact aH,?_,?_};rintro i d out S hd ⟨rfl,rfl⟩;have hlen:((I.xs.take i).filter keep).length<=(I.xs.take i).length:=List.length_filter_le _ _;rw[yf]at hlen;refine{by rw[zc];exact gW<|by lia,?_};refine step d (zI hd) _ (λS4=>S4=S/\_=_) (λhk=>{rfl,?_}) λhk=>{rfl,?_};rw[take_snoc hd,List.filter_append,zE,List.filter_cons,if_pos hk];rfl;rw[take_snoc hd,List.filter_append,List.filter_cons,if_neg<|by rw[hk];exact zd];simp;rintro out S2 ⟨rfl,rfl⟩;rw[yG];exact fin
variable{P:Program}{w:World}{K:Frag}{mg:Str->Option Value}{base:Heap}{t:gm}
theorem jQ(T:Txt w K mg t):Ok P w base T.jJ 1 (wm rL):=by
 refine T.jJ.F.dQ x9 ?_;obtain⟨d,e,⟨⟨k,hk⟩,hz⟩,q⟩;refine{_,(s1<|sr<|qR (cb dh T.ak ai<|al 0<|ac (sH T.HM A7) an)<|G8<|Tp<|cb dh T.ak ai<|al 0<|ac (sH T.PQ Kj) an),?_};refine !{_,_,_,_,rfl,Kk,hk,_,rfl,?_};have:(A8 k=true/\((rL d=true/\vd k=false)\/(rL d=false/\vd k=true)))\/(A8 k=false/\rL d=false):=by cases d with|av=>(cases hk;exact .inr ⟨rfl,rfl⟩)|bl b=>(cases hk;exact .inl {rfl,.inr ⟨rfl,rfl⟩})|int b=>(cases hk;exact .inl {rfl,.inl ⟨rfl,rfl⟩})|str b=>(cases hk;exact .inr ⟨rfl,rfl⟩)|tup b=>(cases hk;exact .inr ⟨rfl,rfl⟩)|ref a=>(rcases hk with⟨rfl,_⟩|⟨rfl,_⟩<;>exact .inr ⟨rfl,rfl⟩)|_=>exact hk.elim
 rcases this with⟨h1,h2⟩|⟨h1,h2⟩;rw[h1];refine bU !{_,_,_,_,rfl,GR,hk,_,rfl,?_};rcases h2 with⟨h2,h3⟩|⟨h2,h3⟩<;>(rw[h3];rw[h2]at q;exact fo q);rw[h1];rw[h2]at q;exact bY<|fo q
theorem iM(T:Txt w K mg t):Ok P w base T.hW 1 (HV isLet):=by refine T.hW.F.dQ v7 ?_;obtain⟨c,e,q⟩;refine{_,(s1<|sr<|cc ju ju hr.u ds (dv 0) ds),?_};refine !!⟨?_⟩;have e1:FK "a" ⟨#[c]⟩=decide (97<=c):=ke 97 c;have e2:FK ⟨#[c]⟩ "z"= decide (c<=122):=ke c 122;unfold isLet at q;refine bD (λh=>?_) λh=>?_;rw[e1.symm.trans h,zS,<-e2]at q;exact fo q;rw[e1.symm.trans h,zW]at q;exact fo q
theorem wo(T:Txt w K mg t):Ok P w base T.nU 1 (HV Dx):=by refine T.nU.F.dQ v8 ?_;obtain⟨c,e,q⟩;refine{_,(s1<|sr<|cc ju ju hr.u ds (dv 0) ds),?_};refine !!⟨?_⟩;have e1:FK "0" ⟨#[c]⟩=decide (48<=c):=ke 48 c;have e2:FK ⟨#[c]⟩ "9"= decide (c<=57):=ke c 57;unfold Dx at q;refine bD (λh=>?_) λh=>?_;rw[e1.symm.trans h,zS,<-e2]at q;exact fo q;rw[e1.symm.trans h,zW]at q;exact fo q
theorem Ff(h:d∈fI z):∃c,c∈z.cps.toList/\d=.str ⟨#[c]⟩:=by unfold fI at h;obtain⟨c,hc,e⟩:=ze.mp h;exact⟨c,hc,e.symm⟩
noncomputable def Dz(f:Nat->Bool):D->D|.str z=>.bl (z.cps.toList.head?.any f)|_=>.av
theorem Fh:(fI z).map (Dz f)=(z.cps.toList.map f).map D.bl:=by unfold fI;rw[zB,zB];rfl
theorem all_map{α:Type}{l:List α}{f:α->Bool} : (l.map f).all id=l.all f:=by rw[List.all_map];rfl
theorem n6{z:Str}{f:Nat->Bool}{g:xD}{te:TD}{σ:SD}{src:List<|Option Nat}{S:ax}{R:KD}{Z:KX}{i:Nat}(hv:σ[i]?=some (some<|.str z))(hz:z.cps.size<=1000) (step:∀c,c∈z.cps.toList->∀Q:KD,Q (.bl<|f c) S->g (.str ⟨#[c]⟩) (mq σ src) S λir S3=>te ir S3 Q Zf) (q:R (.bl<|z.cps.toList.all f) S): Tr TL (MD (Dd (MP<|Tf i) src g uq te) G7) σ S (λd S'=>Fo S'<|R d) Z:=by refine{_,hv,z,rfl,?_};refine My.comp_map (I:={fI z,λ_=>True}) (Dz f) trivial (by show(fI z).length<=1000;unfold fI;rw[zc,yn];exact hz) (λd hd Q hQ=>?_) λp hp=>?_;obtain⟨c,hc,rfl⟩:=Ff hd;exact step c hc Q (by simpa [Dz]using hQ);refine{.ref p,z.cps.toList.map f,rfl,?_,S,.new hp,?_};show(S.set p<|.lst<|(fI z).map<|Dz f) p=_;rw[aa,Fh];rw[all_map];exact q
theorem lN{S:ax}{d:D}{k:Kd}(hk:O5 S d k):(∃z,d=.str z/\A9 k=true)\/(A9 k=false/\∀f,ofStr f d=false):=by cases d with|str b=>(cases hk;exact .inl ⟨b,rfl,rfl⟩)|av=>(cases hk;exact .inr {rfl,λ_=>rfl})|bl b=>(cases hk;exact .inr {rfl,λ_=>rfl})|int b=>(cases hk;exact .inr {rfl,λ_=>rfl})|tup b=>(cases hk;exact .inr {rfl,λ_=>rfl})|ref a=>(rcases hk with⟨rfl,_⟩|⟨rfl,_⟩<;>exact .inr {rfl,λ_=>rfl})|_=>exact hk.elim
theorem iN{S:ax}{d:D}{k:Kd}(hk:O5 S d k):(∃ds,d=.tup ds/\qJ k=true)\/(qJ k=false/\∀ds,d≠.tup ds):=by cases d with|tup b=>(cases hk;exact .inl ⟨b,rfl,rfl⟩)|av=>(cases hk;exact .inr {rfl,λ_=>nofun})|bl b=>(cases hk;exact .inr {rfl,λ_=>nofun})|int b=>(cases hk;exact .inr {rfl,λ_=>nofun})|str b=>(cases hk;exact .inr {rfl,λ_=>nofun})|ref a=>(rcases hk with⟨rfl,_⟩|⟨rfl,_⟩<;>exact .inr {rfl,λ_=>nofun})|_=>exact hk.elim
theorem rN(T:Txt w K mg t):Ok P w base T.qf 2 (wm<|ofStr i5):=by
 refine T.qf.F.dQ BS ?_;obtain⟨d,e,⟨⟨k,hk⟩,hz⟩,q⟩;refine{_,(sc (si (twd<|twor (cG<|tv<|cb dh T.ak ai<|al 0<|ac (sH T.oN jo) an)<|tw1<|cG<|V4 ju ju hr.u di (cb bj T.aZ aM<|al 0 an)<|dg (v:=.int 8) T.lE {_,rfl} λ_=>aQ _) (s1<|sr db) s0)<|s1<|sr<|cb kU T.kX gI<|ac (vp (N:=["sign"]) (src:=[none]) (lU (ae EW) ["thing"] rfl rfl<|by trivial) (Pg<|dv 0) (qY<|show(["sign"]:List Str).Nodup by trivial) (aW rfl) aX (λ_ _ _ _ _=>ur) λ_ _ _ _ _=>(aY T.hW (iM T) hr<|al 0 an)) an),?_};refine !{_,_,_,_,rfl,gq,hk,_,rfl,?_};rcases lN hk with⟨z,rfl,h0⟩|⟨h0,h1⟩;have hz:=hz z rfl;rw[h0];refine bY ?_;refine !!⟨{sm hz,?_}⟩;refine{_,rfl,?_};have e1:decide ((1:Int)<=(z.length:Nat))=decide (1<=z.cps.size):=by rw[yH];show(1:Int)<=((z.cps.size:Nat):Int)↔_;omega
 have e2:decide (((z.length:Nat):Int)<=8)=decide (z.cps.size<=8):=by rw[yH];show((z.cps.size:Nat):Int)<=8↔_;omega
 unfold ofStr i5 at q;dsimp only at q;refine bD (λh2=>?_) λh2=>?_;rw[e1.symm.trans h2,zS]at q;refine{_,rfl,?_};refine bD (λh3=>?_) λh3=>?_;rw[e2.symm.trans<|nt h3,zW]at q;exact fo q;rw[e2.symm.trans<|nf h3,zS]at q;exact n6 rfl hz (λc hc Q hQ=>!⟨c,rfl,hQ⟩) q;rw[e1.symm.trans h2,zW,zW]at q;refine{_,rfl,?_};exact bU<|fo q;rw[h0];rw[h1]at q;exact bU<|bU<|fo q
def aC(c:Str×Str):D:=.tup [.str c.1,.str c.2]
def Gd(cs:List<|Str×Str):Prop:=cs.length<=8/\(cs.map Prod.fst).Nodup/\∀c∈cs,i5 c.1=true/\(c.2 ="number"\/c.2 ="word")
noncomputable def mM(cs:List<|Str×Str):D->Bool|.tup ws=>decide (ws.length=cs.length)&&(List.zipWith (λc v=>cF c.2 v) cs ws).all id|_=>false
noncomputable def n8(cs:List<|Str×Str)(k v:D):Bool:=ofStr fz k&&mM cs v
def Rm(S:ax)(d:D):Prop:=Gt S d/\∀ws,d=.tup ws->ws.length<=1000/\∀v∈ws,Gt S v
theorem ie(T:Txt w K mg t):Ok P w base T.lI 2 (wm<|ofStr fz):=by
 refine T.lI.F.dQ E9 ?_;obtain⟨d,e,⟨⟨k,hk⟩,hz⟩,q⟩;refine{_,(sc (si (twd<|twor (cG<|tv<|cb dh T.ak ai<|al 0<|ac (sH T.oN jo) an)<|tw1<|cG<|V4 ju ju hr.u di (cb bj T.aZ aM<|al 0 an)<|dg (v:=.int 12) T.mE {_,rfl} λ_=>aQ _) (s1<|sr db) s0)<|sc (si (cG<|tv<|aY T.hW (iM T) hr<|ac (ix hr.u (dv 0) di) an) (s1<|sr db) s0)<|s1<|sr<|cb kU T.kX gI<|ac (vp (N:=["sign"]) (src:=[none]) (lU (ae HG) ["thing"] rfl rfl<|by trivial) (Pg<|dv 0) (qY<|show(["sign"]:List Str).Nodup by trivial) (aW rfl) aX (λ_ _ _ _ _=>ur) λ_ _ _ _ _=>(eor (aY T.hW (iM T) hr<|al 0 an)<|G8<|aY T.nU (wo T) hr<|al 0 an)) an),?_};refine !{_,_,_,_,rfl,gq,hk,_,rfl,?_};rcases lN hk with⟨z,rfl,h0⟩|⟨h0,h1⟩;have hz:=hz z rfl;rw[h0];refine bY ?_;refine !!⟨{sm hz,?_}⟩;refine{_,rfl,?_};have e1:decide ((1:Int)<=(z.length:Nat))=decide (1<=z.cps.size):=by rw[yH];show(1:Int)<=((z.cps.size:Nat):Int)↔_;omega
 have e2:decide (((z.length:Nat):Int)<=12)=decide (z.cps.size<=12):=by rw[yH];show((z.cps.size:Nat):Int)<=12↔_;omega
 unfold ofStr fz at q;dsimp only at q;refine bD (λh2=>?_) λh2=>?_;have XU:=e1.symm.trans h2;rw[XU,zS]at q;refine{_,rfl,?_};refine bD (λh3=>?_) λh3=>?_;rw[e2.symm.trans<|nt h3,zW,zW]at q;exact fo q;rw[e2.symm.trans<|nf h3,zS]at q;obtain⟨c,r,ec⟩:=len_pos (z:=z)<|zo XU;have eh:z.cps.toList.head?.any isLet=isLet c:=by rw[ec];rfl
 rw[eh]at q;refine !{c,sm hz,wV ec,c,rfl,_,rfl,?_};refine bD (λh4=>?_) λh4=>?_;rw[nt h4,zW]at q;exact fo q;rw[nf h4,zS]at q;refine n6 (f:=λc=>isLet c||Dx c) rfl hz (λc hc Q hQ=>?_) q;refine !{c,rfl,_,rfl,?_};refine bD (λh5=>?_) λh5=>?_;rw[h5,Bool.true_or]at hQ;exact hQ;rw[h5,yQ]at hQ;exact{_,rfl,c,rfl,hQ};rw[e1.symm.trans h2,zW,zW,zW]at q;refine{_,rfl,?_};exact bU<|fo q;rw[h0];rw[h1]at q;exact bU<|bU<|fo q
theorem B4(T:Txt w K mg t):Ok P w base T.vR 2 (wm<|ofStr oS):=by
 refine T.vR.F.dQ BU ?_;obtain⟨d,e,⟨⟨k,hk⟩,hz⟩,q⟩;refine{_,(sc (si (twd<|twor (cG<|tv<|cb dh T.ak ai<|al 0<|ac (sH T.oN jo) an)<|tw1<|bH vm hr.u (cb bj T.aZ aM<|al 0 an)<|dg (v:=.int 40) T.lF {_,rfl} λ_=>aQ _) (s1<|sr db) s0)<|s1<|sr<|cb kU T.kX gI<|ac (vp (N:=["sign"]) (src:=[none]) (lU (ae EX) ["thing"] rfl rfl<|by trivial) (Pg<|dv 0) (qY<|show(["sign"]:List Str).Nodup by trivial) (aW rfl) aX (λ_ _ _ _ _=>ur) λ_ _ _ _ _=>(cc ju ju hr.u ds (dv 0) ds)) an),?_};refine !{_,_,_,_,rfl,gq,hk,_,rfl,?_};rcases lN hk with⟨z,rfl,h0⟩|⟨h0,h1⟩;have hz:=hz z rfl;rw[h0];refine bY ?_;refine !!⟨{sm hz,?_}⟩;refine{_,rfl,?_};have e2:decide ((40:Int)<((z.length:Nat):Int))=!decide (z.cps.size<=40):=by rw[yN];simp only[decide_eq_true_iff,Bool.not_eq_true',decide_eq_false_iff_not];show(40:Int)<((z.cps.size:Nat):Int)↔_;omega
 unfold ofStr oS at q;dsimp only at q;refine bD (λh3=>?_) λh3=>?_;rw[nt<|e2.symm.trans h3,zW]at q;exact fo q;rw[nf<|e2.symm.trans h3,zS]at q;refine n6 (f:=Dy) rfl hz (λc hc Q hQ=>?_) q;refine !!⟨?_⟩;have e3:FK " " ⟨#[c]⟩=decide (32<=c):=ke 32 c;have e4:FK ⟨#[c]⟩ "~"= decide (c<=126):=ke c 126;unfold Dy at hQ;refine bD (λh=>?_) λh=>?_;rw[e3.symm.trans h,zS,<-e4]at hQ;exact hQ;rw[e3.symm.trans h,zW]at hQ;exact hQ;rw[h0];rw[h1]at q;exact bU<|bU<|fo q
inductive rO (ds:List D) (S:ax) (R:KD) (Z:KX):Prop where
 |mk (kind d) (h0:ds=[.str kind,d]) (h1:Gt S d) (h2:R (.bl<|cF kind d) S)
theorem jR(T:Txt w K mg t):Ok P w base T.jK 3 rO:=by refine T.jK.F.dQ x_ ?_;obtain⟨kind,d,e,hd,q⟩;refine{_,(sc (si (bH kE hr.u (dv 1) dn) (s1<|sr db) s0)<|sc (si (bH bP hr.u (dv 0) ds) (s1<|sr<|aY T.jJ (jQ T) hr<|al 1 an) s0)<|s1<|sr<|aY T.vR (B4 T) hr<|al 1 an),?_};refine !!⟨?_⟩;unfold cF at q;refine bD (λh=>?_) λh=>?_;rw[h,Bool.true_or]at q;exact fo q;rw[h,yQ]at q;refine !!⟨?_⟩;refine bD (λh=>?_) λh=>?_;rw[if_pos<|zo h]at q;exact !{d,rfl,hd,fo q};rw[if_neg<|zN h]at q;exact !{d,rfl,hd,fo q}
theorem gt_str(h:z.cps.size<=1000):Gt S (.str z):={{.str,rfl},λy e=>by cases e;exact h}
theorem uC(h:i5 z=true):z.cps.size<=1000:=by unfold i5 at h;simp only[zR,yo]at h;lia
theorem Fi(h:∀c v,f (.tup [aC c,v])=.bl (cF c.2 v)):(cJ (cs.map aC) ws).map f=(List.zipWith (λc v=>cF c.2 v) cs ws).map D.bl:=by unfold cJ;induction cs generalizing ws with|nil=>(cases ws<;>rfl)|cons c cs ih=>cases ws with|nil=>rfl|cons v ws=>show f (.tup [aC c,v])::(List.zipWith _ (cs.map aC) ws).map f=.bl (cF c.2 v)::_;rw[h,ih]
noncomputable def pairF:D->D|.tup [.tup [_,.str k],v]=>.bl (cF k v)|_=>.av
inductive uD (ds:List D) (S:ax) (R:KD) (Z:KX):Prop where
 |mk (z) (h0:ds=[.str z]) (h1:(z ="number"\/z ="word")) (h2:R (.bl true) S)
theorem B6(T:Txt w K mg t):Ok P w base T.vS 1 uD:=by
 refine T.vS.F.dQ BV ?_;obtain⟨z,e,hz,q⟩;refine{_,(s1<|sr<|qR (cb dh T.ak ai<|al 0<|ac (sH T.oN jo) an)<|G8<|cm Bx hr.u (dv 0)<|dg (v:=.ref t.vI) T.HK rfl T.HL),?_};refine !{_,_,_,_,rfl,gq,rfl,_,rfl,bU !{rfl,rfl,?_}};have e:Gu (p5<|.str z) ([D.str "number",D.str "word"].map p5)=true:=by rcases hz with rfl|rfl<;>decide +kernel
 show Fo S (R<|.bl<|if false=true then _ else Gu (p5<|.str z) ([D.str "number",D.str "word"].map p5));rw[if_neg zd,e];exact fo q
inductive oV (ds:List D) (S:ax) (R:KD) (Z:KX):Prop where
 |mk (c) (h0:ds=[aC c]) (h1:i5 c.1=true) (h2:(c.2 ="number"\/c.2 ="word")) (h3:R (.bl true) S)
theorem wq(T:Txt w K mg t):Ok P w base T.nV 3 oV:=by refine T.nV.F.dQ v9 ?_;obtain⟨c,e,h1,h2,q⟩;refine{_,(sc (si (twd<|twor (cG<|tv<|cb dh T.ak ai<|al 0<|ac (sH T.bL bp) an)<|tw1<|bH jv hr.u (cb bj T.aZ aM<|al 0 an) di) (s1<|sr db) s0)<|s1<|sr<|qR (aY T.qf (rN T) hr<|ac (ix hr.u (dv 0) di) an)<|G8<|aY T.vS (B6 T) hr<|ac (ix hr.u (dv 0) di) an),?_};refine !{_,_,_,_,rfl,bJ,rfl,_,rfl,?_};refine bY !!!⟨bY ?_⟩;refine !!!{gt_str<|uC h1,_,rfl,?_};show if i5 c.1=true then _ else _;rw[h1];exact bU !!!{h2,fo q}
inductive rP (ds:List D) (S:ax) (R:KD) (Z:KX):Prop where
 |mk (cs:List<|Str×Str) (h0:ds=[.tup<|cs.map aC]) (h1:cs.length<=8) (h2:∀p,S p=none->R (.ref p) (S.set p<|.lst<|(cs.map Prod.fst).map D.str))
theorem oW(T:Txt w K mg t):Ok P w base T.mG 1 rP:=by
 refine T.mG.F.dQ yX ?_;obtain⟨cs,e,hl,q⟩;refine{_,(s1<|sr<|vp (N:=["name","kind"]) (src:=[none,none]) (lU (ae BJ) ["columns"] rfl rfl<|by trivial) (K1<|dv 0) (YG<|show(["name","kind"]:List Str).Nodup by trivial) (uZ rfl rfl) vt (λ_ _ _ _ _=>ur) λ_ _ _ _ _=>(dv 0)),?_};refine !{_,.inl rfl,?_};refine comp_map (λd=>match d with|.tup (x::_)=>x|_=>.av) trivial (by show(cs.map aC).length<=1000;rw[zc];lia) (λd hd Q hQ=>?_) λp hp=>?_;obtain⟨c,hc,rfl⟩:=ze.mp hd;exact !{rfl,_,_,rfl,_,_,rfl,rfl,_,rfl,hQ};have e:(cs.map aC).map (λd=>match d with|.tup (x::_)=>x|_=>.av)=(cs.map Prod.fst).map D.str:=by rw[zB,zB];rfl
 show Fo (S.set p<|.lst<|(cs.map aC).map _) (R<|.ref p);rw[e];exact fo<|q p hp
inductive i6 (ds:List D) (S:ax) (R:KD) (Z:KX):Prop where
 |mk (cs) (h0:ds=[.tup<|cs.map aC]) (h1:Gd cs) (h2:R .av S)
theorem n_(T:Txt w K mg t):Ok P w base T.gL 4 i6:=by
 refine T.gL.F.dQ n5 ?_;obtain⟨cs,e,⟨hl,hn,hg⟩,q⟩;refine{_,(sc (si (twd<|twor (cG<|tv<|cb dh T.ak ai<|al 0<|ac (sH T.bL bp) an)<|tw1<|bH vm hr.u (cb bj T.aZ aM<|al 0 an)<|dg (v:=.int 8) T.pJ {_,rfl} λ_=>aQ _) (s1<|qX ⟨T.dS⟩ T.gJ<|ac ds an) s0)<|sc (si (cG<|tv<|cb kU T.kX gI<|ac (vp (N:=["column"]) (src:=[none]) (lU (ae pI) ["columns"] rfl rfl<|by trivial) (K1<|dv 0) (qY<|show(["column"]:List Str).Nodup by trivial) (aW rfl) aX (λ_ _ _ _ _=>ur) λ_ _ _ _ _=>(aY T.nV (wq T) hr<|al 0 an)) an) (s1<|qX ⟨T.dS⟩ T.gJ<|ac ds an) s0)<|s1<|si (bH jv hr.u (lse (aY T.mG (oW T) hr<|al 0 an) T.aZ T.M5)<|cb bj T.aZ aM<|al 0 an) (s1<|qX ⟨T.dS⟩ T.gJ<|ac ds an) s0),?_};refine !{_,_,_,_,rfl,bJ,rfl,_,rfl,?_};have e1:decide ((8:Int)<((cs.map aC).length:Nat))=false:=zw (by rw[zc];lia);refine bY !!!⟨?_⟩;show if decide ((8:Int)<((cs.map aC).length:Nat))=true then _ else _;rw[e1];refine bY ?_;refine !{_,.inl rfl,?_};refine comp_map (λ_=>.bl true) trivial (by show(cs.map aC).length<=1000;rw[zc];lia) (λd hd Q hQ=>?_) λp hp=>?_;obtain⟨c,hc,rfl⟩:=ze.mp hd;exact !{c,rfl,(hg c hc).1,(hg c hc).2,hQ};have e2:(cs.map aC).map (λ_=>D.bl true)=(cs.map λ_=>true).map D.bl:=by rw[zB,zB];rfl
 have e3:(cs.map λ_=>true).all id=true:=by rw[all_map];exact yk.mpr λ_ _=>rfl
 refine{.ref p,cs.map λ_=>true,rfl,?_,_,rfl,?_};show(S.set p<|.lst<|(cs.map aC).map _) p=_;rw[aa,e2];rw[e3];refine bY ?_;refine !{cs,rfl,hl,λp2 lT=>?_};refine{cs.map Prod.fst,aa,by rw[zc];lia,_,rfl,_,rfl,_,rfl,?_};have e4:decide ((((iY<|cs.map Prod.fst).length:Nat):Int)=(((cs.map aC).length:Nat):Int))=true:=zA (by rw[(ui _).mpr hn,zc,zc]);show if (if true=true then !decide ((((iY<|cs.map Prod.fst).length:Nat):Int)=(((cs.map aC).length:Nat):Int)) else _)=true then _ else _;rw[if_pos rfl,e4];exact bY {S,(Sub.new hp).trans<|.new lT,q}
inductive mO (ds:List D) (S:ax) (R:KD) (Z:KX):Prop where
 |mk (cs d) (h0:ds=[.tup<|cs.map aC,d]) (h1:cs.length<=8) (h2:Rm S d) (h3:R (.bl<|mM cs d) S)
theorem tI(T:Txt w K mg t):Ok P w base T.lJ 4 mO:=by
 refine T.lJ.F.dQ tw ?_;obtain⟨cs,d,e,hl,⟨⟨⟨k,hk⟩,hz⟩,hw⟩,q⟩;refine{_,(sc (si (twd<|twor (cG<|tv<|cb dh T.ak ai<|al 1<|ac (sH T.bL bp) an)<|tw1<|bH jv hr.u (cb bj T.aZ aM<|al 1 an)<|cb bj T.aZ aM<|al 0 an) (s1<|sr db) s0)<|s1<|sr<|cb kU T.kX gI<|ac (vp (N:=["column","value"]) (src:=[none,none]) (lU (ae vH) ["columns","thing"] rfl rfl<|by trivial) (izn T.HN<|al 0<|al 1 an) (YG<|show(["column","value"]:List Str).Nodup by trivial) (uZ rfl rfl) vt (λ_ _ _ _ _=>ur) λ_ _ _ _ _=>(aY T.jK (jR T) hr<|ac (ix hr.u (dv 0) di)<|al 1 an)) an),?_};refine !{_,_,_,_,rfl,bJ,hk,_,rfl,?_};rcases iN hk with⟨ws,rfl,h0⟩|⟨h0,h1⟩;obtain⟨hw1,T6⟩:=hw ws rfl;rw[h0];refine bY !!!!!⟨?_⟩;have e1:decide (((ws.length:Nat):Int)=(((cs.map aC).length:Nat):Int))=decide (ws.length=cs.length):=by rw[yH,zc];lia
 unfold mM at q;dsimp only at q;show if (if true=true then !decide (((ws.length:Nat):Int)=(((cs.map aC).length:Nat):Int)) else _)=true then _ else _;rw[if_pos rfl,e1];refine bD (λh=>?_) λh=>?_;rw[nt h,zW]at q;exact fo q;have h:=nf h;rw[h,zS]at q;have h:=zo h;refine !!{cs.map aC,ws,rfl,by rw[zc];exact h.symm,?_};refine comp_map pairF trivial (by show(cJ (cs.map aC) ws).length<=1000;unfold cJ;rw[List.length_zipWith,zc];lia) (λd hd Q hQ=>?_) λp hp=>?_;unfold cJ at hd;obtain⟨i,ei⟩:=yB hd;obtain⟨x,y,e2,e3,e4⟩:=List.getElem?_zipWith_eq_some.mp ei;subst e4;rw[zu]at e2;cases e5:cs[i]? with|none=>(rw[e5]at e2;cases e2)|some c=>rw[e5]at e2;cases e2;exact !{rfl,_,_,rfl,_,_,rfl,rfl,_,rfl,_,rfl,_,rfl,c.2,y,rfl,T6 y<|zI e3,hQ}
 refine{.ref p,List.zipWith (λc v=>cF c.2 v) cs ws,rfl,?_,S,.new hp,q};show(S.set p<|.lst<|(cJ (cs.map aC) ws).map pairF) p=_;rw[aa,Fi λ_ _=>rfl];rw[h0];have e:mM cs d=false:=by cases d with|tup ws=>exact absurd rfl (h1 ws)|_=>rfl
 rw[e]at q;exact bU<|bU<|fo q
inductive oX (t:gm) (ds:List D) (S:ax) (R:KD) (Z:KX):Prop where
 |mk (cs k v) (h0:ds=[.tup<|cs.map aC,.tup [k,v]]) (h1:cs.length<=8) (h2:Gt S k) (h3:Rm S v) (h4:(n8 cs k v=true->R .av S)) (h5:(n8 cs k v=false->Z t.g7 S))
theorem mP(T:Txt w K mg t):Ok P w base T.kl 5 (oX t):=by refine T.kl.F.dQ v_ ?_;obtain⟨cs,k,v,e,hl,hk,hv,q1,q2⟩;refine{_,(sc (si (twd<|twor (cG<|tv<|cb dh T.ak ai<|al 1<|ac (sH T.bL bp) an)<|tw1<|bH jv hr.u (cb bj T.aZ aM<|al 1 an) di) (s1<|qX ⟨T.hU⟩ T.kh<|ac ds an) s0)<|sc (si (cG<|tv<|aY T.lI (ie T) hr<|ac (ix hr.u (dv 1) di) an) (s1<|qX ⟨T.hU⟩ T.kh<|ac ds an) s0)<|s1<|si (cG<|tv<|aY T.lJ (tI T) hr<|al 0<|ac (ix hr.u (dv 1) di) an) (s1<|qX ⟨T.hU⟩ T.kh<|ac ds an) s0),?_};refine !{_,_,_,_,rfl,bJ,rfl,_,rfl,?_};refine bY !!!⟨bY ?_⟩;refine !!{k,rfl,hk,_,rfl,?_};unfold n8 at q1 q2;refine bD (λh=>?_) λh=>?_;rw[nt h,zW]at q2;exact{sm<|by decide,fo<|q2 rfl};rw[nf h,zS]at q1 q2;refine !!!{cs,v,rfl,hl,hv,_,rfl,?_};refine bD (λh=>?_) λh=>?_;exact{sm<|by decide,fo<|q2<|nt h};exact fo<|q1<|nf h
theorem bg(h:n<=100000):n<sizeLine:=by rw[zZ];lia
structure Std where
 b:Nat
 e:Option Nat
 ws:List D
def eD:Option Nat->D|none=>.av|some n=>.int (n:Nat)
def jS(s:Std):D:=.tup [.int (s.b:Nat),eD s.e,.tup s.ws]
noncomputable def HW:List Std->Int->D|[],_=>.av|s::r,m=>if (s.b:Int)<=m then (match s.e with|none=>.tup s.ws|some n=>if m<=(n:Int) then .tup s.ws else .av) else HW r m
noncomputable def wt(l:List Std)(m:Int):D:=HW l.reverse m
abbrev Ra:=List<|Str×Addr×List Std
abbrev lW:=List<|Str×List Std
def ig(ra:Ra):lW:=ra.map λr=>(r.1,r.2.2)
def dY(ra:Ra):List (Key×D):=ra.map λr=>(Sum.inr r.1,D.ref r.2.1)
noncomputable def lu(rs:lW)(k:Str):Option (List Std):=(rs.find? λr=>decide<|r.1=k).map (·.2)
noncomputable def sJ(ra:Ra)(k:Str):Option (Addr×List Std):=(ra.find? λr=>decide<|r.1=k).map (·.2)
noncomputable def sL(ra:Ra)(k:Str)(s:List Std):Ra:=ra.map λr=>if r.1=k then (r.1,r.2.1,s) else r
noncomputable def B7(rs:lW)(k:Str)(s:List Std):lW:=if (lu rs k).isSome then rs.map λr=>if r.1=k then (r.1,s) else r else rs++[(k,s)]
theorem gO(ra:Ra)(k:Str):lu (ig ra) k=(sJ ra k).map (·.2):=by unfold lu sJ ig;induction ra with|nil=>rfl|cons r ra ih=>rw[zQ,yb,yb];by_cases h:r.1=k;rw[zA h];rfl;rw[zw h];exact ih
theorem ij(ra:Ra)(k:Str):bW (dY ra) (.inr k)=(sJ ra k).map λp=>D.ref p.1:=by unfold bW sJ dY;induction ra with|nil=>rfl|cons r ra ih=>rw[zQ,yb,yb];by_cases h:r.1=k;rw[zA h];have:decide ((Sum.inr r.1:Key)=.inr k)=true:=zA (by rw[h]);dsimp only;rw[this];rfl;rw[zw h];have:decide ((Sum.inr r.1:Key)=.inr k)=false:=zw λe=>h<|yL e;dsimp only;rw[this];exact ih
theorem dE(h:sJ ra k=some (l,s)):(k,l,s)∈ra:=by unfold sJ at h;cases q:ra.find? λr=>decide (r.1=k) with|none=>(rw[q]at h;cases h)|some r=>rw[q]at h;have h1:=List.find?_some q;have h2:=List.mem_of_find?_eq_some q;obtain⟨k',l',s'⟩:=r;have e:k'=k:=zo h1;cases h;rw[<-e];exact h2
theorem mQ(h:sJ ra k=none):∀r∈ra,r.1≠k:=by unfold sJ at h;intro r hr e;have:=List.find?_eq_none.mp (Option.map_eq_none_iff.mp h) r hr;simp[e]at this
theorem ko:∀{l:List α}{x y:α},(l.map f).Nodup->x∈l->y∈l->f x=f y->x=y|z::l,x,y,nd,hx,hy,e=>by rw[zQ]at nd;obtain⟨n1,n2⟩:=yt.mp nd;rcases zg.mp hx with ex|GZ;rcases zg.mp hy with ey|Sh;rw[ex,ey];exact absurd (ze.mpr {y,Sh,by rw[<-e,ex]}) n1;rcases zg.mp hy with ey|Sh;exact absurd (ze.mpr {x,GZ,by rw[e,ey]}) n1;exact ko n2 GZ Sh e
structure B8(C:Addr)(S:ax)(a ld lr:Addr)(cs:List (Str×Str))(dl:List D)(ra:Ra):Prop where
 ins:S a=some (.ins C [("columns",.tup<|cs.map aC),("deeds",.ref ld),("runs",.ref lr)])
 y1:S ld=some (.lst dl)
 run:S lr=some (.cB<|dY ra)
 cell:∀r∈ra,S r.2.1=some (.lst<|r.2.2.map jS)
 kn:(ra.map (·.1)).Nodup
 an:(ld::ra.map (·.2.1)).Nodup
 sz:∀r∈ra,r.2.2.length<=dl.length
def fp(a ld lr:Addr)(ra:Ra):List Addr:=a::ld::lr::ra.map (·.2.1)
def bR(C:Addr)(S:ax)(a:Addr)(F:List Addr)(cs:List<|Str×Str)(dl:List D)(rs:lW):Prop:=∃ld lr ra,B8 C S a ld lr cs dl ra/\F=fp a ld lr ra/\rs=ig ra
def B9(F F':List Addr)(S S':ax):Prop:=∀b c,b∉F->S b=some c->b∉F'/\S' b=some c
theorem B9.trans(a:B9 F F1 S S1)(b:B9 F1 F2 S1 S2):B9 F F2 S S2:=λp c h e=>by obtain⟨h1,e1⟩:=a p c h e;exact b p c h1 e1
section
variable{C a ld lr:Addr}{S:ax}{cs:List (Str×Str)}{dl:List D}{ra:Ra}
theorem B8.B_(h:B8 C S a ld lr cs dl ra){l:Addr}{ds:List D}(e:S l=some (.lst ds)):l≠a/\l≠lr:=by constructor;rintro rfl;rw[h.ins]at e;cases e;rintro rfl;rw[h.run]at e;cases e
theorem B8.put(h:B8 C S a ld lr cs dl ra)(hk:sJ ra k=some (l,s))(hs:s'.length<=dl.length):B8 C (S.set l<|.lst<|s'.map jS) a ld lr cs dl (sL ra k s'):=by
 have hm:=dE hk;have hl:=h.cell _ hm;obtain⟨n1,n2⟩:=h.B_ hl;obtain⟨Zn,nd2⟩:=yt.mp h.an;have n3:l≠ld:=λe=>Zn (by rw[<-e];exact ze.mpr {_,hm,rfl});have e1:(sL ra k s').map (·.1)=ra.map (·.1):=by unfold sL;rw[zB];exact zX λr _=>by dsimp only[Function.comp];split<;>rfl
 have e2:(sL ra k s').map (·.2.1)=ra.map (·.2.1):=by unfold sL;rw[zB];exact zX λr _=>by dsimp only[Function.comp];split<;>rfl
 have e3:dY (sL ra k s')=dY ra:=by unfold dY sL;rw[zB];exact zX λr _=>by dsimp only[Function.comp];split<;>rfl
 refine{by rw[ag n1.symm];exact h.ins,by rw[ag n3.symm];exact h.y1,by rw[ag n2.symm,e3];exact h.run,λr hr=>?_,by rw[e1];exact h.kn,by rw[e2];exact h.an,λr hr=>?_};unfold sL at hr;obtain⟨r0,nh,e⟩:=ze.mp hr;by_cases q:r0.1=k;rw[if_pos q]at e;have er:r0=(k,l,s):=ko h.kn nh hm q;subst er e;rw[aa];rw[if_neg q]at e;subst e;have:r0.2.1≠l:=λe=>q (by have:=ko nd2 nh hm e;rw[this]);rw[ag this];exact h.cell _ nh;unfold sL at hr;obtain⟨r0,nh,e⟩:=ze.mp hr;by_cases q:r0.1=k;rw[if_pos q]at e;subst e;exact hs;rw[if_neg q]at e;subst e;exact h.sz _ nh
theorem B8.add(h:B8 C S a ld lr cs dl ra)(hk:sJ ra k=none)(hl:S l=none)(hs:s.length<=dl.length)(e1:S' l=some (.lst<|s.map jS))(e2:S' lr=some (.cB<|dY<|ra++[(k,l,s)]))(e3:∀b,b≠l->b≠lr->S' b=S b):B8 C S' a ld lr cs dl (ra++[(k,l,s)]):=by
 have n1:a≠l:=iu h.ins hl;have n2:ld≠l:=iu h.y1 hl;have n3:a≠lr:=by rintro rfl;have:=h.run;rw[h.ins]at this;cases this
 have n4:ld≠lr:=by rintro rfl;have:=h.run;rw[h.y1]at this;cases this
 refine{by rw[e3 _ n1 n3];exact h.ins,by rw[e3 _ n2 n4];exact h.y1,e2,λr hr=>?_,?_,?_,λr hr=>?_};rcases zO.mp hr with hr|hr;have hc:=h.cell r hr;rw[e3 _ (iu hc hl) (h.B_ hc).2];exact hc;rw[zr.mp hr];exact e1;rw[zE];exact l_ h.kn λm=>by obtain⟨r,hr,e⟩:=ze.mp m;exact mQ hk r hr e
 rw[zE,<-List.cons_append];refine l_ h.an λm=>?_;rcases zg.mp m with e|m;exact n2 e.symm;obtain⟨r,hr,e⟩:=ze.mp m;exact iu (h.cell r hr) hl e;rcases zO.mp hr with hr|hr;exact h.sz r hr;rw[zr.mp hr];exact hs
theorem B8.PU(h:B8 C S a ld lr cs dl ra)(d:D):B8 C (S.set ld<|.lst<|dl++[d]) a ld lr cs (dl++[d]) ra:=by obtain⟨n1,n2⟩:=h.B_ h.y1;obtain⟨Zn,nd2⟩:=yt.mp h.an;refine{by rw[ag n1.symm];exact h.ins,aa,by rw[ag n2.symm];exact h.run,λr hr=>?_,h.kn,h.an,λr hr=>by rw[zp];exact zK (h.sz r hr)<|Nat.le_add_right _ _};rw[ag λe=>Zn<|by rw[<-e];exact ze.mpr ⟨r,hr,rfl⟩];exact h.cell r hr
end
def U7(C:Addr):gY:=λds S R _=>∃a F cs dl rs,ds=[.ref a]/\bR C S a F cs dl rs/\R (.int (dl.length:Nat)) S
theorem rQ(T:Txt w K mg t):AE P w mg base T.eN 1 (U7 t.aj):=by refine T.eN.F.dQ wk ?_;obtain⟨a,F,cs,dl,rs,e,⟨ld,lr,ra,h,_⟩,q⟩;refine{_,(s1<|sr<|cb bj T.aZ aM<|ac (fl T.ah T.cR<|dv 0) an),?_};exact !{a,_,_,rfl,h.ins,rfl,_,rfl,.inl {dl,h.y1,fo q}}
inductive ft (t:gm) (ds:List D) (S:ax) (R:KD) (Z:KX):Prop where
 |mk (a F cs dl rs) (h0:ds=[.ref a]) (h1:bR t.aj S a F cs dl rs) (h2:R (.tup<|cs.map aC) S)
theorem br(T:Txt w K mg t):AE P w mg base T.aI 1 (ft t):=by refine T.aI.F.dQ jP ?_;obtain⟨a,F,cs,dl,rs,e,⟨ld,lr,ra,h,_⟩,q⟩;refine{_,(s1<|sr<|fl T.ah T.cY<|dv 0),?_};exact !{a,_,_,rfl,h.ins,rfl,fo q}
noncomputable def oa(n:Nat):D->Option Int|.av=>some n|.int i=>(if 0<=i/\i<=(n:Int) then some i else none)|_=>none
def Lv(C N:Addr):gY:=λds S R Z=>∃a F cs dl rs m,ds=[.ref a,m]/\bR C S a F cs dl rs/\Gt S m/\(∀i,oa dl.length m=some i->R (.int i) S)/\(oa dl.length m=none->Z N S)
theorem i7(T:Txt w K mg t):AE P w mg base T.cz 2 (Lv t.aj t.aA):=by
 refine T.cz.F.dQ jf ?_;obtain⟨a,F,cs,dl,rs,m,e,hS,hm,q1,q2⟩;obtain⟨ld,lr,ra,h,hF,sI⟩:=id hS;refine{_,(sc (si (bH kE hr.u (dv 1) dn) (s1<|sr<|nN (dv 0) T.ah T.eN (rQ T) hr) s0)<|sc (si (twd<|twor (cG<|tv<|aY T.jJ (jQ T) hr<|al 1 an)<|tw1<|cG<|V4 ju ju hr.u di (dv 1)<|nN (dv 0) T.ah T.eN (rQ T) hr) (s1<|qX ⟨T.iG⟩ T.oO<|ac ds an) s0)<|s1<|sr<|dv 1),?_};refine !!⟨?_⟩;refine bD (λh1=>?_) λh1=>?_;have e:m=.av:=by cases m<;>first|rfl|cases h1
 subst e;exact !{a,_,rfl,h.ins,rfl,a,F,cs,dl,rs,rfl,hS,fo<|q1 _ rfl};refine !{m,rfl,hm,_,rfl,?_};refine bD (λh2=>?_) λh2=>?_;have h2:=nt h2;have e:oa dl.length m=none:=by cases m with|av=>(cases h1)|int i=>(cases h2)|_=>rfl
 exact bU {sm<|by decide,fo<|q2 e};have h2:=nf h2;obtain⟨i,rfl⟩:∃i,m=.int i:=by cases m<;>first|exact{_,rfl}|cases h2
 refine !!⟨?_⟩;refine bD (λh3=>?_) λh3=>?_;have h3:0<=i:=zo h3;refine !{a,_,rfl,h.ins,rfl,a,F,cs,dl,rs,rfl,hS,_,rfl,?_};refine bD (λh4=>?_) λh4=>?_;have h4:¬i<=((dl.length:Nat):Int):=zN<|nt h4;exact{sm<|by decide,fo<|q2<|if_neg λz=>h4 z.2};have h4:i<=((dl.length:Nat):Int):=zo<|nf h4;exact{_,rfl,fo<|q1 i<|if_pos ⟨h3,h4⟩};have h3:¬0<=i:=zN h3;exact{_,rfl,bU {sm<|by decide,fo<|q2<|if_neg λz=>h3 z.1}}
inductive kZ (ds:List D) (S:ax) (R:KD) (Z:KX):Prop where
 |mk (l uE m) (h0:ds=[.ref l,.int m]) (h1:S l=some (.lst<|uE.map jS)) (h2:R (wt uE m) S)
theorem jT(T:Txt w K mg t):Ok P w base T.gB 1 kZ:=by
 refine T.gB.F.dQ jO ?_;obtain⟨l,uE,m,e,hl,q⟩;refine{_,(sc (nJ<|BC (irv T.rn<|al 0 an) (gn (i:=2) jO.nd)<|s1<|si (bH ju hr.u (ix hr.u (dv 2) di)<|dv 1) (s1<|sr<|ME (twd<|twor (bH kE hr.u (ix hr.u (dv 2) di) dn)<|tw1<|bH ju hr.u (dv 1)<|ix hr.u (dv 2) di) (ix hr.u (dv 2) di) dn) s0)<|s1<|sr dn),?_};refine{λaq S'=>S'=S/\wt uE m=.av,?_,?_};refine !{_,_,rfl,hl,?_};refine{λi aq S'=>(∃o,aq=[some<|.ref l,some<|.int m,o])/\S'=S/\wt uE m=HW (uE.reverse.drop i) m,{⟨none,rfl⟩,rfl,by rw[List.drop_zero];rfl},λi aq S' h=>by rw[h.2.1];exact hl,?_,?_};rintro i d aq S' hd ⟨⟨o,rfl⟩,rfl,hw⟩;rw[<-List.map_reverse,zu]at hd;cases e1:uE.reverse[i]? with|none=>(rw[e1]at hd;cases hd)|some sd=>rw[e1]at hd;cases hd;have e2:uE.reverse.drop i=sd::uE.reverse.drop (i+1):=(by obtain⟨hi,e⟩:=zt.mp e1;rw[List.drop_eq_getElem_cons hi,e]);obtain⟨sb,se,sw⟩:=sd;rw[e2]at hw;refine !!!!⟨?_⟩;unfold HW at hw;refine bD (λh=>?_) λh=>?_;rw[if_pos<|zo h]at hw;refine !!!⟨?_⟩;(cases se with|none=>refine bU<|bU !!⟨?_⟩;rw[hw]at q;exact fo q|some n=>refine bY !!!!⟨?_⟩;dsimp only at hw;refine bD (λh=>?_) λh=>?_;rw[if_pos<|zo h]at hw;rw[hw]at q;exact !!⟨fo q⟩;rw[if_neg<|zN h]at hw;rw[hw]at q;exact fo q);rw[if_neg<|zN h]at hw;exact{{_,rfl},rfl,hw}
 rintro aq S' ⟨_,rfl,hw⟩;refine fo {rfl,?_};rw[hw,List.length_reverse,zc,List.drop_eq_nil_of_le<|by rw[List.length_reverse];exact zl _];rfl;rintro aq S' ⟨rfl,hw⟩;rw[hw]at q;exact fo q
noncomputable def AF(rs:lW)(k:D)(i:Int):D:=match k with|.str z=>(if fz z=true then wt ((lu rs z).getD []) i else .av)|_=>.av
def U8(C N:Addr):gY:=λds S R Z=>∃a F cs dl rs k m,ds=[.ref a,k,m]/\bR C S a F cs dl rs/\Gt S k/\Gt S m/\(∀i,oa dl.length m=some i->R (AF rs k i) S)/\(oa dl.length m=none->Z N S)
theorem mR(T:Txt w K mg t):AE P w mg base T.dD 3 (U8 t.aj t.aA):=by
 refine T.dD.F.dQ fU ?_;obtain⟨a,F,cs,dl,rs,k,m,e,hS,hk,hm,q1,q2⟩;obtain⟨ld,lr,ra,h,hF,sI⟩:=id hS;refine{_,(sc (bX (i:=3) fU.nd<|vG (dv 0) T.ah T.cz (i7 T) hr<|al 2 an)<|sc (si (cG<|tv<|aY T.lI (ie T) hr<|al 1 an) (s1<|sr dn) s0)<|s1<|sr<|aY T.gB (jT T) hr<|ac (mg2 hr.u (fl T.ah T.bQ<|dv 0) (dv 1)<|bV an)<|al 3 an),?_};refine !{a,_,rfl,h.ins,rfl,_,rfl,a,F,cs,dl,rs,m,rfl,hS,hm,λi hi=>?_,λhn=>fo<|q2 hn};have q:=q1 i hi;refine !{k,rfl,hk,_,rfl,?_};refine bD (λh1=>?_) λh1=>?_;have e:AF rs k i=.av:=by cases k with|str z=>exact if_neg (by rw[show fz z=false from nt h1];exact zd)|_=>rfl
 rw[e]at q;exact fo q;have h1:=nf h1;obtain⟨z,rfl⟩:∃z,k=.str z:=by cases k with|str z=>exact⟨z,rfl⟩|_=>cases h1
 have e:AF rs (.str z) i=wt ((lu rs z).getD []) i:=if_pos h1;rw[e]at q;refine !{a,_,_,rfl,h.ins,rfl,lr,_,rfl,h.run,_,rfl,sm<|by decide,λp hp=>{dY ra,.inr z,?_,rfl,?_}};rw[ag<|iu h.run hp];exact h.run;rw[ij];refine{_,rfl,?_};cases e1:sJ ra z with|none=>have e2:lu rs z=none:=(by rw[sI,gO,e1];rfl);rw[e2]at q;exact{p,[],i,rfl,aa,S,.new hp,q}|some ls=>obtain⟨l,uE⟩:=ls;have e2:lu rs z=some uE:=(by rw[sI,gO,e1];rfl);rw[e2]at q;have hc:=h.cell _<|dE e1;exact{l,uE,i,rfl,by rw[ag<|iu hc hp];exact hc,S,.new hp,q}
theorem M8(h:sJ ra k=some (l,s)):B7 (ig ra) k s'=ig (sL ra k s'):=by unfold B7;rw[gO,h,if_pos<|show(Option.map (λx:Addr×List Std=>x.2)<|some (l,s)).isSome=true from rfl];unfold ig sL;rw[zB,zB];exact zX λr _=>by dsimp only[Function.comp];split<;>rfl
theorem PV(h:sJ ra k=none):B7 (ig ra) k s=ig (ra++[(k,l,s)]):=by unfold B7;rw[gO,h,if_neg<|show ¬(Option.map (λx:Addr×List Std=>x.2) none).isSome=true from zd];unfold ig;rw[zE];rfl
theorem PX(h:sJ ra k=none):dput (dY ra) (.inr k) (.ref l)=dY (ra++[(k,l,s)]):=by
 unfold dput;have e:((dY ra).any λkv=>decide<|kv.1=.inr k)=false:=by rw[List.any_eq_false];intro x hx;unfold dY at hx;obtain⟨r,hr,rfl⟩:=ze.mp hx;simp only[yo];exact λe=>mQ h r hr<|yL e
 rw[e,if_neg zd];unfold dY;rw[zE];rfl
theorem HX:fp a ld lr (sL ra k s)=fp a ld lr ra:=by unfold fp sL;rw[zB];congr 3;exact zX λr _=>by dsimp only[Function.comp];split<;>rfl
theorem rR(h:l∈F):B9 F F S (S.set l c):=λb x hb e=>{hb,by rw[ag<|show b≠l from λz=>hb<|by rw[z];exact h];exact e}
theorem HY(h:r∈ra):r.2.1∈fp a ld lr ra:=zj _<|zj _<|zj _<|ze.mpr ⟨r,h,rfl⟩
def Lw(C:Addr):gY:=λds S R _=>∃a F cs dl rs z ws,ds=[.ref a,.str z,.tup ws]/\bR C S a F cs dl rs/\((lu rs z).getD []).length<dl.length/\dl.length<=9000/\rs.length<=9000/\∀S' F',bR C S' a F' cs dl (B7 rs z<|(lu rs z).getD []++[Std.mk dl.length none ws])->B9 F F' S S'->R .av S'
theorem y3(T:Txt w K mg t):AE P w mg base T.bM 2 (Lw t.aj):=by
 refine T.bM.F.dQ ia ?_;rintro _ _ _ _ _ _ _ S R Z hr ⟨a,F,cs,dl,rs,z,ws,e,⟨ld,lr,ra,h,hF,sI⟩,hl,hd,hn,q⟩;subst e hF sI;have Jw:(dY ra).length<=9000:=by unfold ig at hn;unfold dY;rw[zc]at hn⊢;exact hn
 refine{_,(s1<|se<|bm zH zL zM bq (ms2 (fl T.ah T.bQ<|dv 0) (dv 1)<|bV an)<|ac (a_<|ac (nN (dv 0) T.ah T.eN (rQ T) hr)<|ac dn<|al 2 an) an),?_};refine !{a,_,_,rfl,h.ins,rfl,lr,dY ra,rfl,h.run,_,rfl,sm<|by decide,λp hp=>{dY ra,.inr z,?_,rfl,bg<|by lia,λd tU=>?_,λhn=>?_}};rw[ag<|iu h.run hp];exact h.run;rw[ij]at tU;cases e1:sJ ra z with|none=>(rw[e1]at tU;cases tU)|some ls=>obtain⟨l,uE⟩:=ls;rw[e1]at tU;cases tU;have e2:lu (ig ra) z=some uE:=(by rw[gO,e1];rfl);rw[e2]at q hl;have hc:=h.cell _<|dE e1;have FI:(S.set p<|.lst []) l=some (.lst<|uE.map jS):=(by rw[ag<|iu hc hp];exact hc);have hi':(S.set p<|.lst []) a=some (.ins t.aj [("columns",.tup<|cs.map aC),("deeds",.ref ld),("runs",.ref lr)]):=(by rw[ag<|iu h.ins hp];exact h.ins);have p8:B8 t.aj (S.set p<|.lst []) a ld lr cs dl ra:={hi',by rw[ag<|iu h.y1 hp];exact h.y1,by rw[ag<|iu h.run hp];exact h.run,λr hr=>by rw[ag<|iu (h.cell r hr) hp];exact h.cell r hr,h.kn,h.an,h.sz};refine{{rfl,_,FI},_,rfl,a,_,rfl,hi',rfl,a,_,cs,dl,_,rfl,⟨ld,lr,ra,p8,rfl,rfl⟩,_,rfl,rK,?_};have hle:uE.length<dl.length:=hl;refine{l,uE.map jS,_,rfl,rfl,FI,bg<|by rw[zc];lia,S.set l<|.lst<|(uE++[Std.mk dl.length none ws]).map jS,λb c hb=>?_,q _ _ {ld,lr,_,h.put e1<|by rw[zp];show uE.length+1<=_;lia,rfl,M8 e1} ?_};by_cases Zo:b=l;subst Zo;rw[aa]at hb⊢;rw[zE]at hb;exact hb;rw[ag Zo]at hb;rw[ag Zo,ag<|iu hb hp];exact hb;rw[HX];exact rR<|HY<|dE e1
 rw[ij]at hn;cases e1:sJ ra z with|some ls=>(rw[e1]at hn;cases hn)|none=>have e2:lu (ig ra) z=none:=(by rw[gO,e1];rfl);rw[e2]at q hl;have npr:p≠lr:=(iu h.run hp).symm;generalize DB:(S.set p<|.lst []).set lr _=S1;have Zp:S1 p=some (.lst []):=(by rw[<-DB,ag npr,aa]);have s1r:S1 lr=some (.cB<|dY<|ra++[(z,p,[])]):=(by rw[<-DB,aa,PX e1]);have Zq:∀b,b≠p->b≠lr->S1 b=S b:=λb h1 h2=>(by rw[<-DB,ag h2,ag h1]);have p8:B8 t.aj S1 a ld lr cs dl (ra++[(z,p,[])]):=h.add e1 hp (yh _) Zp s1r Zq;refine{{rfl,_,Zp},_,rfl,a,_,rfl,p8.ins,rfl,a,_,cs,dl,_,rfl,{ld,lr,_,p8,rfl,rfl},_,rfl,rK,?_};refine{p,[],_,rfl,rfl,Zp,bg<|by show 0<=_;lia,S1.set p<|.lst<|[Std.mk dl.length none ws].map jS,.refl _,q _ _ {ld,lr,ra++[(z,p,[Std.mk dl.length none ws])],h.add e1 hp (by show 1<=_;have:0<dl.length:=hl;lia) aa ?_ λb h1 h2=>by rw[ag h1];exact Zq b h1 h2,rfl,PV e1} ?_};rw[ag npr.symm,s1r];unfold dY;rw[zE,zE];rfl;intro b c hb e;have h1:b≠p:=iu e hp;have h2:b≠lr:=λz=>hb (by rw[z];exact zj _<|zj _ zy);refine{λm=>?_,by rw[ag h1,Zq b h1 h2];exact e};unfold fp at m hb;rw[zE]at m;rcases zg.mp m with m|m;exact hb<|m ▸ zy;rcases zg.mp m with m|m;exact hb<|m ▸ zj _ zy;rcases zg.mp m with m|m;exact h2 m;rcases zO.mp m with m|m;exact hb<|zj _<|zj _<|zj _ m;exact h1<|zr.mp m
noncomputable def iO(n:Nat)(l:List Std):List Std:=l.dropLast++(l.getLast?.map λs=>Std.mk s.b (some n) s.ws).toList
noncomputable def og(rs:lW)(z:Str)(n:Nat):lW:=B7 rs z<|iO n<|(lu rs z).getD []
noncomputable def tJ(rs:lW)(z:Str)(n:Nat)(ws:List D):lW:=B7 rs z<|(lu rs z).getD []++[Std.mk n none ws]
theorem HZ(h:bR C S a F cs dl rs)(z:Str):((lu rs z).getD []).length<=dl.length:=by obtain⟨ld,lr,ra,h,_,rfl⟩:=h;rw[gO];cases e:sJ ra z with|none=>exact yh _|some ls=>exact h.sz _<|dE (l:=ls.1) (s:=ls.2) e
theorem Lx(rs:lW)(z:Str)(s:List Std):(B7 rs z s).length<=rs.length+1:=by unfold B7;split;rw[zc];lia;rw[zp];exact zl _
theorem fA:lu (r::rs) k=if r.1=k then some r.2 else lu rs k:=by unfold lu;rw[yb];by_cases h:r.1=k;rw[zA h,if_pos h];rfl;rw[zw h,if_neg h]
theorem jU:lu (B7 rs z s) k=if k=z then some s else lu rs k:=by
 unfold B7;by_cases hs:(lu rs z).isSome=true;rw[if_pos hs];by_cases hk:k=z;subst hk;rw[if_pos rfl];induction rs with|nil=>(cases hs)|cons r rs ih=>rw[zQ,fA];by_cases h:r.1=k;rw[if_pos h,if_pos h];rw[if_neg h,if_neg h];rw[fA,if_neg h]at hs;exact ih hs
 rw[if_neg hk];clear hs;induction rs with|nil=>rfl|cons r rs ih=>rw[zQ,fA,fA,ih];by_cases h:r.1=z;rw[if_pos h,if_neg<|show ¬r.1=k from λe=>hk<|e.symm.trans h,if_neg<|show ¬r.1=k from λe=>hk<|e.symm.trans h];rw[if_neg h]
 rw[if_neg hs];have hn:lu rs z=none:=by cases e:lu rs z<;>simp_all
 clear hs;induction rs with|nil=>rw[List.nil_append,fA];by_cases hk:k=z;rw[if_pos hk,if_pos hk.symm];rw[if_neg hk,if_neg λe=>hk e.symm]|cons r rs ih=>rw[fA]at hn;by_cases h:r.1=z;rw[if_pos h]at hn;cases hn;rw[if_neg h]at hn;rw[List.cons_append,fA,fA,ih hn];by_cases h2:r.1=k;rw[if_pos h2,if_pos h2,if_neg<|show ¬k=z from λe=>h<|h2.trans e];rw[if_neg h2,if_neg h2]
def U9(C:Addr):gY:=λds S R _=>∃a F cs dl rs z,ds=[.ref a,.str z]/\bR C S a F cs dl rs/\(∃s,lu rs z=some s/\s≠[])/\dl.length<=9000/\∀S',bR C S' a F cs dl (og rs z dl.length)->B9 F F S S'->R .av S'
theorem kr(h:l≠[]):∃r s,l=r++[s]:={l.dropLast,l.getLast h,(List.dropLast_concat_getLast h).symm}
theorem eX(n:Nat)(r:List Std)(s:Std):iO n (r++[s])=r++[Std.mk s.b (some n) s.ws]:=by unfold iO;rw[List.dropLast_concat,List.getLast?_concat];rfl
theorem H9(T:Txt w K mg t):AE P w mg base T.cy 2 (U9 t.aj):=by refine T.cy.F.dQ eG ?_;rintro _ _ _ _ _ _ _ S R Z hr ⟨a,F,cs,dl,rs,z,e,⟨ld,lr,ra,h,hF,sI⟩,⟨s0,Q4,PY⟩,hd,q⟩;subst e hF sI;rw[gO]at Q4;cases e1:sJ ra z with|none=>(rw[e1]at Q4;cases Q4)|some ls=>obtain⟨l,uE⟩:=ls;rw[e1]at Q4;cases Q4;obtain⟨r,sd,rfl⟩:=kr PY;have hlen:=h.sz _<|dE e1;dsimp only at hlen;rw[zp]at hlen;have hlen:r.length+1<=dl.length:=hlen;have hc:=h.cell _<|dE e1;dsimp only at hc;have ed:bW (dY ra) (.inr z)=some (.ref l):=(by rw[ij,e1];rfl);refine{_,(sc (bX (i:=2) eG.nd<|bm0 zH PySem.F.slot_list_pop PySem.F.type_list_pop TC<|ix hr.u (fl T.ah T.bQ<|dv 0)<|dv 1)<|s1<|se<|bm zH zL zM bq (ix hr.u (fl T.ah T.bQ<|dv 0)<|dv 1)<|ac (a_<|ac (ix hr.u (dv 2) di)<|ac (nN (dv 0) T.ah T.eN (rQ T) hr)<|ac (ix hr.u (dv 2) di) an) an),?_};refine !{a,_,_,rfl,h.ins,rfl,_,rfl,dY ra,_,h.run,ed,{rfl,_,hc},l,_,jS sd,rfl,rfl,hc,?_,?_};rw[zE,zp];show(r.map jS++[jS sd])[(r.map jS).length+1-1]?=_;simp;have e2:((r++[sd]).map jS).dropLast=r.map jS:=(by rw[zE];exact List.dropLast_concat);rw[e2];have h1:B8 t.aj (S.set l<|.lst<|r.map jS) a ld lr cs dl (sL ra z r):=h.put e1 (by lia);generalize DB:S.set l _=S1 at h1;have Zr:sJ (sL ra z r) z=some (l,r):=(by have hm:(z,l,r)∈sL ra z r:=(by unfold sL;exact ze.mpr {_,dE e1,if_pos rfl});cases e3:sJ (sL ra z r) z with|none=>exact absurd rfl (mQ e3 _ hm)|some x=>exact congrArg some<|congrArg Prod.snd<|ko (f:=λr:Str×Addr×List Std=>r.1) h1.kn (dE (l:=x.1) (s:=x.2) e3) hm rfl);have ed':bW (dY<|sL ra z r) (.inr z)=some (.ref l):=(by rw[ij,Zr];rfl);have Wr:=h1.cell _<|dE Zr;refine !{a,_,_,rfl,h1.ins,rfl,_,rfl,_,_,h1.run,ed',{rfl,_,Wr},_,rfl,_,rfl,_,rfl,a,_,rfl,h1.ins,rfl,a,_,cs,dl,_,rfl,{ld,lr,_,h1,rfl,rfl},_,rfl,_,rfl,rK,l,_,_,rfl,rfl,Wr,bg<|by rw[zc];show r.length<=_;lia,?_};have h2:=h1.put (s':=r++[Std.mk sd.b (some dl.length) sd.ws]) Zr (by rw[zp];exact hlen);have e4:og (ig ra) z dl.length=ig (sL (sL ra z r) z<|r++[Std.mk sd.b (some dl.length) sd.ws]):=(by unfold og;rw[gO,e1];show B7 (ig ra) z (iO dl.length<|r++[sd])=_;rw[eX,M8 e1];unfold ig sL;rw[zB,zB,zB];exact zX λx _=>by dsimp only[Function.comp];by_cases hx:x.1=z<;>simp[hx]);refine{_,?_,q _ {ld,lr,_,h2,by rw[HX,HX],e4} ?_};show Sub (S1.set l<|.lst<|(r++[_]).map jS) (S1.set l<|.lst<|r.map jS++[_]);rw[zE];exact .refl _;rw[<-DB,b_];exact rR<|HY<|dE e1
theorem DC(h:ofStr fz d=true):∃z,d=.str z/\fz z=true:=by cases d with|str z=>exact⟨z,rfl,h⟩|_=>cases h
theorem DD(h:n8 cs k v=true):∃z ws,k=.str z/\v=.tup ws/\fz z=true:=by unfold n8 at h;rw[zR]at h;obtain⟨z,rfl,hz⟩:=DC h.1;cases v with|tup ws=>exact⟨z,ws,rfl,rfl,hz⟩|_=>exact absurd h.2 zd
theorem oh:Gt S .av:={{.av,rfl},λ_=>nofun}
theorem M9(h:ay (wt l m)=false):l≠[]:=by rintro rfl;cases h
theorem wu(hz:fz z=true)(i:Int):AF rs (.str z) i=wt ((lu rs z).getD []) i:=if_pos hz
inductive eY (t:gm) (ds:List D) (S:ax) (R:KD) (Z:KX):Prop where
 |mk (a F cs dl rs k) (h0:ds=[.ref a,k]) (h1:bR t.aj S a F cs dl rs) (h2:Gt S k) (h3:(ay (AF rs k dl.length)=false->R .av S)) (h4:(ay (AF rs k dl.length)=true->Z t.mz S))
theorem i8(T:Txt w K mg t):AE P w mg base T.cw 4 (eY t):=by refine T.cw.F.dQ je ?_;obtain⟨a,F,cs,dl,rs,k,e,hS,hk,q1,q2⟩;obtain⟨ld,lr,ra,h,_⟩:=id hS;refine{_,(s1<|si (bH kE hr.u (Ym (dv 0) T.ah T.dD.e ((mR T).mono<|by decide) hr T.fm d1<|al 1 an) dn) (s1<|qX ⟨T.vQ⟩ T.HP<|ac ds an) s0),?_};refine !{a,_,rfl,h.ins,rfl,_,rfl,a,F,cs,dl,rs,k,.av,rfl,hS,hk,oh,λi hi=>?_,λhn=>by cases hn};cases hi;refine{_,rfl,?_};refine bD (λh1=>?_) λh1=>?_;exact{gN,fo<|q2 h1};exact fo<|q1 h1
inductive jV (t:gm) (ds:List D) (S:ax) (R:KD) (Z:KX):Prop where
 |mk (a F cs dl rs k v) (h0:ds=[.ref a,k,v]) (h1:bR t.aj S a F cs dl rs) (h2:cs.length<=8) (h3:Gt S k) (h4:Rm S v) (h5:dl.length<=8000) (h6:rs.length<=8000) (h7:(n8 cs k v=false->Z t.g7 S)) (h8:(n8 cs k v=true->ay (AF rs k dl.length)=false->Z t.rl S)) (h9:(∀z ws,k=.str z->v=.tup ws->n8 cs k v=true->ay (AF rs k dl.length)=true->∀S' F',bR t.aj S' a F' cs (dl++[.tup [.str "put",k,v]]) (tJ rs z (dl.length+1) ws)->B9 F F' S S'->R .av S'))
theorem PZ(T:Txt w K mg t):AE P w mg base T.fE 6 (jV t):=by refine T.fE.F.dQ wj ?_;obtain⟨a,F,cs,dl,rs,k,v,e,hS,hc,hk,hv,hd,hn,q1,q2,q3⟩;obtain⟨ld,lr,ra,h,hF,sI⟩:=id hS;refine{_,(sc (se<|aY T.kl (mP T) hr<|ac (fl T.ah T.cY<|dv 0)<|ac (a_<|al 1<|al 2 an) an)<|sc (si (bH nE hr.u (Ym (dv 0) T.ah T.dD.e ((mR T).mono<|by decide) hr T.fm d1<|al 1 an) dn) (s1<|qX ⟨T.rA⟩ T.E8<|ac ds an) s0)<|sc (se<|bm zH zL zM bq (fl T.ah T.cR<|dv 0)<|ac (a_<|ac ds<|al 1<|al 2 an) an)<|s1<|se<|vG (dv 0) T.ah T.bM (y3 T) hr<|al 1<|al 2 an),?_};refine !{a,_,_,rfl,h.ins,rfl,_,rfl,_,rfl,ib,cs,k,v,rfl,hc,hk,hv,λFj=>?_,λnh=>fo<|q1 nh};refine !{a,_,rfl,h.ins,rfl,_,rfl,a,F,cs,dl,rs,k,.av,rfl,hS,hk,oh,λi hi=>?_,λhn=>by cases hn};cases hi;refine{_,rfl,?_};refine bD (λh1=>?_) λh1=>?_;exact{gN,fo<|q2 Fj<|nt h1};obtain⟨z,ws,rfl,rfl,hz⟩:=DD Fj;refine !{a,_,_,rfl,h.ins,rfl,{rfl,_,h.y1},_,rfl,_,rfl,rK,ld,dl,_,rfl,rfl,h.y1,bg<|by lia,?_};have EA:=h.PU<|.tup [.str "put",.str z,.tup ws];have DB:bR t.aj (S.set ld<|.lst<|dl++[.tup [.str "put",.str z,.tup ws]]) a F cs (dl++[.tup [.str "put",.str z,.tup ws]]) rs:=⟨ld,lr,ra,EA,hF,sI⟩;have hl:=HZ hS z;refine !{a,_,rfl,EA.ins,rfl,_,rfl,_,rfl,a,F,cs,_,rs,z,ws,rfl,DB,by rw[zp];exact Nat.lt_succ_of_le hl,by rw[zp];show dl.length+1<=_;lia,by lia,λS' F' p8 hK=>fo<|q3 z ws rfl rfl Fj (nf h1) S' F' ?_ ?_};have:(dl++[D.tup [.str "put",.str z,.tup ws]]).length=dl.length+1:=zp;rw[this]at p8;exact p8;refine B9.trans (rR ?_) hK;rw[hF];exact zj _ zy
inductive fV (t:gm) (ds:List D) (S:ax) (R:KD) (Z:KX):Prop where
 |mk (a F cs dl rs k v) (h0:ds=[.ref a,k,v]) (h1:bR t.aj S a F cs dl rs) (h2:cs.length<=8) (h3:Gt S k) (h4:Rm S v) (h5:dl.length<=8000) (h6:rs.length<=8000) (h7:(n8 cs k v=false->Z t.g7 S)) (h8:(n8 cs k v=true->ay (AF rs k dl.length)=true->Z t.mz S)) (h9:(∀z ws,k=.str z->v=.tup ws->n8 cs k v=true->ay (AF rs k dl.length)=false->∀S' F',bR t.aj S' a F' cs (dl++[.tup [.str "change",k,v]]) (tJ (og rs z dl.length) z (dl.length+1) ws)->B9 F F' S S'->R .av S'))
theorem Fl(T:Txt w K mg t):AE P w mg base T.cZ 6 (fV t):=by
 refine T.cZ.F.dQ pM ?_;obtain⟨a,F,cs,dl,rs,k,v,e,hS,hc,hk,hv,hd,hn,q1,q2,q3⟩;obtain⟨ld,lr,ra,h,hF,sI⟩:=id hS;refine{_,(sc (se<|aY T.kl (mP T) hr<|ac (fl T.ah T.cY<|dv 0)<|ac (a_<|al 1<|al 2 an) an)<|sc (se<|vG (dv 0) T.ah T.cw (i8 T) hr<|al 1 an)<|sc (se<|vG (dv 0) T.ah T.cy (H9 T) hr<|al 1 an)<|sc (se<|bm zH zL zM bq (fl T.ah T.cR<|dv 0)<|ac (a_<|ac ds<|al 1<|al 2 an) an)<|s1<|se<|vG (dv 0) T.ah T.bM (y3 T) hr<|al 1<|al 2 an),?_};refine !{a,_,_,rfl,h.ins,rfl,_,rfl,_,rfl,ib,cs,k,v,rfl,hc,hk,hv,λFj=>?_,λnh=>fo<|q1 nh};refine !{a,_,rfl,h.ins,rfl,_,rfl,a,F,cs,dl,rs,k,rfl,hS,hk,λh1=>?_,λh1=>fo<|q2 Fj h1};obtain⟨z,ws,rfl,rfl,hz⟩:=DD Fj;have PY:∃s,lu rs z=some s/\s≠[]:=by rw[wu hz]at h1;have:=M9 h1;cases e:lu rs z with|none=>rw[e]at this;exact absurd rfl this|some s=>rw[e]at this;exact⟨s,rfl,this⟩
 refine !{a,_,rfl,h.ins,rfl,_,rfl,a,F,cs,dl,rs,z,rfl,hS,PY,by lia,λS1 DB U_=>?_};obtain⟨Rn,Zs,Zt,EA,Va,P0⟩:=id DB;refine !{a,_,_,rfl,EA.ins,rfl,{rfl,_,EA.y1},_,rfl,_,rfl,rK,Rn,dl,_,rfl,rfl,EA.y1,bg<|by lia,?_};have h2:=EA.PU<|.tup [.str "change",.str z,.tup ws];have Vb:bR t.aj (S1.set Rn<|.lst<|dl++[.tup [.str "change",.str z,.tup ws]]) a F cs (dl++[.tup [.str "change",.str z,.tup ws]]) (og rs z dl.length):=⟨Rn,Zs,Zt,h2,Va,P0⟩;have hl:=HZ DB z;have EN:(og rs z dl.length).length<=rs.length+1:=Lx _ _ _;refine !{a,_,rfl,h2.ins,rfl,_,rfl,_,rfl,a,F,cs,_,_,z,ws,rfl,Vb,by rw[zp];exact Nat.lt_succ_of_le hl,by rw[zp];show dl.length+1<=_;lia,by lia,λS' F' p8 hK=>fo<|q3 z ws rfl rfl Fj h1 S' F' ?_ ?_};have:(dl++[D.tup [.str "change",.str z,.tup ws]]).length=dl.length+1:=zp;rw[this]at p8;exact p8;refine U_.trans<|B9.trans (rR ?_) hK;rw[Va];exact zj _ zy
inductive iP (t:gm) (ds:List D) (S:ax) (R:KD) (Z:KX):Prop where
 |mk (a F cs dl rs k) (h0:ds=[.ref a,k]) (h1:bR t.aj S a F cs dl rs) (h2:Gt S k) (h3:dl.length<=8000) (h4:(ofStr fz k=false->Z t.g7 S)) (h5:(ofStr fz k=true->ay (AF rs k dl.length)=true->Z t.mz S)) (h6:(∀z,k=.str z->fz z=true->ay (AF rs k dl.length)=false->∀S',bR t.aj S' a F cs (dl++[.tup [.str "take",k]]) (og rs z dl.length)->B9 F F S S'->R .av S'))
theorem Lz(T:Txt w K mg t):AE P w mg base T.eM 6 (iP t):=by
 refine T.eM.F.dQ tH ?_;obtain⟨a,F,cs,dl,rs,k,e,hS,hk,hd,q1,q2,q3⟩;obtain⟨ld,lr,ra,h,hF,sI⟩:=id hS;refine{_,(sc (si (cG<|tv<|aY T.lI (ie T) hr<|al 1 an) (s1<|qX ⟨T.hU⟩ T.kh<|ac ds an) s0)<|sc (se<|vG (dv 0) T.ah T.cw (i8 T) hr<|al 1 an)<|sc (se<|vG (dv 0) T.ah T.cy (H9 T) hr<|al 1 an)<|s1<|se<|bm zH zL zM bq (fl T.ah T.cR<|dv 0)<|ac (a_<|ac ds<|al 1 an) an),?_};refine !{k,rfl,hk,_,rfl,?_};refine bD (λh0=>?_) λh0=>?_;exact{gN,fo<|q1<|nt h0};have h0:=nf h0;refine !{a,_,rfl,h.ins,rfl,_,rfl,a,F,cs,dl,rs,k,rfl,hS,hk,λh1=>?_,λh1=>fo<|q2 h0 h1};obtain⟨z,rfl,hz⟩:=DC h0;have PY:∃s,lu rs z=some s/\s≠[]:=by rw[wu hz]at h1;have:=M9 h1;cases e:lu rs z with|none=>rw[e]at this;exact absurd rfl this|some s=>rw[e]at this;exact⟨s,rfl,this⟩
 refine !{a,_,rfl,h.ins,rfl,_,rfl,a,F,cs,dl,rs,z,rfl,hS,PY,by lia,λS1 DB U_=>?_};obtain⟨Rn,Zs,Zt,EA,Va,P0⟩:=id DB;refine !{a,_,_,rfl,EA.ins,rfl,{rfl,_,EA.y1},_,rfl,ib,Rn,dl,_,rfl,rfl,EA.y1,bg<|by lia,?_};refine fo<|q3 z rfl hz h1 _ {Rn,Zs,Zt,EA.PU _,Va,P0}<|U_.trans<|rR ?_;rw[Va];exact zj _ zy
inductive ik (t:gm) (ds:List D) (S:ax) (R:KD) (Z:KX):Prop where
 |mk (a cs) (h0:ds=[.ref a,.tup<|cs.map aC]) (h1:Gd cs) (h2:S a=some (.ins t.aj [])) (h3:∀S' F,bR t.aj S' a F cs [] []->B9 [a] F S S'->R .av S')
theorem LA(T:Txt w K mg t):AE P w mg base T.fR 5 (ik t):=by
 refine T.fR.F.dQ mL ?_;obtain⟨a,cs,e,hg,ha,q⟩;refine{_,(sc (se<|aY T.gL (n_ T) hr<|al 1 an)<|sc (sf T.ah T.cY (dv 0)<|dv 1)<|sc (sf T.ah T.cR (dv 0)<|bV an)<|s1<|sf T.ah T.bQ (dv 0) Tq),?_};refine !{cs,rfl,hg,_,rfl,_,rfl,a,[],rfl,ha,(show 0<1000 by decide),?_};refine{pN,λld Ro=>!{a,[("columns",.tup<|cs.map aC)],rfl,?_,(show 1<1000 by decide),λlr EN=>!{a,[("columns",.tup<|cs.map aC),("deeds",.ref ld)],rfl,?_,(show 2<1000 by decide),?_}}};have nl:a≠ld:=by rintro rfl;rw[aa]at Ro;cases Ro
 rw[ag nl,aa];rfl;have nl:a≠lr:=by rintro rfl;rw[aa]at EN;cases EN
 rw[ag nl,aa];rfl;have n1:a≠ld:=by rintro rfl;rw[aa]at Ro;cases Ro
 have n2:a≠lr:=by rintro rfl;rw[aa]at EN;cases EN
 have n3:ld≠lr:=by rintro rfl;rw[ag n1.symm,aa]at EN;cases EN
 rw[ag n1.symm]at Ro;rw[ag n2.symm,ag n3.symm,ag n2.symm]at EN;refine fo<|q _ (fp a ld lr []) {ld,lr,[],{aa,?_,?_,λr hr=>(nomatch hr),List.nodup_nil,(by simp),λr hr=>(nomatch hr)},rfl,rfl} λb c hb e=>?_;rw[ag n1.symm,ag n3,ag n1.symm,aa];rw[ag n2.symm,aa];rfl;have b1:b≠a:=λz=>hb (by rw[z];exact zy);have b2:b≠ld:=iu e Ro;have b3:b≠lr:=iu e EN;refine{λm=>?_,by rw[ag b1,ag b3,ag b1,ag b2,ag b1];exact e};unfold fp at m;simp only[List.map_nil,zg,zG,or_false]at m;rcases m with m|m|m;exact b1 m;exact b2 m;exact b3 m
noncomputable def tK(rs:lW)(i:Int)(z:Str):D:=.tup [.str z,wt ((lu rs z).getD []) i]
noncomputable def eQ(rs:lW)(i:Int)(ss:List Str):List D:=(ss.filter λz=>!ay (wt ((lu rs z).getD []) i)).map<|tK rs i
noncomputable def wx:D->Bool|.tup [_,x]=>!ay x|_=>false
theorem y4(ss:List Str):((ss.map<|tK rs i).filter wx).map id=eQ rs i ss:=by unfold eQ;rw[List.map_id,List.filter_map];rfl
def M_(C N:Addr):gY:=λds S R Z=>∃a F cs dl rs m,ds=[.ref a,m]/\bR C S a F cs dl rs/\rs.length<64/\Gt S m/\(∀i ss,oa dl.length m=some i->ss.Perm (rs.map (·.1))->PyProof.Rows.sortedS ss=true->∀p,S p=none->R (.ref p) (S.set p<|.lst<|eQ rs i ss))/\(oa dl.length m=none->Z N S)
theorem oi(T:Txt w K mg t):AE P w mg base T.cX 3 (M_ t.aj t.aA):=by
 refine T.cX.F.dQ fi ?_;obtain⟨a,F,cs,dl,rs,m,e,hS,hn,hm,q1,q2⟩;obtain⟨ld,lr,ra,h,hF,sI⟩:=id hS;have ek:(dY ra).map (·.1)=(rs.map (·.1)).map Sum.inr:=by rw[sI];unfold dY ig;rw[zB,zB,zB];rfl
 have el:(dY ra).length<64:=by rw[sI]at hn;unfold ig at hn;unfold dY;rw[zc]at hn⊢;exact hn
 refine{_,(sc (bX (i:=2) fi.nd<|vG (dv 0) T.ah T.cz (i7 T) hr<|al 1 an)<|sc (Pd (i:=3) (N:=["key","then","self"]) (src:=[none,some 2,some 0]) fi.nd (lU (ae<|inClass bx 10) ["self","moment","then","rows"] rfl rfl<|by trivial) (il<|cb xI T.hG fB<|ac (fl T.ah T.bQ<|dv 0) an) (qY<|show(["key","then","self"]:List Str).Nodup by trivial) (aW rfl) aX (λ_ _ _ _ _=>ur) λ_ _ _ _ _=>(a_<|al 0<|ac (aY T.gB (jT T) hr<|ac (ix hr.u (fl T.ah T.bQ<|dv 2)<|dv 0)<|al 1 an) an))<|s1<|sr<|vp (N:=["row"]) (src:=[none]) (lU (ae<|inClass bx 10) ["self","moment","then","rows"] rfl rfl<|by trivial) (il<|dv 3) (qY<|show(["row"]:List Str).Nodup by trivial) (aW rfl) aX (λ_ _ _ _ _=>(if1<|bH nE hr.u (ix hr.u (dv 0) di) dn)) λ_ _ _ _ _=>(dv 0)),?_};refine !{a,_,rfl,h.ins,rfl,_,rfl,a,F,cs,dl,rs,m,rfl,hS,hm,λi hi=>?_,λhn=>fo<|q2 hn};refine !{a,_,_,rfl,h.ins,rfl,lr,dY ra,rs.map (·.1),rfl,h.run,ek,el,λss hp hs p lO=>?_};have hlen:ss.length<64:=by rw[hp.length_eq,zc];exact hn
 refine{_,aa,?_};refine comp_map (λd=>match d with|.str z=>tK rs i z|_=>.av) aa (by show(ss.map D.str).length<=1000;rw[zc];omega) (λd hd Q hQ=>?_) λp2 lT=>?_;obtain⟨z,hz,rfl⟩:=ze.mp hd;have XZ:z∈rs.map (·.1):=hp.mem_iff.mp hz;obtain⟨r,wW,e⟩:=ze.mp XZ;rw[sI]at wW;unfold ig at wW;obtain⟨r0,nh,rfl⟩:=ze.mp wW;have e1:sJ ra z=some r0.2:=by cases e3:sJ ra z with|none=>exact absurd e (mQ e3 _ nh)|some x=>exact congrArg some<|congrArg Prod.snd<|ko (f:=λr:Str×Addr×List Std=>r.1) h.kn (dE (l:=x.1) (s:=x.2) e3) nh e.symm
 have ed:bW (dY ra) (.inr z)=some (.ref r0.2.1):=by rw[ij,e1];rfl
 have hc:=h.cell _ nh;have eq:(lu rs z).getD []=r0.2.2:=by rw[sI,gO,e1];rfl
 have hQ:Q (.tup [.str z,wt ((lu rs z).getD []) i]) (S.set p<|.lst<|ss.map D.str):=hQ;rw[eq]at hQ;have hi1:(S.set p<|.lst<|ss.map D.str) a=_:=(ag<|iu h.ins lO).trans h.ins;have Fj:(S.set p<|.lst<|ss.map D.str) lr=_:=(ag<|iu h.run lO).trans h.run;have Wr:(S.set p<|.lst<|ss.map D.str) r0.2.1=_:=(ag<|iu hc lO).trans hc;exact !!{a,_,_,rfl,hi1,rfl,_,rfl,dY ra,_,Fj,ed,_,rfl,_,_,i,rfl,Wr,ib,hQ};have em:(ss.map D.str).map (λd=>match d with|.str z=>tK rs i z|_=>.av)=ss.map (tK rs i):=by rw[zB];rfl
 refine !{ss.map<|tK rs i,by show((S.set p _).set p2<|.lst<|(ss.map D.str).map _) p2=_;rw[aa,em],?_};refine km wx id (by show((S.set p _).set p2<|.lst<|(ss.map D.str).map _) p2=_;rw[aa,em]) (by show(ss.map<|tK rs i).length<=1000;rw[zc];omega) (λd hd Q Q' hQ JE=>?_) λp3 Ws=>?_;obtain⟨z,hz,rfl⟩:=ze.mp hd;refine !!!⟨?_⟩;exact bD (λh=>!⟨hQ h⟩) λh=>JE h;have Zu:S p3=none:=by cases e:S p3 with|none=>rfl|some c=>exact absurd Ws<|by rw[ag (iu e<|by have:(S.set p<|.lst<|ss.map D.str) p2=none:=lT;cases e':S p2 with|none=>rfl|some c'=>rw[ag<|iu e' lO,e']at this;cases this),ag<|iu e lO,e];exact nofun
 refine{S.set p3<|.lst<|eQ rs i ss,λb c hb=>?_,q1 i ss hi hp hs p3 Zu};show((((S.set p<|.lst<|ss.map D.str).set p2 _).set p3<|.lst<|((ss.map<|tK rs i).filter wx).map id)) b=some c;rw[y4];by_cases P1:b=p3;subst P1;rw[aa]at hb⊢;exact hb;rw[ag P1]at hb;have Zv:S p2=none:=by cases e':S p2 with|none=>rfl|some c'=>have:(S.set p<|.lst<|ss.map D.str) p2=none:=lT;rw[ag<|iu e' lO,e']at this;cases this
 rw[ag P1,ag<|iu hb Zv,ag<|iu hb lO];exact hb
theorem fW{p:Bool}{A B:Prop}(h:p=false)(q:B):if p=true then A else B:=by rw[h];exact bY q
theorem rS{p:Bool}{A B:Prop}(h:p=true)(q:A):if p=true then A else B:=by rw[h];exact bU q
theorem dF{L:List D}{S:ax}{p:Addr}{n:Int}{R:KD}(h0:0<=n)(h1:n<(L.length:Int))(hp:S p=none)(q:∀d,d∈L->R d S):Tv p n (S.set p<|.lst L) λd S'=>Fo S' (R d):=by obtain⟨v,e1,e2⟩:=u_ (l:=L) h0 h1;exact{L,v,aa,e1,S,.new hp,q v<|zI e2}
theorem mS{xs:List Int}{i:Int}{P:Int->Prop}(h0:0<=i)(h1:i<((xs.map D.int).length:Int))(h:∀x∈xs,P x):∃x,j9 (xs.map D.int) i=some (.int x)/\P x:=by obtain⟨d,e1,e2⟩:=u_ (l:=xs.map D.int) h0 h1;obtain⟨x,hx,rfl⟩:=ze.mp<|zI e2;exact{x,e1,h x hx}
inductive oY (ds:List D) (S:ax) (R:KD) (Z:KX):Prop where
 |mk (ns:List Int) (k:Nat) (h0:ds=[.jd<|ns.map D.int,.int k]) (h1:∀c:Int,R (.int c) S)
theorem iQ(T:Txt w K mg t):Ok P w base T.fC 1 oY:=by
 refine T.fC.F.dQ wg ?_;obtain⟨ns,k,e,q⟩;refine{_,(sc (si (bH Bu hr.u (dv 1)<|cb bj T.aZ aM<|al 0 an) (s1<|sr<|ix hr.u (dv 0)<|dv 1) s0)<|s1<|sr di),?_};refine !!!!⟨?_⟩;refine bD (λh=>?_) λh=>?_;have h:(k:Int)<(((ns.map D.int).length:Nat):Int):=zo h;have hk:k<ns.length:=by rw[zc]at h;lia
 exact !!{.int ns[k],eS<|by rw[zu];simp[hk],fo<|q _};exact fo<|q 0
inductive uF (ds:List D) (S:ax) (R:KD) (Z:KX):Prop where
 |mk (c:Int) (n:Nat) (h0:ds=[.int c,.int (n:Nat)]) (h1:n<=20) (h2:∀(xs:List Int) p,xs.length=n->(∀x∈xs,0<=x)->S p=none->R (.ref p) (S.set p<|.lst<|xs.map D.int))
theorem jW(T:Txt w K mg t):Ok P w base T.iL 1 uF:=by
 refine T.iL.F.dQ cT ?_;obtain⟨c,n,e,hn,q⟩;refine{_,(sc (bX (i:=2) cT.nd<|bV an)<|sc (bX (i:=3) cT.nd di)<|sc (nJ<|si (bH Yc hr.u (dv 0)<|bo js hr.u di di) (s1<|bX (i:=3) cT.nd<|bo xx hr.u (dv 0)<|bo js hr.u di di) s0)<|sc (nJ<|Y4 (twd<|twand (bH vm hr.u (dv 3) di)<|tw1<|bH Bu hr.u (cb bj T.aZ aM<|al 2 an)<|dv 1)<|sc (se<|bm zH zL zM bq (dv 2)<|ac (bo cn hr.u (dv 3)<|bo js hr.u di di) an)<|s1<|bX (i:=3) cT.nd<|bo fc hr.u (dv 3)<|bo js hr.u di di)<|sc (bX (i:=4) cT.nd<|bo ba hr.u (bo cn hr.u (dv 0)<|bo ba hr.u (bo js hr.u di di) di) di)<|sc (nJ<|BC (Hj T.dR<|ac (bo ba hr.u (dv 1) di) an) (gn (i:=5) cT.nd)<|sc (bX (i:=4) cT.nd<|bo cn hr.u (bo ba hr.u (bo ba hr.u (bo qS hr.u (dv 4)<|dv 4)<|bo qS hr.u di<|dv 4)<|dv 5)<|bo ba hr.u (bo js hr.u di di) di)<|s1<|si (bH vm hr.u (dv 5) di) (s1<|se<|bm zH zL zM bq (dv 2)<|ac (bo cn hr.u (bo qS hr.u (dv 4)<|bo ba hr.u (bo fc hr.u (dv 4) di) di)<|bo ba hr.u (bo js hr.u di di) di) an) s0)<|s1<|sr<|M0 (dv 2) o0<|o1<|dv 1),?_};refine{pN,λlf LB=>?_};refine{λaq S'=>∃r:Int,aq=[some<|.int c,some<|.int (n:Nat),some<|.ref lf,some<|.int r,none,none]/\S'=S.set lf (.lst []),?_,?_};refine{_,rfl,{by decide,by decide,by decide},_,rfl,bD (λh=>?_) λh=>fo {0,rfl,rfl}};exact{_,rfl,{by decide,by decide,by decide},fo !⟨rfl⟩};rintro aq S' ⟨r,rfl,rfl⟩;refine{λaq S'=>∃(r:Int)(xs:List Int),aq=[some<|.int c,some<|.int (n:Nat),some<|.ref lf,some<|.int r,none,none]/\S'=S.set lf (.lst<|xs.map D.int)/\xs.length<=n/\∀x∈xs,0<=x,?_,?_};refine{λm aq S'=>∃(r:Int)(xs:List Int),aq=[some<|.int c,some<|.int (n:Nat),some<|.ref lf,some<|.int r,none,none]/\S'=S.set lf (.lst<|xs.map D.int)/\xs.length+m=n/\∀x∈xs,0<=x,{n,r,[],rfl,rfl,Nat.zero_add _,λ_ h=>(nomatch h)},?_};rintro m aq S' ⟨r,xs,rfl,rfl,hl,hx⟩;have hS:(S.set lf<|.lst<|xs.map D.int) lf=some (.lst<|xs.map D.int):=aa;refine !!⟨bD (λh1=>!!⟨.inl {_,hS,_,rfl,_,rfl,bD (λh2=>?_) λh2=>?_}⟩) λh1=>bY<|fo {r,xs,rfl,rfl,by lia,hx}⟩;have h2:(((xs.map D.int).length:Nat):Int)<((n:Nat):Int):=zo h2;rw[zc]at h2;refine{_,rfl,{rfl,_,hS},_,rfl,{by decide,by decide,by decide},by decide,lf,_,_,rfl,rfl,hS,bg<|by rw[zc];lia,?_};refine{_,rfl,{by decide,by decide,by decide},{by decide,by trivial},m-1,by lia,_,xs++[r%10^(15:Int).toNat],rfl,?_,by rw[zp];show xs.length+1+_=_;lia,λx GZ=>?_};rw[b_,zE];rfl;rcases zO.mp GZ with h|h;exact hx x h;rw[zr.mp h];exact yc _ (by decide);exact fo {r,xs,rfl,rfl,by lia,hx};rintro aq S' ⟨r,xs,rfl,rfl,hl,hx⟩;have nb:∀z:Int,0<=z%1000000000000000009/\z%1000000000000000009<1000000000000000009:=λz=>{yc z<|by decide,zY z<|by decide};have e18:((10:Int)^(18:Int).toNat+9)=1000000000000000009:=by decide
 refine{_,rfl,{by decide,by decide,by decide},by decide,?_};refine{λaq S'=>∃(o4 o5:Option D)(ys:List Int),aq=[some<|.int c,some<|.int (n:Nat),some<|.ref lf,some<|.int r,o4,o5]/\S'=S.set lf (.lst<|ys.map D.int)/\n<=ys.length/\ys.length<=40/\∀x∈ys,0<=x,?_,?_};refine !{((n:Nat):Int)+3,rfl,by lia,by lia,?_};refine{λi aq S'=>∃(nu:Int)(o5:Option D)(ys:List Int),aq=[some<|.int c,some<|.int (n:Nat),some<|.ref lf,some<|.int r,some<|.int nu,o5]/\0<=nu/\nu<1000000000000048280/\S'=S.set lf (.lst<|ys.map D.int)/\ys.length=xs.length+(i-3)/\∀x∈ys,0<=x,?_,λ_ _ _ _=>trivial,?_,?_};have:=nb c;rw[e18];exact{_,none,xs,rfl,by lia,by lia,rfl,rfl,hx};rintro i d aq S' hd ⟨nu,o5,ys,rfl,n0,n1,rfl,hyl,hy⟩;have hd:(eI 0 (((n:Nat):Int)+3).toNat)[i]?=some d:=hd;obtain⟨hi,rfl⟩:=cI hd;refine !!{.inl {by lia,by lia},_,rfl,.inl {by decide,by decide},_,rfl,{by decide,by decide,by decide},by decide,?_};rw[e18];have b1:=nb<|nu*nu+48271*nu+(0+(i:Nat));generalize (nu*nu+48271*nu+(0+(i:Nat)))%1000000000000000009=nu2 at b1⊢;have hS:(S.set lf<|.lst<|ys.map D.int) lf=some (.lst<|ys.map D.int):=aa;refine !!⟨bD (λh=>?_) λh=>?_⟩;have h:(2:Int)<0+((i:Nat):Int):=zo h;refine{_,rfl,{rfl,_,hS},_,rfl,_,rfl,{by decide,by trivial},.inl {by lia,by lia},{by decide,by decide,by decide},by decide,lf,_,_,rfl,rfl,hS,bg<|by rw[zc];lia,?_};refine{nu2,_,ys++[nu2*(nu2/1009+69621)%(10^(18:Int).toNat+9)],rfl,by lia,by lia,?_,by rw[zp];show ys.length+1=_;lia,λx GZ=>?_};rw[b_,zE];rfl;rcases zO.mp GZ with h|h;exact hy x h;rw[zr.mp h];exact yc _ (by decide);have h:¬(2:Int)<0+((i:Nat):Int):=zN h;exact{nu2,_,ys,rfl,by lia,by lia,rfl,by lia,hy};rintro aq S' ⟨nu,o5,ys,rfl,_,_,rfl,hyl,hy⟩;rw[show({eI 0 (((n:Nat):Int)+3).toNat,λ_=>True}:sY).xs.length=(((n:Nat):Int)+3).toNat from cH]at hyl;exact fo {_,_,ys,rfl,rfl,by lia,by lia,hy};rintro aq S' ⟨o4,o5,ys,rfl,rfl,MU,Mq,hy⟩;refine !!!{_,aa,λp hp=>?_};have Zw:S p=none:=by rw[ag<|show p≠lf by rintro rfl;rw[aa]at hp;cases hp]at hp;exact hp
 have e:cW (ys.map D.int) none (some ((n:Nat):Int))=(ys.take n).map D.int:=by unfold cW;rw[HT.sIx_nat,HT.sIx_none,zc,Nat.min_eq_left MU,List.drop_zero,Nat.sub_zero,List.map_take]
 rw[e];refine{_,λb x hb=>?_,q (ys.take n) p (by rw[yf];lia) (λx GZ=>hy x<|List.mem_of_mem_take GZ) Zw};by_cases hbp:b=p;subst hbp;rw[aa]at hb⊢;exact hb;rw[ag hbp]at hb⊢;exact(Sub.new LB) _ _ hb
noncomputable abbrev KW:List Str:=["a","ab","b","abc","z","a1","b22","aa","m","m0","ba","zzzzzzzzz"]
noncomputable abbrev KU:List Str:=["","0","b7","zz","9"]
noncomputable abbrev KS:List Str:=KW.flatMap λa=>KU.map λb=>a++b
theorem lP:∀z∈KS,fz z=true/\z.cps.size<=12/\PyData.strOk z=true:=by trivial
theorem Vc:∀a∈KW,∀b∈KU,a.length+b.length<=1000:=by trivial
noncomputable abbrev uG:List Str:=["key","a","ab","at","up","mark","b","price"]
theorem H_:∀z∈uG,i5 z=true/\PyData.strOk z=true:=by trivial
noncomputable abbrev WDS:List Str:=["","a","ab","b","a b","B","~","=b"]
theorem P2:∀z∈WDS,oS z=true:=by trivial
noncomputable def jX:D->Bool|.av=>true|.int _=>true|.str z=>decide (z.cps.size<=40)&&PyData.strOk z|_=>false
def Vg(kind:Str)(d:D):Prop:=cF kind d=true/\jX d=true
theorem LC(h:oS z=true):jX (.str z)=true:=by unfold oS at h;rw[zR,yk]at h;show(decide (z.cps.size<=40)&&PyData.strOk z)=true;rw[h.1,zS];unfold PyData.strOk;rw[<-Array.all_toList,yk];intro c hc;have:=h.2 c hc;unfold Dy at this;simp only[zR,yo]at this⊢;lia
theorem P4{k:Str}(h:k ="number")(i:Int):Vg k (.int i):={by rw[h];rfl,rfl}
theorem P5{k:Str}(h:¬k ="number")(hz:oS z=true):Vg k (.str z):={by unfold cF;rw[if_neg h];exact hz,LC hz}
theorem P6(k:Str):Vg k .av:=⟨rfl,rfl⟩
inductive uH (ds:List D) (S:ax) (R:KD) (Z:KX):Prop where
 |mk (k:Str) (x:Int) (h0:ds=[.str k,.int x]) (h1:∀d,Vg k d->R d S)
theorem y6(T:Txt w K mg t):Ok P w base T.qg 1 uH:=by refine T.qg.F.dQ rH ?_;obtain⟨k,x,e,q⟩;refine{_,(sc (si (bH bP hr.u (bo cn hr.u (dv 1) di) di) (s1<|sr dn) s0)<|sc (si (bH bP hr.u (dv 0) ds) (sc (bX (i:=2) rH.nd<|bo qS hr.u (bo cn hr.u (bo fc hr.u (dv 1) di)<|bo js hr.u di di)<|bo js hr.u di di)<|s1<|sr<|BD<|ix hr.u (bV<|ac di<|ac di<|ac di<|ac di<|ac (EF di)<|ac (EF di)<|al 2<|ac (bo xx hr.u di<|dv 2) an)<|bo cn hr.u (bo fc hr.u (dv 1) di) di) s0)<|s1<|sr<|BD<|ix hr.u (bV<|ac ds<|ac ds<|ac ds<|ac ds<|ac ds<|ac ds<|ac ds<|ac ds an)<|bo cn hr.u (bo fc hr.u (dv 1) di) di),?_};refine !{by decide,_,rfl,bD (λ_=>fo<|q _<|P6 k) λ_=>!!⟨?_⟩};have i0:0<=x/5%8:=yc _ (by decide);have i1:x/5%8<8:=zY _ (by decide);refine bD (λh=>?_) λh=>?_;have h:k ="number":=zo h;have g0:0<=x/40%10^(15:Int).toNat:=yc _ (by decide);have g1:x/40%10^(15:Int).toNat<10^(15:Int).toNat:=zY _ (by decide);refine{_,rfl,{by decide,by trivial},{by decide,by decide,by decide},by decide,{by decide,by decide,by decide},.inl {Int.lt_of_lt_of_le (by decide) g0,Int.lt_trans g1<|by decide},?_};generalize x/40%10^(15:Int).toNat*10^(44:Int).toNat=gr;refine !!!!{BZ,λp hp=>!⟨{by decide,by trivial},by decide,dF i0 i1 hp λd hd=>?_⟩};have hd:d∈[D.int 0,.int 1,.int 2,.int 10,.int (-1),.int (-2),.int gr,.int<|0-gr]:=hd;simp only[zg,zG,or_false]at hd;rcases hd with rfl|rfl|rfl|rfl|rfl|rfl|rfl|rfl<;>exact fo (q _<|P4 h _);refine{BZ,λp hp=>!⟨{by decide,by trivial},by decide,dF i0 i1 hp λd hd=>?_⟩};have hd:d∈WDS.map D.str:=hd;obtain⟨z,hz,rfl⟩:=ze.mp hd;exact fo<|q _<|P5 (zN h)<|P2 z hz
inductive DF (ds:List D) (S:ax) (R:KD) (Z:KX):Prop where
 |mk (x:Int) (h0:ds=[.int x]) (h1:∀z∈KS,R (.str z) S)
theorem Ia(T:Txt w K mg t):Ok P w base T.Dw 1 DF:=by
 refine T.Dw.F.dQ yZ ?_;obtain⟨x,e,q⟩;refine{_,(sc (bX (i:=1) yZ.nd<|BD<|ix hr.u (bV<|ac ds<|ac ds<|ac ds<|ac ds<|ac ds<|ac ds<|ac ds<|ac ds<|ac ds<|ac ds<|ac ds<|ac ds an)<|bo cn hr.u (dv 0) di)<|s1<|sr<|bo ba hr.u (dv 1)<|BD<|ix hr.u (bV<|ac ds<|ac ds<|ac ds<|ac ds<|ac ds<|ac ds<|ac ds<|ac ds an)<|bo cn hr.u (bo fc hr.u (dv 0) di) di),?_};refine{M7,λp hp=>!{by decide,dF (yc _<|by decide) (zY _<|by decide) hp λd hd=>?_}};have hd:d∈KW.map D.str:=hd;obtain⟨a,ha,rfl⟩:=ze.mp hd;refine !{BZ,λp hp=>!⟨{by decide,by trivial},by decide,dF (yc _<|by decide) (zY _<|by decide) hp λd hd=>?_⟩};obtain⟨b,hb,rfl⟩:∃b∈KU,d=.str b:=by have hd:d∈[D.str "",.str "",.str "",.str "",.str "0",.str "b7",.str "zz",.str "9"]:=hd;simp only[zg,zG,or_false]at hd;rcases hd with h|h|h|h|h|h|h|h<;>exact{_,by simp,h}
 exact{sm<|Vc a ha b hb,fo<|q _<|List.mem_flatMap.mpr {a,ha,ze.mpr ⟨b,hb,rfl⟩}}
theorem dN:∀{l:List α}{m:List β},Paired rel l m->∀{i:Nat}{b:β},m[i]?=some b->∃a,l[i]?=some a/\rel a b|_,_,.nil,_,_,h=>by simp at h|_,_,.cons r t,0,b,h=>(by rw[List.getElem?_cons_zero]at h⊢;cases h;exact{_,rfl,r})|_,_,.cons r t,i+1,b,h=>by rw[List.getElem?_cons_succ]at h⊢;exact dN t h
theorem oj:∀{l:List α}{m:List β},m.length=l.length->(∀(i:Nat) a b,l[i]?=some a->m[i]?=some b->rel a b)->Paired rel l m|[],[],_,_=>.nil|a::l,b::m,h,k=>.cons (k 0 a b rfl rfl)<|oj (by simpa using h) λi x y e1 e2=>k (i+1) x y (by rw[List.getElem?_cons_succ];exact e1)<|by rw[List.getElem?_cons_succ];exact e2
def Wg(cs:List<|Str×Str)(ws:List D):Prop:=Paired (λ(c:Str×Str) v=>Vg c.2 v) cs ws
noncomputable def rT(tr j:Nat):Str:=uG.getD ((tr+3*j)%8) ""
theorem Ib:∀tr<8,∀i<9,((List.range i).map<|rT tr).Nodup:=by trivial
theorem P7(tr j:Nat):rT tr j∈uG:=by have:(tr+3*j)%8<8:=Nat.mod_lt _ (by decide);unfold rT;rw[zJ,zh<|show(tr+3*j)%8<uG.length from this];exact List.getElem_mem _
theorem P8(tr j:Nat):rT (tr%8) j=rT tr j:=by unfold rT;rw[show(tr%8+3*j)%8=(tr+3*j)%8 by lia]
def Cg(cs:List<|Str×Str):Prop:=Gd cs/\∀c∈cs,c.1∈uG
inductive oZ (ds:List D) (S:ax) (R:KD) (Z:KX):Prop where
 |mk (c:Int) (h0:ds=[.int c]) (h1:∀cs,Cg cs->R (.tup<|cs.map aC) S)
theorem Ca(T:Txt w K mg t):Ok P w base T.nZ 2 oZ:=by
 refine T.nZ.F.dQ c_ ?_;obtain⟨c,e,q⟩;refine{_,(sc (bX (i:=1) c_.nd<|aY T.iL (jW T) hr<|al 0<|ac di an)<|sc (bX (i:=2) c_.nd<|bV<|ac ds<|ac ds<|ac ds<|ac ds<|ac ds<|ac ds<|ac ds<|ac ds an)<|sc (bX (i:=3) c_.nd<|BD<|ix hr.u (bV<|ac di<|ac di<|ac di<|ac di<|ac di<|ac di<|ac di<|ac di an)<|bo cn hr.u (ix hr.u (dv 1) di) di)<|sc (bX (i:=4) c_.nd<|bV an)<|sc (nJ<|BC (Hj T.dR<|al 3 an) (gn (i:=5) c_.nd)<|sc (se<|bm zH zL zM bq (dv 4)<|ac (a_<|ac (ix hr.u (dv 2)<|bo cn hr.u (bo ba hr.u (ix hr.u (dv 1) di)<|bo qS hr.u di<|dv 5) di)<|ac (BD<|ix hr.u (bV<|ac ds<|ac ds an)<|bo cn hr.u (ix hr.u (dv 1) di) di) an) an)<|s1<|sls (dv 1) di<|bo fc hr.u (ix hr.u (dv 1) di) di)<|s1<|sr<|ct mn T.bL bp<|al 4 an),?_};refine !{c,3,rfl,by decide,λxs lx Na hx qH=>?_};obtain⟨x0,x1,x2,rfl⟩:∃x0 x1 x2,xs=[x0,x1,x2]:=by match xs,Na with|[a,b,c],_=>exact⟨a,b,c,rfl⟩
 obtain⟨tr,rfl⟩:=Int.eq_ofNat_of_zero_le<|hx x1 (by simp);refine{BZ,λln Uj=>?_};have Ew:((S.set lx<|.lst<|[x0,((tr:Nat):Int),x2].map D.int).set ln<|.lst<|uG.map D.str) lx=some (.lst<|[x0,((tr:Nat):Int),x2].map D.int):=(ag<|iu aa Uj).trans aa;have MU:((S.set lx<|.lst<|[x0,((tr:Nat):Int),x2].map D.int).set ln<|.lst<|uG.map D.str) ln=some (.lst<|uG.map D.str):=aa;have s1:=(Sub.new (c:=.lst<|[x0,((tr:Nat):Int),x2].map D.int) qH).trans<|.new (c:=.lst<|uG.map D.str) Uj;have nxn:lx≠ln:=iu aa Uj;rw[show[D.str "key",.str "a",.str "ab",.str "at",.str "up",.str "mark",.str "b",.str "price"]=uG.map D.str from rfl];generalize (S.set lx<|.lst<|[x0,((tr:Nat):Int),x2].map D.int).set ln (.lst<|uG.map D.str)=S1 at Ew MU s1⊢;refine{BZ,λp hp=>!{_,_,(Sub.new hp) _ _ Ew,rfl,by decide,dF (yc _<|by decide) (zY _<|by decide) hp λd hd=>?_}};obtain⟨m,rfl,hm⟩:∃m:Nat,d=.int m/\m<=8:=by have hd:d∈[D.int 1,.int 2,.int 3,.int 0,.int 2,.int 1,.int 8,.int 3]:=hd;simp only[zg,zG,or_false]at hd;rcases hd with h|h|h|h|h|h|h|h;exact{1,h,by decide};exact{2,h,by decide};exact{3,h,by decide};exact{0,h,by decide};exact{2,h,by decide};exact{1,h,by decide};exact{8,h,by decide};exact{3,h,by decide}
 refine{pN,λlf LB=>?_};have ado:S1 lx≠none:=by rw[Ew];nofun
 have Zx:lx≠lf:=iu Ew LB;have nnf:ln≠lf:=iu MU LB;have sz:=s1.trans<|Sub.new (c:=.lst []) LB;have Zy:S lf=none:=by cases e:S lf with|none=>rfl|some z=>have:=s1 _ _ e;rw[LB]at this;cases this
 refine{λaq S'=>∃(cs:List (Str×Str))(o6:Option D),aq=[some<|.int c,some<|.ref lx,some<|.ref ln,some<|.int (m:Nat),some<|.ref lf,o6]/\Cg cs/\S' lf=some (.lst<|cs.map aC)/\Sub S S',?_,?_};refine !{((m:Nat):Int),rfl,by lia,by lia,?_};refine{λi aq S'=>∃(cs:List (Str×Str))(y2:Int)(o6:Option D),aq=[some<|.int c,some<|.ref lx,some<|.ref ln,some<|.int (m:Nat),some<|.ref lf,o6]/\cs.map Prod.fst=(List.range i).map (rT tr)/\(∀c∈cs,c.2 ="number"\/c.2 ="word")/\S' lx=some (.lst<|[x0,((tr:Nat):Int),y2].map D.int)/\S' ln=some (.lst<|uG.map D.str)/\S' lf=some (.lst<|cs.map aC)/\Sub S S',{[],x2,none,rfl,rfl,λ_ h=>(nomatch h),(ag Zx).trans Ew,(ag nnf).trans MU,aa,sz},λ_ _ _ _=>trivial,?_,?_};rintro i d aq S' hd ⟨cs,y2,o6,rfl,hn,hk,hX,hN,hF,hs⟩;have hd:(eI 0 ((m:Nat):Int).toNat)[i]?=some d:=hd;obtain⟨hi,rfl⟩:=cI hd;have A5:cs.length=i:=by have:=congrArg List.length hn;simpa using this
 have enm:j9 (uG.map D.str) ((((tr:Nat):Int)+3*(0+((i:Nat):Int)))%8)=some (.str<|rT tr i):=by rw[show(((tr:Nat):Int)+3*(0+((i:Nat):Int)))%8=(((tr+3*i)%8:Nat):Int) by lia];have j_:(tr+3*i)%8<8:=Nat.mod_lt _ (by decide);refine eS ?_;rw[zu];unfold rT;rw[zJ,zh<|show(tr+3*i)%8<uG.length from j_];rfl
 refine{_,rfl,{rfl,_,hF},_,rfl,_,rfl,_,_,hX,rfl,_,rfl,.inl {by decide,by decide},by decide,_,_,hN,enm,ib,λp hp=>!{_,_,(Sub.new hp) _ _ hX,rfl,by decide,dF (yc _<|by decide) (zY _<|by decide) hp λd hd=>?_}};obtain⟨kd,rfl,Nb⟩:∃kd:Str,d=.str kd/\(kd ="number"\/kd ="word"):=by have hd:d∈[D.str "number",.str "word"]:=hd;simp only[zg,zG,or_false]at hd;rcases hd with h|h;exact{_,h,.inl rfl};exact{_,h,.inr rfl}
 refine{ib,lf,_,_,rfl,rfl,hF,bg<|by rw[zc];lia,?_};have Cb:(S'.set lf<|.lst<|cs.map aC++[.tup [.str<|rT tr i,.str kd]]) lx=some (.lst<|[x0,((tr:Nat):Int),y2].map D.int):=(ag Zx).trans hX;refine !{_,_,Cb,rfl,{by decide,by trivial},_,rfl,lx,_,2,2,rfl,rfl,Cb,rfl,?_};refine{cs++[(rT tr i,kd)],y2/2,_,rfl,?_,?_,aa,(ag nxn.symm).trans<|(ag nnf).trans hN,?_,λb x hb=>?_};rw[zE,hn,List.range_succ,zE];rfl;intro c hc;rcases zO.mp hc with h|h;exact hk c h;rw[zr.mp h];exact Nb;rw[ag Zx.symm,aa,zE];rfl;have hbx:b≠lx:=iu hb qH;rw[ag hbx,ag<|iu hb Zy];exact hs b x hb;rintro aq S' ⟨cs,y2,o6,rfl,hn,hk,hX,hN,hF,hs⟩;rw[show({eI 0 ((m:Nat):Int).toNat,λ_=>True}:sY).xs.length=((m:Nat):Int).toNat from cH,show((m:Nat):Int).toNat=m by lia]at hn;have A5:cs.length=m:=by have:=congrArg List.length hn;simpa using this
 have V0:∀c∈cs,c.1∈uG:=λc hc=>by have:c.1∈cs.map Prod.fst:=ze.mpr ⟨c,hc,rfl⟩;rw[hn]at this;obtain⟨j,_,e⟩:=ze.mp this;rw[<-e];exact P7 tr j
 have hnd:(cs.map Prod.fst).Nodup:=by rw[hn,zX λj _=>(P8 tr j).symm];exact Ib (tr%8) (Nat.mod_lt _<|by decide) m<|by lia
 exact fo {cs,_,rfl,{{by lia,hnd,λc hc=>{(H_ _<|V0 c hc).1,hk c hc}},V0},hF,hs};rintro aq S' ⟨cs,o6,rfl,hc,hF,hs⟩;exact !{_,_,rfl,.inl hF,S,hs,q cs hc}
inductive rV (ds:List D) (S:ax) (R:KD) (Z:KX):Prop where
 |mk (cs:List<|Str×Str) (l:Addr) (xs:List Int) (h0:ds=[.tup<|cs.map aC,.ref l]) (h1:Gd cs) (h2:S l=some (.lst<|xs.map D.int)) (h3:cs.length<=xs.length) (h4:∀ws,Wg cs ws->R (.tup ws) S)
theorem Fm(T:Txt w K mg t):Ok P w base T.rE 2 rV:=by
 refine T.rE.F.dQ y0 ?_;obtain⟨cs,l,xs,e,hg,hl,Na,q⟩;have h8:=hg.1;refine{_,(s1<|sr<|ct mn T.bL bp<|ac (vp (N:=["_law_k","_law_xs","_law_columns_here"]) (src:=[none,some 1,some 0]) (lU (ae BL) ["_law_columns_here","_law_xs"] rfl rfl<|by trivial) (Hj T.dR<|ac (cb bj T.aZ aM<|al 0 an) an) (qY<|show(["_law_k","_law_xs","_law_columns_here"]:List Str).Nodup by trivial) (aW rfl) aX (λ_ _ _ _ _=>ur) λ_ _ _ _ _=>(aY T.qg (y6 T) hr<|ac (ix hr.u (ix hr.u (dv 2)<|dv 0) di)<|ac (ix hr.u (dv 1)<|dv 0) an)) an),?_};refine !!!{by rw[zc];lia,by rw[zc];lia,?_};rw[zc];refine ic (λd v=>∃(j:Nat) (c:Str×Str),d=.int (0+(j:Nat))/\cs[j]?=some c/\Vg c.2 v) trivial (by show(eI 0 _).length<=_;rw[cH];lia) (λd hd Q hQ=>?_) λout hp p lO=>?_;obtain⟨j,hj⟩:=yB hd;have hj:(eI 0 ((cs.length:Nat):Int).toNat)[j]?=some d:=hj;obtain⟨hjn,rfl⟩:=cI hj;have Zz:j<cs.length:=by lia
 have ec:=zh Zz;generalize cs[j]=c at ec;have ex:(xs.map D.int)[j]?=some (.int<|xs[j]'(by lia)):=by rw[zu,zh<|show j<xs.length by lia];rfl
 generalize xs[j]'_=x at ex;have ej:(0:Int)+((j:Nat):Int)=((j:Nat):Int):=Int.zero_add _;refine !!{aC c,by rw[ej];exact eS<|by rw[zu,ec];rfl,_,rfl,_,rfl,_,rfl,_,_,hl,by rw[ej];exact eS ex,c.2,x,rfl,λv hv=>hQ v ⟨j,c,rfl,ec,hv⟩};have hw:Wg cs out:=by have hlen:=yS hp;rw[show({eI 0 ((cs.length:Nat):Int).toNat,λ_=>True}:sY).xs=eI 0 ((cs.length:Nat):Int).toNat from rfl,cH]at hlen;refine oj (by lia) λj c v ec ev=>?_;obtain⟨d,hd,j',c',e1,e2,hv⟩:=dN hp ev;have hd:(eI 0 ((cs.length:Nat):Int).toNat)[j]?=some d:=hd;obtain⟨_,e3⟩:=cI hd;rw[e3]at e1;have e1:(0:Int)+((j:Nat):Int)=0+((j':Nat):Int):=D.int.inj e1;obtain rfl:j=j':=(by lia);rw[ec]at e2;cases e2;exact hv
 exact{_,out,rfl,.inl aa,S,.new lO,q out hw}
abbrev Kn:=List<|Str×List D
noncomputable def gP(kn:Kn):List (Key×D):=kn.map λr=>(Sum.inr r.1,D.tup r.2)
noncomputable def iR(kn:Kn)(z:Str):Option (List D):=(kn.find? λr=>decide<|r.1=z).map (·.2)
structure KI(cs:List (Str×Str))(kn:Kn):Prop where
 nd:(kn.map (·.1)).Nodup
 ok:∀r∈kn,r.1∈KS/\Wg cs r.2
theorem bN:iR (r::kn) k=if r.1=k then some r.2 else iR kn k:=by unfold iR;rw[yb];by_cases h:r.1=k;rw[zA h,if_pos h];rfl;rw[zw h,if_neg h]
theorem rW(kn:Kn)(k:Str):bW (gP kn) (.inr k)=(iR kn k).map D.tup:=by induction kn with|nil=>rfl|cons r kn ih=>rw[bN];unfold bW gP at *;rw[zQ,yb];by_cases h:r.1=k;have:decide ((Sum.inr r.1:Key)=.inr k)=true:=zA (by rw[h]);dsimp only;rw[this,if_pos h];rfl;have:decide ((Sum.inr r.1:Key)=.inr k)=false:=zw λe=>h<|yL e;dsimp only;rw[this,if_neg h];exact ih
theorem mT(h:iR kn k=some ws):(k,ws)∈kn:=by induction kn with|nil=>(cases h)|cons r kn ih=>rw[bN]at h;by_cases hk:r.1=k;rw[if_pos hk]at h;cases h;rw[<-hk];exact zy;rw[if_neg hk]at h;exact zj _<|ih h
theorem jY(h:k∈kn.map (·.1)):∃ws,iR kn k=some ws:=by induction kn with|nil=>(cases h)|cons r kn ih=>rw[bN];by_cases hk:r.1=k;exact{r.2,if_pos hk};rw[if_neg hk];rw[zQ]at h;rcases zg.mp h with e|h;exact absurd e.symm hk;exact ih h
theorem sub_len[DecidableEq α]:∀{l m:List α},l.Nodup->(∀x∈l,x∈m)->l.length<=m.length|[],m,_,_=>yh _|a::l,m,nd,h=>by obtain⟨n1,n2⟩:=yt.mp nd;have h1:=sub_len (m:=m.erase a) n2 λx hx=>(List.mem_erase_of_ne λe=>n1<|by rw[<-e];exact hx).mpr<|h x<|zj _ hx;have h2:=List.length_erase_of_mem<|h a zy;have h3:0<m.length:=List.length_pos_of_mem<|h a zy;rw[zD];omega
theorem KI.len(h:KI cs kn):kn.length<=60:=by
 have:=sub_len h.nd (m:=KS) λx hx=>by obtain⟨r,hr,rfl⟩:=ze.mp hx;exact(h.ok r hr).1
 rw[zc]at this;exact zK this<|by trivial
noncomputable def pO(kn:Kn)(z:Str)(ws:List D):Kn:=if (iR kn z).isSome then kn.map λr=>if r.1=z then (r.1,ws) else r else kn++[(z,ws)]
noncomputable def wz(kn:Kn)(z:Str):Kn:=kn.filter λr=>decide<|r.1≠z
theorem Ie(kn:Kn)(z:Str)(ws:List D):dput (gP kn) (.inr z) (.tup ws)=gP (pO kn z ws):=by
 unfold dput pO;have e:((gP kn).any λkv=>decide<|kv.1=.inr z)=(iR kn z).isSome:=by induction kn with|nil=>rfl|cons r kn ih=>unfold gP at *;rw[zQ,yP,ih,bN];by_cases h:r.1=z;rw[if_pos h,zA<|by rw[h],Bool.true_or];rfl;rw[if_neg h,zw λe=>h<|yL e,yQ]
 rw[e];split;unfold gP;rw[zB,zB];refine zX λr _=>?_;dsimp only[Function.comp];by_cases h:r.1=z;rw[if_pos h,if_pos<|by rw[h]];rw[if_neg h,if_neg λe=>h<|yL e];unfold gP;rw[zE];rfl
theorem P9(kn:Kn)(z:Str):xA (gP kn) (.inr z)=gP (wz kn z):=by unfold xA wz gP;rw[List.filter_map];congr 1;refine List.filter_congr λr _=>?_;dsimp only[Function.comp];rw[yH];exact{λh e=>h<|by rw[e],λh e=>h<|yL e}
theorem LD:iR (pO kn z ws) k=if k=z then some ws else iR kn k:=by
 unfold pO;by_cases hs:(iR kn z).isSome=true;rw[if_pos hs];by_cases hk:k=z;subst hk;rw[if_pos rfl];induction kn with|nil=>(cases hs)|cons r rs ih=>rw[zQ,bN];by_cases h:r.1=k;rw[if_pos h,if_pos h];rw[if_neg h,if_neg h];rw[bN,if_neg h]at hs;exact ih hs
 rw[if_neg hk];clear hs;induction kn with|nil=>rfl|cons r rs ih=>rw[zQ,bN,bN,ih];by_cases h:r.1=z;rw[if_pos h,if_neg<|show ¬r.1=k from λe=>hk<|e.symm.trans h,if_neg<|show ¬r.1=k from λe=>hk<|e.symm.trans h];rw[if_neg h]
 rw[if_neg hs];have hn:iR kn z=none:=by cases e:iR kn z<;>simp_all
 clear hs;induction kn with|nil=>rw[List.nil_append,bN];by_cases hk:k=z;rw[if_pos hk,if_pos hk.symm];rw[if_neg hk,if_neg λe=>hk e.symm]|cons r rs ih=>rw[bN]at hn;by_cases h:r.1=z;rw[if_pos h]at hn;cases hn;rw[if_neg h]at hn;rw[List.cons_append,bN,bN,ih hn];by_cases h2:r.1=k;rw[if_pos h2,if_pos h2,if_neg<|show ¬k=z from λe=>h<|h2.trans e];rw[if_neg h2,if_neg h2]
theorem LF:iR (wz kn z) k=if k=z then none else iR kn k:=by unfold wz;induction kn with|nil=>(split<;>rfl)|cons r kn ih=>rw[List.filter_cons,bN];by_cases h:r.1=z;rw[if_neg<|by simp[h],ih];by_cases hk:k=z;rw[if_pos hk,if_pos hk];rw[if_neg hk,if_neg hk,if_neg<|show ¬r.1=k from λe=>hk<|e.symm.trans h];rw[if_pos<|by simp[h],bN,ih];by_cases hk:k=z;rw[if_pos hk,if_pos hk,if_neg<|show ¬r.1=k from λe=>h<|e.trans hk];rw[if_neg hk,if_neg hk]
theorem KI.put(h:KI cs kn)(hz:z∈KS)(hw:Wg cs ws):KI cs (pO kn z ws):=by
 unfold pO;split;refine{?_,λr hr=>?_};have:(kn.map λr=>if r.1=z then (r.1,ws) else r).map (·.1)=kn.map (·.1):=by rw[zB];exact zX λr _=>by dsimp only[Function.comp];split<;>rfl
 rw[this];exact h.nd;obtain⟨r0,nh,e⟩:=ze.mp hr;by_cases q:r0.1=z;rw[if_pos q]at e;subst e;exact{(h.ok r0 nh).1,hw};rw[if_neg q]at e;subst e;exact h.ok r0 nh;rename_i hs;refine{?_,λr hr=>?_};rw[zE];refine l_ h.nd λm=>hs ?_;obtain⟨Vd,e⟩:=jY m;show(iR kn z).isSome=true;rw[show iR kn z=some Vd from e];rfl;rcases zO.mp hr with hr|hr;exact h.ok r hr;rw[zr.mp hr];exact⟨hz,hw⟩
theorem KI.del(h:KI cs kn)(z:Str):KI cs (wz kn z):={(List.Sublist.map _ List.filter_sublist).nodup h.nd,λr hr=>h.ok r (List.mem_filter.mp hr).1}
def GD(ks:List Str)(cs:List<|Str×Str)(kn:Kn)(d:D):Prop:=(∃z ws,z∈ks/\Wg cs ws/\iR kn z=none/\d=.tup [.str "put",.str z,.tup ws])\/(∃z ws,z∈KS/\Wg cs ws/\(iR kn z).isSome=true/\d=.tup [.str "change",.str z,.tup ws])\/∃z,z∈KS/\(iR kn z).isSome=true/\d=.tup [.str "take",.str z]
def Ly(S:ax)(n:Nat)(d:D):Prop:=∃p,Dp S d p/\p.canLay0=true/\p.depth<=n
theorem Ly.all:∀{ds:List D},(∀d∈ds,Ly S n d)->∃ps:List PyData,DpAll S ds ps/\PyData.canLayAll0 ps=true/\PyData.depthAll ps<=n/\ps.length=ds.length|[],_=>{[],by simp only[DpAll],rfl,yh _,rfl}|d::ds,h=>by obtain⟨p,h1,h2,h3⟩:=h d zy;obtain⟨ps,k1,k2,k3,k4⟩:=Ly.all λx hx=>h x<|zj _ hx;refine{p::ps,by simp only[DpAll];exact⟨p,ps,rfl,h1,k1⟩,by simp only[PyData.canLayAll0,h2,k2,Bool.and_self],by simp only[PyData.depthAll];lia,by rw[zD,zD,k4]}
theorem Ly.tup{S:ax}{n:Nat}{ds:List D}(h:∀d∈ds,Ly S n d):Ly S (n+1) (.tup ds):=by obtain⟨ps,k1,k2,k3,_⟩:=Ly.all h;exact{.tuple ps,by simp only[Dp];exact⟨ps,rfl,k1⟩,by simp only[PyData.canLay0];exact k2,by simp only[PyData.depth];lia}
theorem Ly.str(h:PyData.strOk z=true):Ly S 0 (.str z):={.str z,by simp only[Dp],by simp only[PyData.canLay0];exact h,by simp only[PyData.depth];lia}
theorem Ly.le(h:Ly S n d)(l:n<=m):Ly S m d:=by obtain⟨p,a,b,c⟩:=h;exact{p,a,b,zK c l}
theorem Ly.av:Ly S 0 .av:={.none,by simp only[Dp],by simp only[PyData.canLay0],by simp only[PyData.depth];lia}
theorem Ly.plain(h:jX d=true):Ly S 0 d:=by cases d with|av=>exact Ly.av|int i=>exact{.int i,by simp only[Dp],by simp only[PyData.canLay0],by simp only[PyData.depth];lia}|str z=>have h:(decide (z.cps.size<=40)&&PyData.strOk z)=true:=h;rw[zR]at h;exact Ly.str h.2|_=>cases h
theorem Ly.lst{S:ax}{n:Nat}{a:Addr}{ds:List D}(e:S a=some (.lst ds))(h:∀d∈ds,Ly S n d):∃p,Dl S (.ref a) p/\p.canLay0=true/\p.depth<=n+1/\∀b,S b=some (.lst ds)->Dl S (.ref b) p:=by obtain⟨ps,k1,k2,k3,_⟩:=Ly.all h;exact{.list ps,⟨ds,ps,e,rfl,k1⟩,by simp only[PyData.canLay0];exact k2,by simp only[PyData.depth];lia,λb hb=>⟨ds,ps,hb,rfl,k1⟩}
theorem rX{S:ax}{a b:Addr}{ds:List D}{R:KD}{neg:Bool}(e1:S a=some (.lst ds))(e2:S b=some (.lst ds))(h:∀d∈ds,Ly S 60 d)(q:R (.bl<|!neg) S):KR neg (.ref a) (.ref b) S R:=by
 obtain⟨p,k1,k2,k3,k4⟩:=Ly.lst e1 h;have e:(if neg then !PyData.eqv p p else PyData.eqv p p)=!neg:=by rw[SeqAt.eqv_refl p k2];cases neg<;>rfl
 exact{p,p,k1,k4 b e2,k2,k2,.inl<|by lia,by rw[e];exact q}
theorem Ig(ps:List PyData):PyData.eqv (.tuple ps) (.tuple [])=ps.isEmpty:=by cases ps<;>simp[PyData.eqv,PyData.eqvAll]
theorem Wg.all(h:Wg cs ws):∀d∈ws,jX d=true:=by unfold Wg at h;induction h with|nil=>exact λ_ h=>(nomatch h)|cons r t ih=>intro d hd;rcases zg.mp hd with e|hd;rw[e];exact r.2;exact ih d hd
theorem Wg.ly{cs:List<|Str×Str}{ws:List D}(h:Wg cs ws){S:ax} : Ly S 1 (.tup ws):=Ly.tup λd hd=>Ly.plain<|h.all d hd
def Mo(sp:gY):gY:=λds S R Z=>∃R0 Z0,sp ds S R0 Z0/\(∀d S',R0 d S'->R d S')/\∀C S',Z0 C S'->Z C S'
theorem P_(F:bK P w K mg base (fj P w mg) k f fd ps<|qW K sp):bK P w K mg base (fj P w mg) k f fd ps (qW K<|Mo sp):=F.imp <| by rintro vs H Q E ⟨ds,S,R,Z,v,hS,⟨R0,Z0,h,h1,h2⟩,hR,hZ⟩;exact{ds,S,R0,Z0,v,hS,h,λd S' u H' r=>hR d S' u H'<|h1 _ _ r,λC S' H' z=>hZ C S' H'<|h2 _ _ z}
abbrev Nc:=jV
abbrev y7:=fV
abbrev Ih:=iP
def ZA(kn:Kn)(d:D)(qj:Kn):Prop:=(∃(n:Str) (z:Str) (ws:List D),(n ="put"\/n ="change")/\d=.tup [.str n,.str z,.tup ws]/\qj=pO kn z ws)\/∃z,(iR kn z).isSome=true/\d=.tup [.str "take",.str z]/\qj=wz kn z
inductive Cc (t:gm) (ds:List D) (S:ax) (R:KD) (Z:KX):Prop where
 |mk (a fs) (h0:S a=some (.ins t.aj fs)) (h1:fs.map Prod.fst=(["columns","deeds","runs"]:List Str)) (h2:((∃k v,ds=[.ref a,.tup [.str "put",k,v]]/\Nc t [.ref a,k,v] S R Z)\/(∃k v,ds=[.ref a,.tup [.str "change",k,v]]/\y7 t [.ref a,k,v] S R Z)\/∃k,ds=[.ref a,.tup [.str "take",k]]/\Ih t [.ref a,k] S R Z))
theorem lk0:∀{fs:List (Str×D)},m∉fs.map Prod.fst->fs.lookup m=none|[],_=>rfl| (a,b)::fs,h=>by rw[zQ,zg]at h;rw[zP,show(m==a)=false from beq_false_of_ne λe=>h<|.inl e];exact lk0 λq=>h<|.inr q
theorem ZC{fs:List<|Str×D}(h:fs.map Prod.fst=(["columns","deeds","runs"]:List Str)){m:Str}(hm:m∉(["columns","deeds","runs"]:List Str)):fs.lookup m=none:=lk0<|by rw[h];exact hm
def Nd(t:gm):gY:=λds S R Z=>Cc t ds S (λ_=>R .av) Z
theorem LG(T:Txt w K mg t):Ok P w base T.vX 7 (Nd t):=by have jZ:AE P w mg base T.fE 6 (Mo<|Nc t):=P_<|PZ T;have fX:AE P w mg base T.cZ 6 (Mo<|y7 t):=P_<|Fl T;have iS:AE P w mg base T.eM 6 (Mo<|Ih t):=P_<|Lz T;refine T.vX.F.ok Fd (λds S R Z ⟨_,_,_,_,h⟩=>by rcases h with⟨_,_,e,_⟩|⟨_,_,e,_⟩|⟨_,e,_⟩<;>rw[e]<;>rfl) λeV A outer s H E ds S R Z hr ⟨a,fs,ha,hf,h⟩=>?_;rcases h with⟨k,v,e,h⟩|⟨k,v,e,h⟩|⟨k,e,h⟩;subst e;refine{_,(s1<|si (bH bP hr.u (ix hr.u (dv 1) di) ds) (s1<|se<|vG (dv 0) T.ah T.fE jZ hr<|ac (ix hr.u (dv 1) di)<|ac (ix hr.u (dv 1) di) an)<|s1<|si (bH bP hr.u (ix hr.u (dv 1) di) ds) (s1<|se<|vG (dv 0) T.ah T.cZ fX hr<|ac (ix hr.u (dv 1) di)<|ac (ix hr.u (dv 1) di) an)<|s1<|se<|vG (dv 0) T.ah T.eM iS hr<|ac (ix hr.u (dv 1) di) an),?_};refine !!!⟨?_⟩;refine bD (λ_=>?_) λh=>absurd h (by decide);exact !{a,_,rfl,ha,ZC hf<|by decide,_,rfl,_,rfl,_,rfl,_,rfl,_,Z,h,λd S' r=>fo r,λC S' z=>fo z};subst e;refine{_,(s1<|si (bH bP hr.u (ix hr.u (dv 1) di) ds) (s1<|se<|vG (dv 0) T.ah T.fE jZ hr<|ac (ix hr.u (dv 1) di)<|ac (ix hr.u (dv 1) di) an)<|s1<|si (bH bP hr.u (ix hr.u (dv 1) di) ds) (s1<|se<|vG (dv 0) T.ah T.cZ fX hr<|ac (ix hr.u (dv 1) di)<|ac (ix hr.u (dv 1) di) an)<|s1<|se<|vG (dv 0) T.ah T.eM iS hr<|ac (ix hr.u (dv 1) di) an),?_};refine !!!⟨?_⟩;refine bD (λh=>absurd h<|by decide) λ_=>?_;refine !!!⟨?_⟩;refine bD (λ_=>?_) λh=>absurd h (by decide);exact !{a,_,rfl,ha,ZC hf<|by decide,_,rfl,_,rfl,_,rfl,_,rfl,_,Z,h,λd S' r=>fo r,λC S' z=>fo z};subst e;refine{_,(s1<|si (bH bP hr.u (ix hr.u (dv 1) di) ds) (s1<|se<|vG (dv 0) T.ah T.fE jZ hr<|ac (ix hr.u (dv 1) di)<|ac (ix hr.u (dv 1) di) an)<|s1<|si (bH bP hr.u (ix hr.u (dv 1) di) ds) (s1<|se<|vG (dv 0) T.ah T.cZ fX hr<|ac (ix hr.u (dv 1) di)<|ac (ix hr.u (dv 1) di) an)<|s1<|se<|vG (dv 0) T.ah T.eM iS hr<|ac (ix hr.u (dv 1) di) an),?_};refine !!!⟨?_⟩;refine bD (λh=>absurd h<|by decide) λ_=>?_;refine !!!⟨?_⟩;refine bD (λh=>absurd h<|by decide) λ_=>?_;exact !{a,_,rfl,ha,ZC hf<|by decide,_,rfl,_,rfl,_,Z,h,λd S' r=>fo r,λC S' z=>fo z}
theorem kd_sub(h:Sub S S')(hk:O5 S d k):O5 S' d k:=by cases d with|ref a=>(rcases hk with⟨rfl,ds,e⟩|⟨rfl,ds,e⟩;exact .inl {rfl,ds,h _ _ e};exact .inr {rfl,ds,h _ _ e})|_=>exact hk
theorem Gt.sub(h:Sub S S')(g:Gt S d):Gt S' d:=by obtain⟨k,hk⟩:=g.1;exact{{k,kd_sub h hk},g.2}
theorem Ii(h:l.length=1):∃a,l=[a]:=by cases l with|nil=>(cases h)|cons a l=>exact{a,by rw[List.eq_nil_of_length_eq_zero<|yW h]}
theorem Ij(h:l.length=2):∃a b,l=[a,b]:=by cases l with|nil=>(cases h)|cons a l=>obtain⟨b,rfl⟩:=Ii<|yW h;exact⟨a,b,rfl⟩
theorem ZD(h:l.length=3):∃a b c,l=[a,b,c]:=by cases l with|nil=>(cases h)|cons a l=>obtain⟨b,c,rfl⟩:=Ij<|yW h;exact⟨a,b,c,rfl⟩
def Qd(S:ax):Nat->D->Prop|0,d=>Gt S d|n+1,d=>Gt S d/\∀ws,d=.tup ws->ws.length<=1000/\∀v∈ws,Qd S n v
theorem Qd.gt(h:Qd S n d):Gt S d:=by cases n<;>first|exact h|exact h.1
theorem Qd.in(h:Qd S (n+1)<|.tup ws):ws.length<=1000/\∀v∈ws,Qd S n v:=h.2 ws rfl
theorem Qd.sub(b:Sub S S'):∀{n:Nat}{d:D},Qd S n d->Qd S' n d:=by intro n;induction n with|zero=>exact λh=>Gt.sub b h|succ n ih=>exact λh=>{h.1.sub b,λws e=>{(h.2 ws e).1,λv hv=>ih<|(h.2 ws e).2 v hv}}
def QA(S:ax)(d:D):Prop:=∀n,Qd S n d
theorem QA.sub(b:Sub S S')(h:QA S d):QA S' d:=λn=>(h n).sub b
theorem QA.in(h:QA S<|.tup ws)(hv:v∈ws):QA S v:=λn=>(h<|n+1).in.2 v hv
theorem dZ(hl:ws.length<=1000)(h:∀v∈ws,QA S v):QA S (.tup ws):=λn=>by have g:Gt S (.tup ws):={{.tup,rfl},λ_=>nofun};cases n with|zero=>exact g|succ n=>exact{g,λVd e=>by cases e;exact{hl,λv hv=>h v hv n}}
theorem uI(g:Gt S d)(n:∀ws,d≠.tup ws):QA S d:=λk=>by cases k with|zero=>exact g|succ k=>exact{g,λws e=>absurd e<|n ws}
noncomputable def p3(p:Str×Str×Str):D:=.tup [.str p.1,.str p.2.1,.str p.2.2]
noncomputable def eZ(z:Str):Bool:=decide (z ="up")||decide (z ="down")
noncomputable def tL(z:Str):Bool:=decide (z ="first")||decide (z ="last")
theorem Ik(z a b:Str)(x y:V):(([(a,x),(b,y)]:List (Str×V)).lookup z).isSome=(decide (z=a)||decide (z=b)):=by rw[zP,zP];by_cases h:z=a;rw[show(z==a)=true by simp[h],zA h];rfl;rw[show(z==a)=false by simp[h],zw h];by_cases h2:z=b;rw[show(z==b)=true by simp[h2],zA h2];rfl;rw[show(z==b)=false by simp[h2],zw h2];rfl
noncomputable def y8(cs:List<|Str×Str)(p:Str×Str×Str):Bool:=decide (p.1∈cs.map Prod.fst)&&(eZ p.2.1&&tL p.2.2)
noncomputable def Il(cs:List<|Str×Str)(ps:List<|Str×Str×Str)(wy:Str):Bool:=decide (ps.length<=8)&&(ps.all (y8 cs)&&(decide ((ps.map Prod.fst).Nodup)&&eZ wy))
noncomputable def uj(cs:List<|Str×Str):D->D|.str z=>(match cs.find? (λc=>decide<|c.1=z) with|some c=>.str c.2|none=>.av)|_=>.av
theorem Cf(hg:Gd cs)(h:(z,k)∈cs):uj cs (.str z)=.str k:=by unfold uj;cases e:cs.find? (λc=>decide<|c.1=z) with|none=>exact absurd (zA rfl) (List.find?_eq_none.mp e _ h)|some c=>have h0:decide (c.1=z)=true:=List.find?_some (p:=λc:Str×Str=>decide<|c.1=z) e;have h1:c.1=z:=zo h0;have:=ko hg.2.1 (List.mem_of_find?_eq_some e) h h1;subst this;dsimp only;rw[e]
theorem ql(h:z∉cs.map Prod.fst):uj cs (.str z)=.av:=by unfold uj;dsimp only;rw[List.find?_eq_none.mpr λc hc e=>h<|ze.mpr {c,hc,zo e}]
theorem LH(hg:Gd cs)(z:Str):ay (uj cs<|.str z)=!decide (z∈cs.map Prod.fst):=by by_cases h:z∈cs.map Prod.fst;obtain⟨c,hc,rfl⟩:=ze.mp h;rw[Cf hg (k:=c.2) hc,zA h];rfl;rw[ql h,zw h];rfl
noncomputable def cu(cs:List<|Str×Str):D->Bool|.tup [n,w,e]=>(!ay (uj cs n))&&(ofStr eZ w&&ofStr tL e)|_=>false
noncomputable def Rp:D->Str|.tup (.str z::_)=>z|_=>""
noncomputable def jt(cs:List<|Str×Str):D->Bool|.tup [.tup ps,w]=>decide (ps.length<=8)&&(ps.all (cu cs)&&(decide ((ps.map Rp).Nodup)&&ofStr eZ w))|_=>false
theorem Im(hg:Gd cs)(p:Str×Str×Str):cu cs (p3 p)=y8 cs p:=by show((!ay (uj cs<|.str p.1))&&(eZ p.2.1&&tL p.2.2))=_;rw[LH hg,Bool.not_not];rfl
theorem Io(h:cu cs d=true):∃p,d=p3 p:=by
 unfold cu at h;split at h;rename_i n w e;simp only[zR]at h;obtain⟨h1,h2,h3⟩:=h;obtain⟨z1,rfl⟩:∃z,n=.str z:=by cases n<;>first|exact{_,rfl}|cases h1
 obtain⟨z2,rfl⟩:∃z,w=.str z:=by cases w<;>first|exact{_,rfl}|cases h2
 obtain⟨z3,rfl⟩:∃z,e=.str z:=by cases e<;>first|exact{_,rfl}|cases h3
 exact{(z1,z2,z3),rfl};cases h
theorem Iq:∀{ps:List D},ps.all (cu cs)=true->∃qs:List (Str×Str×Str),ps=qs.map p3:=by intro ps;induction ps with|nil=>exact λ_=>{[],rfl}|cons p ps ih=>intro h;rw[List.all_cons,zR]at h;obtain⟨q,rfl⟩:=Io h.1;obtain⟨qs,rfl⟩:=ih h.2;exact{q::qs,rfl}
theorem Nf(qs:List<|Str×Str×Str):(qs.map p3).map Rp=qs.map Prod.fst:=by rw[zB];rfl
theorem Fn(hg:Gd cs)(ps:List<|Str×Str×Str)(wy:Str):jt cs (.tup [.tup<|ps.map p3,.str wy])=Il cs ps wy:=by show(decide ((ps.map p3).length<=8)&&((ps.map p3).all (cu cs)&&(decide (((ps.map p3).map Rp).Nodup)&&eZ wy)))=_;rw[zc,Nf,List.all_map,show(cu cs ∘ p3)=y8 cs from funext λp=>Im hg p];rfl
theorem iT(l:List<|Str×D)(z:Str)(h:bW (fe l) (.inr z)=some d):∃p∈l,p.1=z/\d=p.2:=by
 have all:∀(l:List (Str×D))(c:List (Key×D)),bW (l.foldl (λc p=>dput c (.inr p.1) p.2) c) (.inr z)=some d->(∃p∈l,p.1=z/\d=p.2)\/bW c (.inr z)=some d:=by intro l;induction l with|nil=>intro c h;exact .inr h|cons p l ih=>intro c h;rcases ih _ h with⟨q,hq,e⟩|h;exact .inl {q,zj _ hq,e};rw[xK]at h;by_cases e:(.inr z:Key)=.inr p.1;rw[if_pos e]at h;exact .inl {p,zy,(yL e).symm,(zV h).symm};rw[if_neg e]at h;exact .inr h
 rcases all l [] h with h|h;exact h;cases h
def Pok(p:Str×Str×Str):Prop:=p.1.cps.size<=1000/\p.2.1.cps.size<=1000/\p.2.2.cps.size<=1000
theorem uJ(T:Txt w K mg t):Ok P w base T.vT 1 (wm<|ofStr eZ):=by refine T.vT.F.vF E_ ?_;rintro _ _ _ _ _ _ ds S R Z hr ⟨d,e,⟨⟨k,hk⟩,hz⟩,q⟩;subst e;refine{_,(s1<|sr<|qR (cb dh T.ak ai<|al 0<|ac (sH T.oN jo) an)<|G8<|YJ T.x6 (dv 0)<|dg (v:=.ref t.jy) T.vM rfl λ_=>dG _),?_};refine !{_,_,_,_,rfl,gq,hk,_,rfl,?_};rcases lN hk with⟨z,rfl,h0⟩|⟨h0,h1⟩;rw[h0];refine bU !{z,rfl,rfl,?_};rw[Ik];exact fo q;rw[h1]at q;rw[h0];exact bY<|fo q
theorem Fp(T:Txt w K mg t):Ok P w base T.BQ 1 (wm<|ofStr tL):=by refine T.BQ.F.vF Fc ?_;rintro _ _ _ _ _ _ ds S R Z hr ⟨d,e,⟨⟨k,hk⟩,hz⟩,q⟩;subst e;refine{_,(s1<|sr<|qR (cb dh T.ak ai<|al 0<|ac (sH T.oN jo) an)<|G8<|YJ T.x8 (dv 0)<|dg (v:=.ref t.jz) T.vN rfl λ_=>dG _),?_};refine !{_,_,_,_,rfl,gq,hk,_,rfl,?_};rcases lN hk with⟨z,rfl,h0⟩|⟨h0,h1⟩;rw[h0];refine bU !{z,rfl,rfl,?_};rw[Ik];exact fo q;rw[h1]at q;rw[h0];exact bY<|fo q
def Qa:gY:=λds S R _=>∃cs d,ds=[.tup<|cs.map aC,d]/\Gd cs/\Gt S d/\R (uj cs d) S
theorem gQ(T:Txt w K mg t):Ok P w base T.fP 3 Qa:=by
 refine T.fP.F.vF tm ?_;rintro _ _ _ _ _ _ ds S R Z hr ⟨cs,d,e,hg,hz,q⟩;subst e;refine{_,(sc (si (cG<|tv<|aY T.qf (rN T) hr<|al 1 an) (s1<|sr dn) s0)<|s1<|sr<|mg1 hr.u (ct BE T.BP u9<|al 0 an)<|dv 1),?_};refine !{d,rfl,hz,_,rfl,?_};refine bD (λh=>?_) λh=>?_;have h:ofStr i5 d=false:=nt h;have e:uj cs d=.av:=by cases d with|str z=>(refine ql λm=>?_;obtain⟨c,hc,rfl⟩:=ze.mp m;have h:i5 c.1=false:=h;rw[(hg.2.2 c hc).1]at h;cases h)|_=>rfl
 rw[e]at q;exact fo q;have h:ofStr i5 d=true:=nf h;cases d with|str z=>(have ek:cs.map aC=(cs.map λc=>(c.1,D.str c.2)).map xJ:=(by rw[zB];rfl);refine !{(cs.map λc=>(c.1,D.str c.2)),by rw[ek],λp hp=>{p,_,rfl,aa,_,rfl,_,.inr z,aa,rfl,S,.new hp,?_}};have h1:=nK (cs.map λc=>(c.1,D.str c.2)) z;cases q3:bW (fe<|cs.map λc=>(c.1,D.str c.2)) (.inr z) with|none=>(rw[q3]at h1;rw[ql λm=>?_]at q;exact q;obtain⟨c,hc,e⟩:=ze.mp m;have:(cs.map λc=>(c.1,D.str c.2)).any (λp=>decide<|p.1=z)=true:=List.any_eq_true.mpr {_,ze.mpr ⟨c,hc,rfl⟩,zA e};rw[this]at h1;cases h1)|some d=>obtain⟨p,hp,e1,rfl⟩:=iT _ _ q3;obtain⟨c,hc,rfl⟩:=ze.mp hp;have e1:c.1=z:=e1;rw[Cf hg (k:=c.2)<|by rw[<-e1];exact hc]at q;exact q)|_=>cases h
theorem Ci(T:Txt w K mg t):Ok P w base T.vV 4 (λds S R _=>∃cs d,ds=[.tup<|cs.map aC,d]/\Gd cs/\Qd S 1 d/\R (.bl<|cu cs d) S):=by
 refine T.vV.F.vF BX ?_;rintro _ _ _ _ _ _ ds S R Z hr ⟨cs,d,e,hg,hp,q⟩;subst e;obtain⟨k,hk⟩:=hp.1.1;refine{_,(sc (si (twd<|twor (cG<|tv<|cb dh T.ak ai<|al 1<|ac (sH T.bL bp) an)<|tw1<|bH jv hr.u (cb bj T.aZ aM<|al 1 an) di) (s1<|sr db) s0)<|s1<|sr<|qR (cm nE hr.u (aY T.fP (gQ T) hr<|al 0<|ac (ix hr.u (dv 1) di) an) dn)<|qR (aY T.vT (uJ T) hr<|ac (ix hr.u (dv 1) di) an)<|G8<|aY T.BQ (Fp T) hr<|ac (ix hr.u (dv 1) di) an),?_};refine !{_,_,_,_,rfl,bJ,hk,_,rfl,?_};rcases iN hk with⟨ws,rfl,h0⟩|⟨h0,h1⟩;rw[h0];refine bY !!!⟨?_⟩;refine bD (λh=>?_) λh=>?_;have h:¬((ws.length:Nat):Int)=3:=zN<|nt h;have e:cu cs (.tup ws)=false:=by unfold cu;split;rename_i e;cases e;exact absurd rfl h;rfl
 rw[e]at q;exact fo q;have h:((ws.length:Nat):Int)=3:=zo<|nf h;obtain⟨a,b,c,rfl⟩:∃a b c,ws=[a,b,c]:=by exact ZD<|by omega
 have gi:=hp.in.2;have q:R (.bl<|(!ay (uj cs a))&&(ofStr eZ b&&ofStr tL c)) S:=q;refine !!!{cs,a,rfl,hg,gi a<|by simp,_,rfl,?_};refine bD (λh=>?_) λh=>?_;have h:(!ay (uj cs a))=true:=h;rw[h,zS]at q;refine !!{b,rfl,gi b<|by simp,_,rfl,?_};refine bD (λh2=>?_) λh2=>?_;rw[h2,zS]at q;exact !!{c,rfl,gi c<|by simp,fo q};rw[h2,zW]at q;exact fo q;have h:(!ay (uj cs a))=false:=h;rw[h,zW]at q;exact fo q;rw[h0];have e:cu cs d=false:=by unfold cu;split;exact absurd rfl<|h1 _;rfl
 rw[e]at q;exact bU<|fo q
def ZE(t:gm):gY:=λds S R Z=>∃cs d,ds=[.tup<|cs.map aC,d]/\Gd cs/\Qd S 3 d/\(jt cs d=true->R .av S)/\(jt cs d=false->Z t.aE S)
theorem j0(T:Txt w K mg t):Ok P w base T.gz 5 (ZE t):=by
 refine T.gz.F.vF fS ?_;rintro _ _ _ _ _ _ ds S R Z hr ⟨cs,d,e,hg,hq,q1,q2⟩;subst e;obtain⟨k,hk⟩:=hq.1.1;refine{_,(sc (si (twd<|twor (cG<|tv<|cb dh T.ak ai<|al 1<|ac (sH T.bL bp) an)<|tw1<|bH jv hr.u (cb bj T.aZ aM<|al 1 an) di) (s1<|qX ⟨T.cL⟩ T.dI<|ac ds an) s0)<|sc (bX (i:=2) fS.nd<|ix hr.u (dv 1) di)<|sc (si (twd<|twor (cG<|tv<|cb dh T.ak ai<|al 2<|ac (sH T.bL bp) an)<|tw1<|bH vm hr.u (cb bj T.aZ aM<|al 2 an)<|dg (v:=.int 8) T.jB {_,rfl} λ_=>aQ _) (s1<|qX ⟨T.cL⟩ T.dI<|ac ds an) s0)<|sc (si (cG<|tv<|cb kU T.kX gI<|ac (vp (N:=["part","columns"]) (src:=[none,some 0]) (lU (ae kW) ["columns","order","parts","names"] rfl rfl<|by trivial) (K1<|dv 2) (qY<|show(["part","columns"]:List Str).Nodup by trivial) (aW rfl) aX (λ_ _ _ _ _=>ur) λ_ _ _ _ _=>(aY T.vV (Ci T) hr<|al 1<|al 0 an)) an) (s1<|qX ⟨T.cL⟩ T.dI<|ac ds an) s0)<|sc (Pd (i:=3) (N:=["part"]) (src:=[none]) fS.nd (lU (ae kW) ["columns","order","parts","names"] rfl rfl<|by trivial) (K1<|dv 2) (qY<|show(["part"]:List Str).Nodup by trivial) (aW rfl) aX (λ_ _ _ _ _=>ur) λ_ _ _ _ _=>(ix hr.u (dv 0) di))<|sc (si (bH jv hr.u (lse (dv 3) T.aZ T.M5)<|cb bj T.aZ aM<|al 3 an) (s1<|qX ⟨T.cL⟩ T.dI<|ac ds an) s0)<|s1<|si (cG<|tv<|aY T.vT (uJ T) hr<|ac (ix hr.u (dv 1) di) an) (s1<|qX ⟨T.cL⟩ T.dI<|ac ds an) s0),?_};refine !{_,_,_,_,rfl,bJ,hk,_,rfl,?_};rcases iN hk with⟨ws,rfl,h0⟩|⟨h0,h1⟩;rotate_left;rw[h0];refine bU {gN,fo<|q2 ?_};unfold jt;split;exact absurd rfl<|h1 _;rfl;rw[h0];refine bY !!!⟨?_⟩;refine bD (λh=>?_) λh=>?_;have h:¬((ws.length:Nat):Int)=2:=zN<|nt h;refine{gN,fo<|q2 ?_};unfold jt;split;rename_i e;cases e;exact absurd rfl h;rfl;have h:((ws.length:Nat):Int)=2:=zo<|nf h;obtain⟨x,y,rfl⟩:∃a b,ws=[a,b]:=by exact Ij<|by omega
 have gx:=hq.in.2 x (by simp);have gy:=(hq.in.2 y<|by simp).gt;obtain⟨k2,cK⟩:=gx.gt.1;refine !!!{_,_,_,_,rfl,bJ,cK,_,rfl,?_};rcases iN cK with⟨ps,rfl,h2⟩|⟨h2,h3⟩;rotate_left;rw[h2];refine bU {gN,fo<|q2 ?_};unfold jt;split;rename_i e;cases e;exact absurd rfl<|h3 _;rfl;rw[h2];refine bY !!!⟨?_⟩;have q1:(decide (ps.length<=8)&&(ps.all (cu cs)&&(decide ((ps.map Rp).Nodup)&&ofStr eZ y)))=true->R .av S:=q1;have q2:(decide (ps.length<=8)&&(ps.all (cu cs)&&(decide ((ps.map Rp).Nodup)&&ofStr eZ y)))=false->Z t.aE S:=q2;refine bD (λh=>?_) λh=>?_;have h:(8:Int)<((ps.length:Nat):Int):=zo h;exact{gN,fo<|q2<|by rw[zw<|by omega];rfl};have h:¬(8:Int)<((ps.length:Nat):Int):=zN h;have h8:ps.length<=8:=by omega
 rw[zA h8,zS]at q1 q2;refine !{_,.inl rfl,?_};refine comp_map (λd=>.bl<|cu cs d) trivial (by show ps.length<=_;omega) (λd hd Q hQ=>?_) λp lO=>?_;exact !!{cs,d,rfl,hg,gx.in.2 d hd,hQ};have eo:ps.map (λd=>D.bl<|cu cs d)=(ps.map<|cu cs).map D.bl:=by rw[zB];rfl
 rw[show({ps,λ_=>True}:sY).xs=ps from rfl,eo];refine{.ref p,ps.map<|cu cs,rfl,aa,_,rfl,?_};rw[show(ps.map<|cu cs).all id=ps.all (cu cs) from all_map];refine bD (λha=>?_) λha=>?_;have ha:=nt ha;exact{gN,S,.new lO,q2<|by rw[ha];rfl};have ha:=nf ha;rw[ha,zS]at q1 q2;obtain⟨qs,rfl⟩:=Iq ha;rw[Nf]at q1 q2;rw[zc]at h8;refine !{_,.inl rfl,?_};refine comp_map (λd=>match d with|.tup (x::_)=>x|_=>.av) trivial (by show(qs.map p3).length<=_;rw[zc];omega) (λd hd Q hQ=>?_) λp2 lT=>?_;obtain⟨p,Rq,rfl⟩:=ze.mp hd;exact !!⟨hQ⟩;have e3:(qs.map p3).map (λd=>match d with|.tup (x::_)=>x|_=>.av)=(qs.map Prod.fst).map D.str:=by rw[zB,zB];rfl
 rw[show({qs.map p3,λ_=>True}:sY).xs=qs.map p3 from rfl,e3];have sb:=(Sub.new (c:=.lst<|((qs.map p3).map<|cu cs).map D.bl) lO).trans<|.new (c:=.lst<|(qs.map Prod.fst).map D.str) lT;have Vb:((S.set p<|.lst<|((qs.map p3).map<|cu cs).map D.bl).set p2<|.lst<|(qs.map Prod.fst).map D.str) p2=some (.lst<|(qs.map Prod.fst).map D.str):=aa;generalize (S.set p<|.lst<|((qs.map p3).map<|cu cs).map D.bl).set p2 (.lst<|(qs.map Prod.fst).map D.str)=S2 at sb Vb⊢;refine !{qs.map Prod.fst,Vb,by rw[zc];omega,_,rfl,_,rfl,.inl {_,Vb,_,rfl,?_}};have e4:decide ((((iY<|qs.map Prod.fst).length:Nat):Int)=((((qs.map Prod.fst).map D.str).length:Nat):Int))=decide ((qs.map Prod.fst).Nodup):=by rw[yH,<-ui,zc];omega
 refine bD (λhn=>?_) λhn=>?_;have hn:(!decide ((((iY<|qs.map Prod.fst).length:Nat):Int)=((((qs.map Prod.fst).map D.str).length:Nat):Int)))=true:=hn;rw[e4]at hn;exact{gN,S,sb,q2<|by rw[nt hn];rfl};have hn:(!decide ((((iY<|qs.map Prod.fst).length:Nat):Int)=((((qs.map Prod.fst).map D.str).length:Nat):Int)))=false:=hn;rw[e4]at hn;rw[nf hn,zS]at q1 q2;refine !!{y,rfl,gy.sub sb,_,rfl,?_};refine bD (λhw=>?_) λhw=>?_;exact{gN,S,sb,q2<|nt hw};exact{S,sb,q1<|nf hw}
def Cj(o:Str)(c:Str×Str)(v:D):Prop:=o ="is"\/(v≠.av/\(o ="below"\/o ="above"\/(o ="begins"/\c.2 ="word")))
def Lf(cs:List<|Str×Str)(d:D):Prop:=d=.tup [.str "every"]\/(∃ks:List Str,d=.tup [.str "key",.tup<|ks.map .str]/\ks.length<=8/\∀k∈ks,k∈KS)\/∃(o:Str) (c:Str×Str) (v:D),c∈cs/\Vg c.2 v/\Cj o c v/\d=.tup [.str o,.str c.1,v]
def Sg(cs:List<|Str×Str):Nat->D->Prop|0,_=>False|n+1,d=>Lf cs d\/(∃e,d=.tup [.str "not",e]/\Sg cs n e)\/∃(o:Str) (ds:List D),(o ="and"\/o ="or")/\d=.tup [.str o,.tup ds]/\ds.length<=8/\∀e∈ds,Sg cs n e
noncomputable def inS:D->List D|.tup [.str o,.tup ds]=>(if o ="not" then[.tup ds] else if o ="and"\/o ="or" then ds else[])|.tup [.str o,e]=>(if o ="not" then[e] else[])|_=>[]
noncomputable def szS:Nat->D->Nat|0,_=>0|n+1,d=>((inS d).map<|szS n).sum+1
def Sq(cs:List<|Str×Str)(d:D):Prop:=Sg cs 7 d/\szS 7 d<=200
theorem Ng(h:Vg k v):∀ws,v≠.tup ws:=by have h:=h.2;rintro ws rfl;cases h
noncomputable def Qb:D->Bool|.tup es=>decide (es.length<=8)|_=>false
noncomputable def Ir(cs:List<|Str×Str)(o:Str)(x v:D):Bool:=match uj cs x with|.str k=>cF k v&&(decide (o ="is")||((!(decide (o ="begins") && !decide (k ="word"))) && !ay v))|_=>false
theorem o_(T:Txt w K mg t):Ok P w base T.dW 1 (wm Qb):=by
 refine T.dW.F.vF mH ?_;rintro _ _ _ _ _ _ ds S R Z hr ⟨d,e,⟨⟨k,hk⟩,hz⟩,q⟩;subst e;refine{_,(s1<|sr<|qR (cb dh T.ak ai<|al 0<|ac (sH T.bL bp) an)<|G8<|cm ju hr.u (cb bj T.aZ aM<|al 0 an)<|dg (v:=.int 8) T.lG {_,rfl} λ_=>aQ _),?_};refine !{_,_,_,_,rfl,bJ,hk,_,rfl,?_};rcases iN hk with⟨es,rfl,h0⟩|⟨h0,h1⟩;rw[h0];refine bU !!⟨?_⟩;have e1:decide (((es.length:Nat):Int)<=8)=decide (es.length<=8):=by rw[yH];omega
 show Fo S (R<|.bl<|decide<|((es.length:Nat):Int)<=8);rw[e1];exact fo q;have e:Qb d=false:=by cases d with|tup es=>exact absurd rfl (h1 _)|_=>rfl
 rw[e]at q;rw[h0];exact bY<|fo q
theorem LI(cs:List<|Str×Str)(x:D):(∃k,uj cs x=.str k)\/uj cs x=.av:=by cases x with|str z=>(unfold uj;dsimp only;cases cs.find? (λc=>decide<|c.1=z) with|some c=>exact .inl {_,rfl}|none=>exact .inr rfl)|_=>exact .inr rfl
def Nh:gY:=λds S R _=>∃cs o x v,ds=[.tup<|cs.map aC,.tup [.str o,x,v]]/\Gd cs/\Gt S x/\Gt S v/\R (.bl<|Ir cs o x v) S
theorem rY(T:Txt w K mg t):Ok P w base T.jM 4 Nh:=by refine T.jM.F.vF jN ?_;rintro _ _ _ _ _ _ ds S R Z hr ⟨cs,o,x,v,e,hg,hx,hv,q⟩;subst e;refine{_,(sc (bX (i:=2) jN.nd<|aY T.fP (gQ T) hr<|al 0<|ac (ix hr.u (dv 1) di) an)<|sc (si (twd<|twor (bH kE hr.u (dv 2) dn)<|tw1<|cG<|tv<|aY T.jK (jR T) hr<|al 2<|ac (ix hr.u (dv 1) di) an) (s1<|sr db) s0)<|sc (si (bH bP hr.u (ix hr.u (dv 1) di) ds) (s1<|sr db) s0)<|sc (si (twd<|twand (bH bP hr.u (ix hr.u (dv 1) di) ds)<|tw1<|bH jv hr.u (dv 2) ds) (s1<|sr db) s0)<|s1<|sr<|cm nE hr.u (ix hr.u (dv 1) di) dn),?_};refine !!!{cs,x,rfl,hg,hx,?_};unfold Ir at q;rcases LI cs x with⟨k,e⟩|e;rw[e]at q⊢;have q:R (.bl<|cF k v&&(decide (o ="is")||((!(decide (o ="begins") && !decide (k ="word"))) && !ay v))) S:=q;refine !!⟨bY !!!{k,v,rfl,hv,_,rfl,?_}⟩;refine bD (λh=>?_) λh=>?_;rw[nt h,zW]at q;exact fo q;rw[nf h,zS]at q;refine !!!⟨?_⟩;refine bD (λh1=>?_) λh1=>?_;have h1:decide (o ="is")=true:=h1;rw[h1,Bool.true_or]at q;exact fo q;have h1:decide (o ="is")=false:=h1;rw[h1,yQ]at q;refine !!!⟨?_⟩;refine bD (λh2=>?_) λh2=>?_;have h2:decide (o ="begins")=true:=h2;rw[h2,zS]at q;refine !!⟨?_⟩;refine bD (λh3=>?_) λh3=>?_;have h3:(!decide (k ="word"))=true:=h3;rw[h3]at q;exact fo q;have h3:(!decide (k ="word"))=false:=h3;rw[h3]at q;exact !!⟨fo q⟩;have h2:decide (o ="begins")=false:=h2;rw[h2]at q;exact !!⟨fo q⟩;rw[e]at q⊢;exact !!⟨bU<|fo q⟩
noncomputable def Ni:D->Bool|.tup ks=>ks.all (ofStr fz)|_=>false
noncomputable def LJ(cs:List<|Str×Str)(o:Str):List D->Bool|[x,v]=>Ir cs o x v|_=>false
noncomputable def LK:List D->Bool|[k]=>Qb k&&Ni k|_=>false
noncomputable def Wt:List D->Bool|[x]=>Qb x|_=>false
theorem Iu(n:ws.length≠2):LJ cs o ws=false:=by unfold LJ;split;exact absurd rfl n;rfl
theorem Iv(n:ws.length≠1):LK ws=false:=by unfold LK;split;exact absurd rfl n;rfl
theorem DH(n:ws.length≠1):Wt ws=false:=by unfold Wt;split;exact absurd rfl n;rfl
noncomputable def jg(cs:List<|Str×Str):D->Bool|.tup (.str o::ws)=>(if o ="every" then decide (ws.length=0) else if o ="is"\/o ="below"\/o ="above"\/o ="begins" then LJ cs o ws else if o ="key" then LK ws else if o ="not" then decide (ws.length=1) else if o ="and"\/o ="or" then Wt ws else false)|_=>false
noncomputable def subs:D->List D|.tup [.str o,x]=>(if o ="not" then[x] else if o ="and"\/o ="or" then (match x with|.tup es=>es|_=>[]) else[])|_=>[]
theorem rZ(o:Str):o ="every"\/(o ="is"\/o ="below"\/o ="above"\/o ="begins")\/o ="key"\/o ="not"\/(o ="and"\/o ="or")\/(o≠"every"/\¬(o ="is"\/o ="below"\/o ="above"\/o ="begins")/\o≠"key"/\o≠"not"/\¬(o ="and"\/o ="or")):=by by_cases h1:o ="every";exact .inl h1;by_cases h2:o ="is"\/o ="below"\/o ="above"\/o ="begins";exact .inr<|.inl h2;by_cases h3:o ="key";exact .inr<|.inr<|.inl h3;by_cases h4:o ="not";exact .inr<|.inr<|.inr<|.inl h4;by_cases h5:o ="and"\/o ="or";exact .inr<|.inr<|.inr<|.inr<|.inl h5;exact .inr<|.inr<|.inr<|.inr<|.inr ⟨h1,h2,h3,h4,h5⟩
theorem r9(cs:List<|Str×Str)(ws:List D):jg cs (.tup<|.str "every":: ws)=decide (ws.length=0):=by unfold jg;dsimp only;rw[if_pos rfl]
theorem Iw{o:Str}(h:o ="is"\/o ="below"\/o ="above"\/o ="begins")(ws:List D):jg cs (.tup<|.str o::ws)=LJ cs o ws:=by unfold jg;dsimp only;rw[if_neg<|by rcases h with rfl|rfl|rfl|rfl<;>decide,if_pos h]
theorem Qc(cs:List<|Str×Str)(ws:List D):jg cs (.tup<|.str "key":: ws)=LK ws:=by unfold jg;dsimp only;rw[if_neg<|by decide,if_neg<|by decide,if_pos rfl]
theorem Ck(cs:List<|Str×Str)(ws:List D):jg cs (.tup<|.str "not":: ws)=decide (ws.length=1):=by unfold jg;dsimp only;rw[if_neg<|by decide,if_neg<|by decide,if_neg<|by decide,if_pos rfl]
theorem Iy{o:Str}(h:o ="and"\/o ="or")(ws:List D):jg cs (.tup<|.str o::ws)=Wt ws:=by unfold jg;dsimp only;rw[if_neg<|by rcases h with rfl|rfl<;>decide,if_neg<|by rcases h with rfl|rfl<;>decide,if_neg<|by rcases h with rfl|rfl<;>decide,if_neg<|by rcases h with rfl|rfl<;>decide,if_pos h]
theorem Co{o:Str}(h:o≠"every"/\¬(o ="is"\/o ="below"\/o ="above"\/o ="begins")/\o≠"key"/\o≠"not"/\¬(o ="and"\/o ="or"))(ws:List D):jg cs (.tup<|.str o::ws)=false:=by unfold jg;dsimp only;rw[if_neg h.1,if_neg h.2.1,if_neg h.2.2.1,if_neg h.2.2.2.1,if_neg h.2.2.2.2]
theorem Iz{o:Str}(h:o≠"every"/\¬(o ="is"\/o ="below"\/o ="above"\/o ="begins")/\o≠"key"/\o≠"not"/\¬(o ="and"\/o ="or")): ([("every",.int 1),("is",.int 3),("below",.int 3),("above",.int 3),("begins",.int 3),("key",.int 2),("not",.int 2),("and",.int 2),("or",.int 2)]:List (Str×V)).lookup o=none:=by obtain⟨h1,h2,h3,h4,h5⟩:=h;simp only[not_or]at h2 h5;have f:∀{a:Str},o≠a->(o==a)=false:=λh=>beq_false_of_ne h;rw[zP,f h1,zP,f h2.1,zP,f h2.2.1,zP,f h2.2.2.1,zP,f h2.2.2.2,zP,f h3,zP,f h4,zP,f h5.1,zP,f h5.2];rfl
theorem Qe(q:R (.bl true) S):KR true .av (.int i) S R:={.none,.int i,by simp only[Dl,Dp],by simp only[Dl,Dp],by simp only[PyData.canLay0],by simp only[PyData.canLay0],.inl<|by simp only[PyData.depth];lia,q}
theorem Ve(h:R (.int es.length) S):MH S R (.tup es):=h
theorem wV(x:D)(ws:List D):j9 (x::ws) 0=some x:=by unfold j9 Gq;rw[if_pos<|Int.le_refl 0];show(if (0:Int)<(((x::ws).length:Nat):Int) then some (0:Int).toNat else none).bind _=_;rw[if_pos<|by rw[zD];lia];rfl
theorem wA(T:Txt w K mg t):Ok P w base T.nX 5 (λds S R _=>∃cs d,ds=[.tup<|cs.map aC,d]/\Gd cs/\Qd S 2 d/\R (.bl<|jg cs d) S):=by
 refine T.nX.F.vF wb ?_;rintro _ _ _ _ _ _ ds S R Z hr ⟨cs,d,e,hg,hq,q⟩;subst e;obtain⟨k,hk⟩:=hq.gt.1;refine{_,(sc (si (twd<|twor (cG<|tv<|cb dh T.ak ai<|al 1<|ac (sH T.bL bp) an)<|twor (bH bP hr.u (cb bj T.aZ aM<|al 1 an) di)<|tw1<|cG<|tv<|cb dh T.ak ai<|ac (ix hr.u (dv 1) di)<|ac (sH T.oN jo) an) (s1<|sr db) s0)<|sc (si (bH jv hr.u (mgk T.E7 (by decide) (gK T.BN)<|ix hr.u (dv 1) di)<|cb bj T.aZ aM<|al 1 an) (s1<|sr db) s0)<|sc (si (bH Bx hr.u (ix hr.u (dv 1) di)<|a_<|ac ds<|ac ds<|ac ds<|ac ds an) (s1<|sr<|aY T.jM (rY T) hr<|al 0<|al 1 an) s0)<|sc (si (bH bP hr.u (ix hr.u (dv 1) di) ds) (s1<|sr<|qR (aY T.dW (o_ T) hr<|ac (ix hr.u (dv 1) di) an)<|G8<|cb kU T.kX gI<|ac (vp (N:=["key"]) (src:=[none]) (lU (ae xV) ["columns","thing"] rfl rfl<|by trivial) (K1<|ix hr.u (dv 1) di) (qY<|show(["key"]:List Str).Nodup by trivial) (aW rfl) aX (λ_ _ _ _ _=>ur) λ_ _ _ _ _=>(aY T.lI (ie T) hr<|al 0 an)) an) s0)<|sc (si (bH Bx hr.u (ix hr.u (dv 1) di)<|a_<|ac ds<|ac ds an) (s1<|sr<|aY T.dW (o_ T) hr<|ac (ix hr.u (dv 1) di) an) s0)<|s1<|sr db),?_};refine !{_,_,_,_,rfl,bJ,hk,_,rfl,?_};rcases iN hk with⟨ws,rfl,h0⟩|⟨h0,h1⟩;rotate_left;rw[h0];have e:jg cs d=false:=by unfold jg;split;exact absurd rfl<|h1 _;rfl
 rw[e]at q;exact bU<|fo q;rw[h0];refine bY !!!⟨?_⟩;cases ws with|nil=>exact rS rfl (fo q)|cons x ws =>
 have e0:decide ((((x::ws).length:Nat):Int)=0)=false:=zw (by rw[zD];lia);refine fW e0 ?_;have gi:=hq.in.2;obtain⟨k2,cK⟩:=(gi x<|by simp).gt.1;refine !{_,wV x ws,_,_,_,_,rfl,gq,cK,_,rfl,?_};rcases lN cK with⟨o,rfl,h2⟩|⟨h2,h3⟩;rotate_left;rw[h2];have e:jg cs (.tup<|x::ws)=false:=by unfold jg;split;rename_i e;cases e;have:=h3 λ_=>true;cases this;rfl
 rw[e]at q;exact bU<|fo q;rw[h2];refine bY ?_;have n4:=Zl;have n2:=ib;rcases rZ o with rfl|h|rfl|rfl|h|h;rw[r9]at q;refine !{_,wV _ ws,_,rfl,_,rfl,_,rfl,_,rfl,?_};refine bD (λh=>?_) λh=>?_;have h:¬(1:Int)=(((D.str "every":: ws).length:Nat):Int):=zN<|nt h;rw[zD]at h;rw[zw<|by lia]at q;exact fo q;have h:(1:Int)=(((D.str "every":: ws).length:Nat):Int):=zo<|nf h;rw[zD]at h;rw[zA<|by lia]at q;exact !{_,wV _ ws,n4,rfl,rfl,_,rfl,fW (by trivial) !{_,wV _ ws,_,rfl,fW (by trivial) !{_,wV _ ws,n2,rfl,rfl,_,rfl,fW (by trivial)<|fo q}}};rw[Iw h]at q;have fin:∀{x v:D},ws=[x,v]->Nh [.tup<|cs.map aC,.tup [.str o,x,v]] S (λd S'=>Fo S'<|R d) (λC S'=>Fo S'<|Z C):=by rintro x v rfl;exact{cs,o,x,v,rfl,hg,(gi x<|by simp).gt,(gi v<|by simp).gt,fo q}
 have bad:ws.length≠2->R (.bl false) S:=λn=>by rw[Iu n]at q;exact q
 rcases h with rfl|rfl|rfl|rfl<;>exact !{_,wV _ ws,_,rfl,_,rfl,_,rfl,_,rfl,bD (λh=>fo<|bad λz=>zN (nt h)<|by rw[zD,z];rfl) λh=>(by obtain⟨x,v,rfl⟩:=Ij (l:=ws) (by have h:=zo<|nf h;rw[zD]at h;lia);exact !!{n4,rfl,rfl,_,rfl,rS (by trivial) !!⟨fin rfl⟩})};rw[Qc]at q;refine !{_,wV _ ws,_,rfl,_,rfl,_,rfl,_,rfl,bD (λh=>?_) λh=>?_};have h:¬(2:Int)=(((D.str "key":: ws).length:Nat):Int):=zN<|nt h;rw[zD]at h;rw[Iv<|by lia]at q;exact fo q;have h:(2:Int)=(((D.str "key":: ws).length:Nat):Int):=zo<|nf h;rw[zD]at h;obtain⟨x,rfl⟩:=Ii (l:=ws) (by lia);have q:R (.bl<|Qb x&&Ni x) S:=q;have gx:=gi x (by simp);refine !!{n4,rfl,rfl,_,rfl,fW (by trivial) !!!⟨rS (by trivial) ?_⟩};refine !!{x,rfl,gx.gt,_,rfl,bD (λh=>?_) λh=>?_};rw[h,zS]at q;obtain⟨ks,rfl⟩:∃ks,x=.tup ks:=by cases x<;>first|exact{_,rfl}|cases h
 have h8:ks.length<=8:=zo h;refine !!{_,.inl rfl,?_};refine comp_map (λd=>.bl<|ofStr fz d) trivial (by show ks.length<=1000;lia) (λd hd Q hQ=>?_) λp hp=>?_;exact !{d,rfl,gx.in.2 d hd,hQ};have e2:ks.map (λd=>D.bl<|ofStr fz d)=(ks.map<|ofStr fz).map D.bl:=by rw[zB];rfl
 refine{.ref p,ks.map<|ofStr fz,rfl,?_,S,.new hp,?_};show(S.set p<|.lst<|ks.map _) p=_;rw[aa,e2];rw[all_map];exact q;rw[h,zW]at q;exact fo q;rw[Ck]at q;refine !{_,wV _ ws,_,rfl,_,rfl,_,rfl,_,rfl,?_};refine bD (λh=>?_) λh=>?_;have h:¬(2:Int)=(((D.str "not":: ws).length:Nat):Int):=zN<|nt h;rw[zD]at h;rw[zw<|by lia]at q;exact fo q;have h:(2:Int)=(((D.str "not":: ws).length:Nat):Int):=zo<|nf h;rw[zD]at h;rw[zA<|by lia]at q;exact !{_,wV _ ws,n4,rfl,rfl,_,rfl,fW (by trivial) !{_,wV _ ws,_,rfl,fW (by trivial) !{_,wV _ ws,n2,rfl,rfl,_,rfl,fW (by trivial)<|fo q}}};rw[Iy h]at q;have fin:∀{x:D},ws=[x]->wm Qb [x] S (λd S'=>Fo S'<|R d) (λC S'=>Fo S'<|Z C):=by rintro x rfl;exact{x,rfl,(gi x<|by simp).gt,fo q}
 have bad:ws.length≠1->R (.bl false) S:=λn=>by rw[DH n]at q;exact q
 rcases h with rfl|rfl<;>exact !{_,wV _ ws,_,rfl,_,rfl,_,rfl,_,rfl,bD (λh=>fo<|bad λz=>zN (nt h)<|by rw[zD,z];rfl) λh=>(by obtain⟨x,rfl⟩:=Ii (l:=ws) (by have h:=zo<|nf h;rw[zD]at h;lia);exact !!{n4,rfl,rfl,_,rfl,fW (by trivial) !!!⟨fW (by trivial) !!{n2,rfl,rfl,_,rfl,rS (by trivial) !!⟨fin rfl⟩}⟩})};rw[Co h]at q;refine !{_,wV _ ws,_,rfl,?_};rw[Iz h];exact !!⟨Ve<|Qe !⟨bU<|fo q⟩⟩
theorem y9{cs:List<|Str×Str}{e:D}(h:jg cs e=true):(∃(o:Str) (ws:List D),e=.tup (.str o::ws)/\o≠"not"/\¬(o ="and"\/o ="or")/\subs e=[])\/(∃x,e=.tup [.str "not",x])\/∃(o:Str) (es:List D),(o ="and"\/o ="or")/\e=.tup [.str o,.tup es]/\es.length<=8:=by
 have hh:=h;unfold jg at hh;split at hh;rename_i o ws;clear hh;have sb:o≠"not"->¬(o ="and"\/o ="or")->subs (.tup<|.str o::ws)=[]:=λn1 n2=>by unfold subs;split;rename_i e;cases e;rw[if_neg n1,if_neg n2];rfl
 rcases rZ o with rfl|ho|rfl|rfl|ho|ho;exact .inl {_,ws,rfl,by decide,by decide,sb (by decide)<|by decide};have n1:o≠"not":=by rcases ho with rfl|rfl|rfl|rfl<;>decide
 have n2:¬(o ="and"\/o ="or"):=by rcases ho with rfl|rfl|rfl|rfl<;>decide
 exact .inl {o,ws,rfl,n1,n2,sb n1 n2};exact .inl {_,ws,rfl,by decide,by decide,sb (by decide)<|by decide};rw[Ck]at h;obtain⟨x,rfl⟩:=Ii<|zo h;exact .inr<|.inl ⟨x,rfl⟩;rw[Iy ho]at h;have hl:ws.length=1:=Decidable.byContradiction λn=>by rw[DH n]at h;cases h
 obtain⟨x,rfl⟩:=Ii hl;have h:Qb x=true:=h;obtain⟨es,rfl⟩:∃es,x=.tup es:=by cases x<;>first|exact{_,rfl}|cases h
 exact .inr<|.inr {o,es,ho,rfl,zo h};rw[Co ho]at h;cases h;cases hh
theorem mU{o:Str}(h:o ="and"\/o ="or")(es:List D):subs (.tup [.str o,.tup es])=es:=by unfold subs;dsimp only;rw[if_neg<|by rcases h with rfl|rfl<;>decide,if_pos h]
theorem r_(x:D):subs (.tup [.str "not",x])=[x]:=by unfold subs;dsimp only;rw[if_pos rfl]
theorem IA(h:jg cs e=true):(subs e).length<=8:=by rcases y9 h with⟨_,_,_,_,_,h⟩|⟨x,rfl⟩|⟨o,es,ho,rfl,hl⟩;rw[h];exact yh _;rw[r_];simp;rw[mU ho];exact hl
theorem IB{cs:List<|Str×Str} : ∀{es:List D},(∀e∈es,jg cs e=true)->(es.flatMap subs).length<=8*es.length:=by intro es;induction es with|nil=>exact λ_=>zl _|cons e es ih=>intro h;rw[List.flatMap_cons,zp,zD];have:=IA<|h e zy;have:=ih λx hx=>h x<|zj _ hx;lia
theorem Fq{es:List D}{i:Nat}{e:D}(h:es[i]?=some e):(es.take<|i+1).flatMap subs=(es.take i).flatMap subs++subs e:=by rw[take_snoc h,List.flatMap_append,List.flatMap_cons,List.flatMap_nil,ye]
theorem om(T:Txt w K mg t):Ok P w base T.gM 1 (λds S R _=>∃l es cs,ds=[.ref l]/\S l=some (.lst es)/\es.length<=200/\(∀e∈es,jg cs e=true)/\∀p,S p=none->R (.ref p) (S.set p<|.lst<|es.flatMap subs)):=by
 refine T.gM.F.vF eO ?_;rintro _ _ _ _ _ _ ds S R Z hr ⟨l,es,cs,e,hl,h8,Rr,q⟩;subst e;refine{_,(sc (bX (i:=1) eO.nd<|bV an)<|sc (nJ<|BC (il<|dv 0) (gn (i:=2) eO.nd)<|sc (nJ<|si (bH bP hr.u (ix hr.u (dv 2) di) ds) (s1<|se<|bm zH zL zM bq (dv 1)<|ac (ix hr.u (dv 2) di) an) s0)<|s1<|si (bH Bx hr.u (ix hr.u (dv 2) di)<|a_<|ac ds<|ac ds an) (s1<|se<|bm zH PySem.F.slot_list_extend PySem.F.type_list_extend EL (dv 1)<|ac (ix hr.u (dv 2) di) an) s0)<|s1<|sr<|dv 1),?_};refine{pN,λf hf=>?_};have LB:l≠f:=iu hl hf;have n2:=ib;refine{λaq S'=>∃o,aq=[some<|.ref l,some<|.ref f,o]/\S'=S.set f (.lst<|es.flatMap subs),?_,?_};refine !{es,(ag LB).trans hl,?_};refine{λi aq S'=>∃o,aq=[some<|.ref l,some<|.ref f,o]/\S'=S.set f (.lst<|(es.take i).flatMap subs),⟨none,rfl,rfl⟩,?_,?_,?_};rintro i aq S' ⟨o,rfl,rfl⟩;exact(ag LB).trans hl;rintro i e aq S' he ⟨o,rfl,rfl⟩;have he:es[i]?=some e:=he;have hem:=Rr e<|zI he;have hi:i<es.length:=(zt.mp he).1;have Q0:((es.take i).flatMap subs).length<=1600:=by have:=IB (cs:=cs) (es:=es.take i) λx hx=>Rr x<|List.mem_of_mem_take hx;rw[yf]at this;lia
 have more:∃o,[some<|D.ref l,some<|D.ref f,some e]=[some<|.ref l,some<|.ref f,o]/\S.set f (.lst<|(es.take i).flatMap subs++subs e)=S.set f (.lst<|(es.take<|i+1).flatMap subs):=!⟨by rw[Fq he]⟩;generalize (es.take i).flatMap subs=fs at Q0 more⊢;have Ru:(S.set f<|.lst fs) f=some (.lst fs):=aa;rcases y9 hem with⟨o,ws,rfl,n1,n3,hs⟩|⟨x,rfl⟩|⟨o,xs,ho,rfl,Na⟩;rw[hs,ye]at more;refine{λCO S2=>CO=_/\S2=S.set f (.lst fs),!{_,wV _ ws,_,rfl,fW (zw n1)<|fo ⟨rfl,rfl⟩},?_};rintro _ _ ⟨rfl,rfl⟩;refine !{_,wV _ ws,n2,rfl,rfl,_,rfl,fW ?_ more};simp only[not_or]at n3;simp[Gu,p5,eqV,Ne.symm n3.1,Ne.symm n3.2];rw[r_]at more;refine{λCO S2=>CO=_/\S2=S.set f (.lst<|fs++[x]),!!!⟨rS (by trivial) !⟨{rfl,_,Ru},_,rfl,_,rfl,f,_,_,rfl,rfl,Ru,by rw[zZ];lia,fo ⟨rfl,b_⟩⟩⟩,?_};rintro _ _ ⟨rfl,rfl⟩;exact !!{n2,rfl,rfl,_,rfl,fW (by trivial) more};rw[mU ho]at more;rw[<-b_ (c:=.lst fs)]at more;rcases ho with rfl|rfl;refine{λCO S2=>CO=_/\S2=S.set f (.lst fs),!!!⟨fW (by trivial)<|fo ⟨rfl,rfl⟩⟩,?_};rintro _ _ ⟨rfl,rfl⟩;exact !!{n2,rfl,rfl,_,rfl,rS (by trivial) !⟨{rfl,_,Ru},_,rfl,_,rfl,f,_,_,rfl,rfl,Ru,by rw[zZ];lia,more⟩};refine{λCO S2=>CO=_/\S2=S.set f (.lst fs),!!!⟨fW (by trivial)<|fo ⟨rfl,rfl⟩⟩,?_};rintro _ _ ⟨rfl,rfl⟩;exact !!{n2,rfl,rfl,_,rfl,rS (by trivial) !⟨{rfl,_,Ru},_,rfl,_,rfl,f,_,_,rfl,rfl,Ru,by rw[zZ];lia,more⟩};rintro aq S' ⟨o,rfl,rfl⟩;exact fo {o,rfl,by rw[yG]};rintro aq S' ⟨o,rfl,rfl⟩;exact{_,rfl,fo<|q f hf}
noncomputable def qm(cs:List<|Str×Str):Nat->Nat->List D->Bool|0,_,es=>decide (es.length=0)|n+1,p,es=>if es.length=0 then true else decide (p+es.length<=200)&&(es.all (jg cs)&&qm cs n (p+es.length) (es.flatMap subs))
theorem Qf(cs:List<|Str×Str)(n p:Nat):qm cs n p []=true:=by cases n<;>rfl
theorem QA.subs(h:QA S d):∀e∈subs d,QA S e:=by intro e he;unfold My.subs at he;split at he;rename_i o x;have hx:QA S x:=h.in (by simp);split at he;rw[zr.mp he];exact hx;split at he;split at he;exact hx.in he;cases he;cases he;cases he
def ZF(t:gm):gY:=λds S R Z=>∃cs d,ds=[.tup<|cs.map aC,d]/\Gd cs/\QA S d/\(qm cs 8 0 [d]=true->R .av S)/\(qm cs 8 0 [d]=false->Z t.aF S)
theorem j5(T:Txt w K mg t):Ok P w base T.gA 6 (ZF t):=by
 refine T.gA.F.vF bG ?_;rintro _ _ _ _ _ _ ds S R Z hr ⟨cs,d,e,hg,hd,q1,q2⟩;subst e;obtain⟨b,hb⟩:∃b,qm cs 8 0 [d]=b:={_,rfl};rw[hb]at q1 q2;have n1:=gN;refine{_,(sc (bX (i:=2) bG.nd<|bV<|al 1 an)<|sc (bX (i:=3) bG.nd di)<|sc (bX (i:=4) bG.nd di)<|s1<|Y4 (bH vm hr.u (cb bj T.aZ aM<|al 2 an) di)<|sc (sau (i:=3) bG.nd di)<|sc (sau (i:=4) bG.nd<|cb bj T.aZ aM<|al 2 an)<|sc (si (twd<|twor (bH vm hr.u (dv 3)<|dg (v:=.int 8) T.vK {_,rfl} λ_=>aQ _)<|tw1<|bH vm hr.u (dv 4)<|dg (v:=.int 200) T.jC {_,rfl} λ_=>aQ _) (s1<|qX ⟨T.fO⟩ T.jE<|ac ds an) s0)<|sc (si (cG<|tv<|cb kU T.kX gI<|ac (vp (N:=["thing","columns"]) (src:=[none,some 0]) (lU (ae s_) ["columns","sieve","level","deep","parts"] rfl rfl<|by trivial) (il<|dv 2) (qY<|show(["thing","columns"]:List Str).Nodup by trivial) (aW rfl) aX (λ_ _ _ _ _=>ur) λ_ _ _ _ _=>(aY T.nX (wA T) hr<|al 1<|al 0 an)) an) (s1<|qX ⟨T.fO⟩ T.jE<|ac ds an) s0)<|s1<|bX (i:=2) bG.nd<|aY T.gM (om T) hr<|al 2 an),?_};refine !{gN,λl0 Rl=>?_};refine{λm aq S'=>∃(l:Addr) (es:List D) (dp p:Nat),aq=[some<|.tup<|cs.map aC,some d,some<|.ref l,some<|.int dp,some<|.int p]/\S' l=some (.lst es)/\Sub S S'/\(∀e∈es,QA S e)/\dp+m=8/\qm cs m p es=b,{8,l0,[d],0,0,rfl,aa,.new Rl,λe he=>by rw[zr.mp he];exact hd,rfl,hb},?_};rintro m aq S' ⟨l,es,dp,p,rfl,hl,sb,Rr,hdp,JF⟩;refine !!⟨.inl {_,hl,_,rfl,?_}⟩;refine bD (λh1=>?_) λh1=>?_;have Eu:0<es.length:=by have h1:(0:Int)<((es.length:Nat):Int):=zo h1;lia
 refine !!!!!⟨.inl {_,hl,_,rfl,?_}⟩;refine !!⟨bD (λh2=>?_) λh2=>?_⟩;have h2:(8:Int)<((dp:Nat):Int)+1:=zo h2;obtain rfl:m=0:=by lia
 refine{n1,S,sb,q2 ?_};rw[<-JF];exact zw (by lia);have h2:¬(8:Int)<((dp:Nat):Int)+1:=zN h2;obtain⟨n,rfl⟩:∃n,m=n+1:={m-1,by lia};unfold qm at JF;rw[if_neg<|by lia]at JF;refine !!⟨bD (λh3=>?_) λh3=>?_⟩;have h3:(200:Int)<((p:Nat):Int)+((es.length:Nat):Int):=zo h3;refine{n1,S,sb,q2 ?_};rw[<-JF,zw<|by lia];rfl;have h3:¬(200:Int)<((p:Nat):Int)+((es.length:Nat):Int):=zN h3;rw[zA<|by lia,zS]at JF;refine !{es,hl,?_};refine comp_map (λe=>.bl<|jg cs e) hl (by show es.length<=1000;lia) (λe he Q hQ=>?_) λp1 y_=>?_;exact !!{cs,e,rfl,hg,(Rr e he 2).sub sb,hQ};have e2:es.map (λe=>D.bl<|jg cs e)=(es.map<|jg cs).map D.bl:=by rw[zB];rfl
 rw[show({es,λS=>vk S (.ref l) es}:sY).xs=es from rfl,e2];have s1:=sb.trans<|.new (c:=.lst<|(es.map<|jg cs).map D.bl) y_;refine{.ref p1,es.map<|jg cs,rfl,aa,_,rfl,?_};rw[show(es.map<|jg cs).all id=es.all (jg cs) from all_map];refine bD (λh4=>?_) λh4=>?_;refine{n1,S,s1,q2 ?_};rw[<-JF,nt h4];rfl;have h4:=nf h4;rw[h4,zS]at JF;have Nj:(S'.set p1<|.lst<|(es.map<|jg cs).map D.bl) l=some (.lst es):=(ag<|iu hl y_).trans hl;refine !{l,es,cs,rfl,Nj,by lia,yk.mp h4,λp2 h5=>?_};refine{n,Nat.lt_succ_self n,p2,es.flatMap subs,dp+1,p+es.length,?_,aa,s1.trans<|.new h5,λx hx=>?_,by lia,JF};show[_,_,_,some<|D.int<|((dp:Nat):Int)+1,some<|D.int<|((p:Nat):Int)+((es.length:Nat):Int)]=_;rw[show(((dp:Nat):Int)+1)=((dp+1:Nat):Int) by lia,show(((p:Nat):Int)+((es.length:Nat):Int))=((p+es.length:Nat):Int) by lia];obtain⟨e,he,hx⟩:=List.mem_flatMap.mp hx;exact(Rr e he).subs x hx;have h1:¬(0:Int)<((es.length:Nat):Int):=zN h1;have e0:es=[]:=List.eq_nil_of_length_eq_zero (by lia);rw[e0,Qf]at JF;exact{S,sb,q1 JF.symm}
noncomputable def Qg(cs:List<|Str×Str)(z:Str):Nat:=(cs.map Prod.fst).idxOf z
noncomputable def bt(cs:List<|Str×Str)(ws:List D)(z:Str):D:=(ws[Qg cs z]?).getD .av
noncomputable def aJ(r:Str×List D):D:=.tup [.str r.1,.tup r.2]
theorem sj:∀{l:List α}{m:List β},Paired rel l m->∀{i:Nat}{a:α},l[i]?=some a->∃b,m[i]?=some b/\rel a b|_,_,.nil,_,_,h=>by simp at h|_,_,.cons r t,0,a,h=>(by rw[List.getElem?_cons_zero]at h⊢;cases h;exact{_,rfl,r})|_,_,.cons r t,i+1,a,h=>by rw[List.getElem?_cons_succ]at h⊢;exact sj t h
theorem oo(hg:Gd cs)(h:c∈cs):cs[Qg cs c.1]?=some c/\(cs.map Prod.fst)[Qg cs c.1]?=some c.1:=by
 have hm:c.1∈cs.map Prod.fst:=ze.mpr ⟨c,h,rfl⟩;have hi:(cs.map Prod.fst).idxOf c.1<(cs.map Prod.fst).length:=List.idxOf_lt_length_of_mem hm;have e1:(cs.map Prod.fst)[(cs.map Prod.fst).idxOf c.1]?=some c.1:=by rw[zh hi,List.getElem_idxOf]
 refine{?_,e1};obtain⟨j,ej⟩:=yB h;have ej1:(cs.map Prod.fst)[j]?=some c.1:=by rw[zu,ej];rfl
 obtain⟨b1,c1⟩:=zt.mp e1;obtain⟨b2,c2⟩:=zt.mp ej1;have:=(List.getElem_inj hg.2.1 (h₀:=b1) (h₁:=b2)).mp<|c1.trans c2.symm;unfold Qg;rw[this];exact ej
theorem qo(hg:Gd cs)(hw:Wg cs ws)(h:c∈cs):ws[Qg cs c.1]?=some (bt cs ws c.1)/\Vg c.2 (bt cs ws c.1):=by obtain⟨v,e,r⟩:=sj hw (oo hg h).1;unfold bt;rw[e];exact⟨rfl,r⟩
theorem IC(ha:jX a=true)(hb:jX b=true)(q:∀b,R (.bl b) S):KR false a b S R:=by obtain⟨p,p1,p2,p3⟩:=Ly.plain (S:=S) ha;obtain⟨r,r1,r2,r3⟩:=Ly.plain (S:=S) hb;cases a<;>cases b<;>first|(cases ha;done)|(cases hb;done)|exact q _|exact{p,r,p1,r1,p2,r2,.inl<|by lia,q _}
theorem ID(aH:I.ok S1)(hz:I.xs.length<=1000) (step:∀d,d∈I.xs->∀(Q:KD)(Q':ax->Prop),Q d S1->Q' S1->g d (mq σ src) S1 λir S3=>tc ir S3 (λb S4=>if b=true then te ir S4 Q Zf else Q' S4) Zf) (fin:∀out,out.Sublist I.xs->∀p,S1 p=none->R (.ref p) (S1.set p<|.lst out)):xE σ src g tc te R I S1:=by refine{λi out S=>S=S1/\out.Sublist (I.xs.take i),{rfl,.refl _},λi out S h=>by rw[h.1];exact aH,?_,?_};rintro i d out S hd ⟨rfl,hs⟩;have hlen:=hs.length_le;rw[yf]at hlen;refine{gW<|by lia,step d (zI hd) _ (λS4=>S4=S/\_) {rfl,?_} {rfl,?_}};rw[take_snoc hd];exact hs.append<|.refl _;rw[take_snoc hd];exact hs.trans<|List.sublist_append_left _ _;rintro out S2 ⟨rfl,hs⟩;rw[yG]at hs;exact fin out hs
theorem Cp{k:Str}(ha:Vg k a)(hb:Vg k b)(na:a≠.av)(nb:b≠.av):(∃i j,a=.int i/\b=.int j)\/∃i j,a=.str i/\b=.str j:=by obtain⟨a1,a2⟩:=ha;obtain⟨b1,b2⟩:=hb;cases a with|av=>exact absurd rfl na|int i=>(cases b with|av=>exact absurd rfl nb|int j=>exact .inl ⟨i,j,rfl,rfl⟩|str j=>(exfalso;unfold cF at a1 b1;simp only[ay,yQ]at a1 b1;by_cases e:k ="number";rw[if_pos e]at b1;cases b1;rw[if_neg e]at a1;cases a1)|_=>cases b2)|str i=>(cases b with|av=>exact absurd rfl nb|str j=>exact .inr ⟨i,j,rfl,rfl⟩|int j=>(exfalso;unfold cF at a1 b1;simp only[ay,yQ]at a1 b1;by_cases e:k ="number";rw[if_pos e]at a1;cases a1;rw[if_neg e]at b1;cases b1)|_=>cases b2)|_=>cases a2
theorem DJ(h:Vg "word" a)(n:a≠.av):∃z,a=.str z:=by obtain⟨h1,h2⟩:=h;cases a with|av=>exact absurd rfl n|str z=>exact⟨z,rfl⟩|int i=>(unfold cF at h1;rw[if_neg<|by trivial]at h1;cases h1)|_=>cases h2
theorem ip(h:ay a=false):a≠.av:=by rintro rfl;cases h
theorem dO(T:Txt w K mg t):Ok P w base T.cA 2 (λds S R _=>∃cs r c,ds=[.tup<|cs.map aC,aJ r,.str c.1]/\Gd cs/\Wg cs r.2/\c∈cs/\R (bt cs r.2 c.1) S):=by
 refine T.cA.F.vF yY ?_;rintro _ _ _ _ _ _ ds S R Z hr ⟨cs,r,c,e,hg,hw,hc,q⟩;subst e;obtain⟨n1,n2⟩:=oo hg hc;refine{_,(s1<|sr<|ix hr.u (ix hr.u (dv 1) di)<|bm zH PySem.F.slot_list_index PySem.F.type_list_index Hb (aY T.mG (oW T) hr<|al 0 an)<|al 2 an),?_};refine !!!{cs,rfl,hg.1,λp hp=>?_};refine{{rfl,_,aa},_,rfl,(cs.map Prod.fst).map D.str,.str c.1,Qg cs c.1,rfl,aa,rfl,?_,{.str c.1,by rw[zu,n2];rfl,by show(c.1==c.1)=true;simp},?_,?_};rw[List.all_map];exact yk.mpr λ_ _=>rfl;intro m u hm hu;rw[zu]at hu;cases e:(cs.map Prod.fst)[m]? with|none=>(rw[e]at hu;cases hu)|some z'=>rw[e]at hu;cases hu;show(z'==c.1)=false;have:z'≠c.1:=λq=>(by subst q;obtain⟨b1,c1⟩:=zt.mp e;obtain⟨b2,c2⟩:=zt.mp n2;have:=(List.getElem_inj hg.2.1 (h₀:=b1) (h₁:=b2)).mp<|c1.trans c2.symm;lia);simpa using this
 exact{_,eS (qo hg hw hc).1,S,.new hp,q}
theorem pP(T:Txt w K mg t):Ok P w base T.iH 1 (λds S R _=>∃o a b c,ds=[.str o,a,b]/\Vg c.2 a/\Vg c.2 b/\Cj o c b/\∀b,R (.bl b) S):=by refine T.iH.F.vF pK ?_;rintro _ _ _ _ _ _ ds S R Z hr ⟨o,a,b,c,e,ha,hb,ho,q⟩;subst e;refine{_,(sc (si (bH bP hr.u (dv 0) ds) (s1<|sr<|cm bP hr.u (dv 1)<|dv 2) s0)<|sc (si (bH kE hr.u (dv 1) dn) (s1<|sr db) s0)<|sc (si (bH bP hr.u (dv 0) ds) (s1<|sr<|cm Bu hr.u (dv 1)<|dv 2) s0)<|sc (si (bH bP hr.u (dv 0) ds) (s1<|sr<|cm vm hr.u (dv 1)<|dv 2) s0)<|s1<|sr<|bm PySem.F.plainAttrs_str PySem.F.slot_str_startswith PySem.F.type_str_startswith Hc (dv 1)<|al 2 an),?_};rcases ho with rfl|⟨nb,rfl|rfl|⟨rfl,hk⟩⟩;exact !!⟨rS (by trivial) !!⟨IC ha.2 hb.2 λb=>fo<|q b⟩⟩;refine !!⟨fW (by trivial) !!⟨bD (λh=>fo<|q _) λh=>?_⟩⟩;refine !!⟨rS (by trivial) !!⟨?_⟩⟩;rcases Cp ha hb (ip h) nb with⟨i,j,rfl,rfl⟩|⟨i,j,rfl,rfl⟩<;>exact fo (q _);refine !!⟨fW (by trivial) !!⟨bD (λh=>fo<|q _) λh=>?_⟩⟩;refine !!⟨fW (by trivial) !!⟨rS (by trivial) !!⟨?_⟩⟩⟩;rcases Cp ha hb (ip h) nb with⟨i,j,rfl,rfl⟩|⟨i,j,rfl,rfl⟩<;>exact fo (q _);refine !!⟨fW (by trivial) !!⟨bD (λh=>fo<|q _) λh=>?_⟩⟩;refine !!⟨fW (by trivial) !!⟨fW (by trivial) ?_⟩⟩;rw[hk]at ha hb;obtain⟨i,rfl⟩:=DJ ha<|ip h;obtain⟨j,rfl⟩:=DJ hb nb;exact !{rfl,_,rfl,i,j,rfl,rfl,fo<|q _}
def Qh(n:Nat):gY:=λds S R _=>∃cs d r,ds=[.tup<|cs.map aC,d,aJ r]/\Gd cs/\Sg cs n d/\Wg cs r.2/\∀b,R (.bl b) S
theorem IE(h:Paired (λ_ v=>∃b:Bool,v=.bl b) xs out):∃bs:List Bool,out=bs.map D.bl:=by induction h with|nil=>exact{[],rfl}|cons r t ih=>obtain⟨b,rfl⟩:=r;obtain⟨bs,rfl⟩:=ih;exact{b::bs,rfl}
theorem iq(T:Txt w K mg t):∀n,Ok P w base T.passes (3+n) (Qh n)
 |0=>by refine T.passes.F.vF (k:=2) uB ?_;rintro _ _ _ _ _ _ ds S R Z hr ⟨cs,d,r,e,hg,hs,_⟩;exact hs.elim
 |n+1=>by
  refine T.passes.F.vF (k:=3+n) uB ?_;rintro _ _ _ _ _ _ ds S R Z hr ⟨cs,d,r,e,hg,hs,hw,q⟩;subst e;refine{_,(sc (si (bH bP hr.u (ix hr.u (dv 1) di) ds) (s1<|sr db) s0)<|sc (si (bH bP hr.u (ix hr.u (dv 1) di) ds) (s1<|sr<|cm Bx hr.u (ix hr.u (dv 2) di)<|ix hr.u (dv 1) di) s0)<|sc (si (bH bP hr.u (ix hr.u (dv 1) di) ds) (s1<|sr<|Tp<|aY T.passes (iq T n) hr<|al 0<|ac (ix hr.u (dv 1) di)<|al 2 an) s0)<|sc (si (bH bP hr.u (ix hr.u (dv 1) di) ds) (s1<|sr<|cb kU T.kX gI<|ac (vp (N:=["inner","columns","row"]) (src:=[none,some 0,some 2]) (lU (ae xW) ["columns","sieve","row"] rfl rfl<|by trivial) (K1<|ix hr.u (dv 1) di) (qY<|show(["inner","columns","row"]:List Str).Nodup by trivial) (aW rfl) aX (λ_ _ _ _ _=>ur) λ_ _ _ _ _=>(aY T.passes (iq T n) hr<|al 1<|al 0<|al 2 an)) an) s0)<|sc (si (bH bP hr.u (ix hr.u (dv 1) di) ds) (s1<|sr<|cb TM T.U1 OH<|ac (vp (N:=["inner","columns","row"]) (src:=[none,some 0,some 2]) (lU (ae xW) ["columns","sieve","row"] rfl rfl<|by trivial) (K1<|ix hr.u (dv 1) di) (qY<|show(["inner","columns","row"]:List Str).Nodup by trivial) (aW rfl) aX (λ_ _ _ _ _=>ur) λ_ _ _ _ _=>(aY T.passes (iq T n) hr<|al 1<|al 0<|al 2 an)) an) s0)<|s1<|sr<|aY T.iH (pP T) hr<|ac (ix hr.u (dv 1) di)<|ac (aY T.cA (dO T) hr<|al 0<|al 2<|ac (ix hr.u (dv 1) di) an)<|ac (ix hr.u (dv 1) di) an),?_};rcases hs with (rfl|⟨ks,rfl,hk8,JC⟩|⟨o,c,v,hc,hv,ho,rfl⟩)|⟨e,rfl,he⟩|⟨o,es,ho,rfl,Rr,XT⟩;exact !!!⟨rS (by trivial)<|fo<|q _⟩;refine !!!⟨fW (by trivial) !!!⟨rS (by trivial) ?_⟩⟩;refine !!!!{rfl,?_,fo<|q _};rw[List.all_map];exact yk.mpr λ_ _=>rfl;have fin:∃o' a b c',[D.str o,bt cs r.2 c.1,v]=[D.str o',a,b]/\Vg (Prod.snd (α:=Str) c') a/\Vg c'.2 b/\Cj o' c' b/\∀b,Fo S (R<|.bl b):={o,_,v,c,rfl,(qo hg hw hc).2,hv,ho,λb=>fo<|q b};have h5:∀x∈(["every","key","not","and","or"]:List Str),decide (o=x)=false:=by rcases ho with rfl|⟨_,rfl|rfl|⟨rfl,_⟩⟩<;>decide +kernel
  exact !!!⟨fW (h5 _<|by decide) !!!⟨fW (h5 _<|by decide) !!!⟨fW (h5 _<|by decide) !!!⟨fW (h5 _<|by decide) !!!⟨fW (h5 _<|by decide) !!!!!!{cs,r,c,rfl,hg,hw,hc,_,rfl,_,rfl,fin}⟩⟩⟩⟩⟩;exact !!!⟨fW (by trivial) !!!⟨fW (by trivial) !!!⟨rS (by trivial) !!!!{cs,e,r,rfl,hg,he,hw,λb=>!⟨fo<|q _⟩}⟩⟩⟩;have hz:es.length<=1000:=by lia
  rcases ho with rfl|rfl;refine !!!⟨fW (by trivial) !!!⟨fW (by trivial) !!!⟨fW (by trivial) !!!⟨rS (by trivial) !!{_,.inl rfl,?_}⟩⟩⟩⟩;refine ic (λ_ v=>∃b:Bool,v=.bl b) trivial hz (λd hd Q hQ=>!!!{cs,d,r,rfl,hg,XT d hd,hw,λb=>hQ _ ⟨b,rfl⟩}) λout ho p hp=>?_;obtain⟨bs,rfl⟩:=IE ho;exact{.ref p,bs,rfl,aa,S,.new hp,q _};refine !!!⟨fW (by trivial) !!!⟨fW (by trivial) !!!⟨fW (by trivial) !!!⟨fW (by trivial) !!!⟨rS (by trivial) !!{_,.inl rfl,?_}⟩⟩⟩⟩⟩;refine ic (λ_ v=>∃b:Bool,v=.bl b) trivial hz (λd hd Q hQ=>!!!{cs,d,r,rfl,hg,XT d hd,hw,λb=>hQ _ ⟨b,rfl⟩}) λout ho p hp=>?_;obtain⟨bs,rfl⟩:=IE ho;exact{.ref p,bs,rfl,aa,S,.new hp,q _}
abbrev Row:=Str×List D
abbrev Part:=Str×Str×Str
def Pin(cs:List<|Str×Str)(ps:List Part):Prop:=∀p∈ps,∃c∈cs,c.1=p.1
section
variable{cs:List (Str×Str)}
theorem Pin.tail(h:Pin cs<|p::ps):Pin cs ps:=λq hq=>h q<|zj _ hq
theorem LL(hg:Gd cs)(h:Pin cs<|p::ps):∃k,∀ws,Wg cs ws->Vg k (bt cs ws p.1):=by obtain⟨c,hc,e⟩:=h p zy;rw[<-e];exact{c.2,λws hw=>(qo hg hw hc).2}
def Rg(cs:List<|Str×Str)(rs:List Row):Prop:=(∀r∈rs,Wg cs r.2)/\(rs.map Prod.fst).Nodup
theorem Rg.perm(h:Rg cs rs)(p:eC.Perm rs):Rg cs eC:={λr hr=>h.1 r<|p.mem_iff.mp hr,(p.map _).nodup_iff.mpr h.2}
theorem Rg.sub(h:Rg cs rs)(p:eC.Sublist rs):Rg cs eC:={λr hr=>h.1 r<|p.subset hr,h.2.sublist<|p.map _}
end
theorem Cq{l m:List Nat}(hl:l.Nodup)(hm:m.Nodup)(h:∀x,x∈l↔x∈m):l.Perm m:=by induction l generalizing m with|nil=>(cases m with|nil=>exact .nil|cons y m=>exact absurd ((h y).mpr zy)<|by simp)|cons x l ih=>obtain⟨n1,n2⟩:=yt.mp hl;have hx:=(h x).mp zy;refine .trans ((ih n2 (hm.erase x) λy=>?_).cons x) (List.perm_cons_erase hx).symm;rw[hm.mem_erase_iff];constructor;intro hy;exact{λe=>n1<|e ▸ hy,(h y).mp<|zj _ hy};rintro⟨h1,h2⟩;rcases zg.mp ((h y).mpr h2) with e|e;exact absurd e h1;exact e
theorem map_range(d:α)(xs:List α):(List.range xs.length).map (λk=>xs.getD k d)=xs:=by refine List.ext_getElem (by simp) λi h1 h2=>?_;simp[zh h2]
theorem Ft{α:Type}(d:α){xs:List α}{g:Nat->Nat}(lt:∀k,k<xs.length->g k<xs.length)(inj:∀i j,i<xs.length->j<xs.length->g i=g j->i=j):((List.range xs.length).map λk=>xs.getD (g k) d).Perm xs:=by
 have nd:((List.range xs.length).map g).Nodup:=by refine List.pairwise_map.mpr<|List.nodup_range.imp_of_mem λ{a b} ha hb n e=>n<|inj a b (zT.mp ha) (zT.mp hb) e
 have sub:∀x∈(List.range xs.length).map g,x∈List.range xs.length:=λx hx=>by obtain⟨k,hk,rfl⟩:=ze.mp hx;exact zT.mpr<|lt k<|zT.mp hk
 have p:((List.range xs.length).map g).Perm (List.range xs.length):=Cq nd List.nodup_range λx=>by refine{sub x,λhx=>?_};by_cases h:x∈(List.range xs.length).map g;exact h;exfalso;have:=sub_len nd (m:=(List.range xs.length).erase x) λy hy=>(List.Nodup.mem_erase_iff List.nodup_range).mpr {λe=>h<|e ▸ hy,sub y hy};rw[zc,List.length_erase_of_mem hx,List.length_range]at this;have:=zT.mp hx;omega
 have e:((List.range xs.length).map λk=>xs.getD (g k) d)=((List.range xs.length).map g).map λk=>xs.getD k d:=by rw[zB];rfl
 rw[e];have:=p.map λk=>xs.getD k d;rw[map_range]at this;exact this
noncomputable def r0:Row:=("",[])
theorem getD_map{rs:List Row}{j:Nat}(h:j<rs.length):(rs.map aJ).getD j .av=aJ (rs.getD j r0):=by rw[zJ,zJ,zu,zh h];rfl
theorem mV{rs:List Row}{b:Bool}{f:D->D}{g:Nat->Nat}(h:Pt b (λj=>f<|(rs.map aJ).getD j .av) (rs.map aJ).length g): ∃eC:List Row,(List.range (rs.map aJ).length).map (λk=>(rs.map aJ).getD (g k) .av)=eC.map aJ/\eC.Perm rs:=by have hn:(rs.map aJ).length=rs.length:=zc _;rw[hn]at h⊢;refine{(List.range rs.length).map λk=>rs.getD (g k) r0,?_,Ft r0 h.lt h.inj};rw[zB];exact zX λk hk=>getD_map<|h.lt k<|zT.mp hk
noncomputable def valued(cs:List<|Str×Str)(p:Part)(r:Row):Bool:=!ay (bt cs r.2 p.1)
theorem Fu{cs:List<|Str×Str}{p:Part}{L V:List Row}(hV:V.Perm<|L.filter<|valued cs p):(L.filter (λr=>!valued cs p r)++V).Perm L:=(List.Perm.append_left _ hV).trans<|List.perm_append_comm.trans<|List.filter_append_perm (valued cs p) L
noncomputable abbrev qK:Str:="sorted_by_keys.<locals>.<lambda>"
noncomputable abbrev qV:Str:="sorted_by_values.<locals>.<lambda>"
noncomputable def Qi:D->D|.tup (x::_)=>x|_=>.av
noncomputable def IF(cs:List<|Str×Str)(z:Str):D->D|.tup [_,.tup ws]=>bt cs ws z|_=>.av
def Qj(t:gm):gY:=λds S R _=>∃(cs:List (Str×Str))(l:Addr)(rs:List Row)(wy:Str),ds=[.ref l,.str wy]/\eZ wy=true/\S l=some (.lst<|rs.map aJ)/\rs.length<64/\Rg cs rs/\S t.aR=some (.tab qK)/\∀(eC:List Row)(p:Addr),eC.Perm rs->S p=none->R (.ref p) (S.set p<|.lst<|eC.map aJ)
theorem eU{S S2:ax}{p:Addr}{c:Ce}(h:Sub S S2):Sub (S.set p c) (S2.set p c):=λb e hb=>by by_cases q:b=p;subst q;rw[aa]at hb⊢;exact hb;rw[ag q]at hb⊢;exact h b e hb
theorem dy{S S2:ax}{p:Addr}(h:Sub S S2)(e:S2 p=none):S p=none:=by cases q:S p with|none=>rfl|some c=>rw[h p c q]at e;cases e
theorem wB{z:Str}(h:eZ z=true):z ="up"\/z ="down":=by unfold eZ at h;simpa using h
theorem mW(T:Txt w K mg t)(B:Bm mg base):Ok P w base T.fN 4 (Qj t):=by
 refine T.fN.F.okC (k:=3) mJ (by rintro ds S R Z ⟨_,_,_,_,e,_⟩;rw[e];rfl) ?_;rintro eV A outer s H E ds S R Z pW hr ⟨cs,l,rs,wy,e,JG,hl,hn,wW,ht,q⟩;subst e;have JC:xP ((rs.map aJ).map Qi):=.inl {rs.map Prod.fst,by rw[zB,zB];rfl};have Jw:(rs.map aJ).length<64:=by rw[zc];exact hn
 refine{_,(sc (si (bH bP hr.u (dv 1) ds) (s1<|sr<|MY (N:=["row"]) (src:=[none]) (pW.trans T.gw) ⟨T.dU,B⟩ hr (lU (ae gZ) ["rows","way"] rfl rfl<|by trivial) (dv 0) (λ_ _ _ _=>(ix (hr.in1.in1.deeper _).units (dv 0) di)) T.hG fB) s0)<|s1<|sr<|UC (N:=["row"]) (src:=[none]) (pW.trans T.gw) ⟨T.dU,B⟩ hr (lU (ae gZ) ["rows","way"] rfl rfl<|by trivial) (dv 0) (λ_ _ _ _=>(ix (hr.in1.in1.deeper _).units (dv 0) di)) T.hG fB),?_};rcases wB JG with rfl|rfl;refine !!⟨fW (by trivial) !{l,rs.map aJ,Qi,rfl,hl,Jw,ht,JC,λx hx S' hs Qk hQ=>?_,λg S2 p hg hs hp=>?_}⟩;obtain⟨r,hr,rfl⟩:=ze.mp hx;exact !!⟨hQ S'<|.refl _⟩;obtain⟨eC,e,pm⟩:=mV hg;rw[e];exact{S.set p<|.lst<|eC.map aJ,eU hs,q eC p pm<|dy hs hp};refine !!⟨rS (by trivial) !{l,rs.map aJ,Qi,rfl,hl,Jw,ht,JC,λx hx S' hs Qk hQ=>?_,λg S2 p hg hs hp=>?_}⟩;obtain⟨r,hr,rfl⟩:=ze.mp hx;exact !!⟨hQ S'<|.refl _⟩;obtain⟨eC,e,pm⟩:=mV hg;rw[e];exact{S.set p<|.lst<|eC.map aJ,eU hs,q eC p pm<|dy hs hp}
def Ql(t:gm):gY:=λds S R _=>∃(cs:List (Str×Str))(p:Part)(l:Addr)(rs:List Row),ds=[.tup<|cs.map aC,p3 p,.ref l]/\Gd cs/\Pin cs [p]/\eZ p.2.1=true/\S l=some (.lst<|rs.map aJ)/\rs.length<64/\Rg cs rs/\(∀r∈rs,valued cs p r=true)/\S t.aL=some (.tab qV)/\∀(eC:List Row)(a:Addr),eC.Perm rs->S a=none->R (.ref a) (S.set a<|.lst<|eC.map aJ)
theorem Cr{α:Type}{f:α->D}{β:Type}{mk:β->D} : ∀{l:List α},(∀x∈l,∃b,f x=mk b)->∃bs:List β,l.map f=bs.map mk|[],_=>{[],rfl}|x::l,h=>by obtain⟨b,e⟩:=h x zy;obtain⟨bs,e2⟩:=Cr λy hy=>h y<|zj _ hy;exact{b::bs,by rw[zQ,e,e2];rfl}
theorem Fv{cs:List<|Str×Str}{p:Part}{k:Str}{rs:List Row}(hk:∀r∈rs,Vg k<|bt cs r.2 p.1)(hv:∀r∈rs,valued cs p r=true):xP ((rs.map aJ).map<|IF cs p.1):=by
 rw[zB];have nn:∀r∈rs,bt cs r.2 p.1≠.av:=λr hr=>ip (by have:=hv r hr;unfold valued at this;simpa using this);by_cases e:k ="number";refine .inr<|Cr λr hr=>?_;have h1:=hk r hr;have h2:=nn r hr;show ∃b,bt cs r.2 p.1=.int b;generalize bt cs r.2 p.1=v at h1 h2;cases v with|av=>exact absurd rfl h2|int i=>exact⟨i,rfl⟩|str z=>(have h1:=h1.1;unfold cF at h1;simp only[ay,yQ]at h1;rw[if_pos e]at h1;cases h1)|_=>cases h1.2
 refine .inl<|Cr λr hr=>?_;have h1:=hk r hr;have h2:=nn r hr;show ∃b,bt cs r.2 p.1=.str b;generalize bt cs r.2 p.1=v at h1 h2;cases v with|av=>exact absurd rfl h2|str i=>exact⟨i,rfl⟩|int z=>(have h1:=h1.1;unfold cF at h1;simp only[ay,yQ]at h1;rw[if_neg e]at h1;cases h1)|_=>cases h1.2
theorem kL(T:Txt w K mg t)(B:Bm mg base):Ok P w base T.eK 6 (Ql t):=by
 refine T.eK.F.okC (k:=5) kK (by rintro ds S R Z ⟨_,_,_,_,e,_⟩;rw[e];rfl) ?_;rintro eV A outer s H E ds S R Z pW hr ⟨cs,p,l,rs,e,hg,IG,JG,hl,hn,wW,hv,ht,q⟩;subst e;obtain⟨c,hc,ec⟩:=IG p zy;obtain⟨k,hk⟩:=LL hg IG;have JC:xP ((rs.map aJ).map<|IF cs p.1):=Fv (λr hr=>hk _<|wW.1 r hr) hv;have Jw:(rs.map aJ).length<64:=by rw[zc];exact hn
 have step:∀x,x∈rs.map aJ->∀Qk:KD,∀S':ax,Qk (IF cs p.1 x) S'->∃Vf r' c',[D.tup<|cs.map aC,x,.str p.1]=[.tup<|Vf.map aC,aJ r',.str<|Prod.fst (β:=Str) c']/\Gd Vf/\Wg Vf r'.2/\c'∈Vf/\Qk (bt Vf r'.2 c'.1) S':=λx hx Qk S' hQ=>by obtain⟨r,hr,rfl⟩:=ze.mp hx;exact{cs,r,c,by rw[ec],hg,wW.1 r hr,hc,by rw[ec];exact hQ}
 refine{_,(sc (si (bH bP hr.u (ix hr.u (dv 1) di) ds) (s1<|sr<|MY (N:=["row","columns","part"]) (src:=[none,some 0,some 1]) (pW.trans T.fq) ⟨T.dm,B⟩ hr (lU (ae fL) ["columns","part","rows"] rfl rfl<|by trivial) (dv 2) (λ_ _ _ _=>(cf ((dO T).mono<|by decide) (hr.in1.in1.deeper _) T.cA.m T.cA.k T.cA.b d0<|al 1<|al 0<|ac (ix (hr.in1.in1.deeper _).units (dv 2) di) an)) T.hG fB) s0)<|s1<|sr<|UC (N:=["row","columns","part"]) (src:=[none,some 0,some 1]) (pW.trans T.fq) ⟨T.dm,B⟩ hr (lU (ae fL) ["columns","part","rows"] rfl rfl<|by trivial) (dv 2) (λ_ _ _ _=>(cf ((dO T).mono<|by decide) (hr.in1.in1.deeper _) T.cA.m T.cA.k T.cA.b d0<|al 1<|al 0<|ac (ix (hr.in1.in1.deeper _).units (dv 2) di) an)) T.hG fB),?_};rcases wB JG with e1|e1;refine !!!⟨fW (by rw[e1];decide +kernel) !{l,rs.map aJ,IF cs p.1,rfl,hl,Jw,ht,JC,λx hx S' hs Qk hQ=>!!!!⟨step x hx _ S'<|hQ S'<|.refl _⟩,λg S2 a hg hs ha=>?_}⟩;obtain⟨eC,e,pm⟩:=mV hg;rw[e];exact{S.set a<|.lst<|eC.map aJ,eU hs,q eC a pm<|dy hs ha};refine !!!⟨rS (by rw[e1];decide +kernel) !{l,rs.map aJ,IF cs p.1,rfl,hl,Jw,ht,JC,λx hx S' hs Qk hQ=>!!!!⟨step x hx _ S'<|hQ S'<|.refl _⟩,λg S2 a YF hs ha=>?_}⟩;obtain⟨eC,e,pm⟩:=mV YF;rw[e];exact{S.set a<|.lst<|eC.map aJ,eU hs,q eC a pm<|dy hs ha}
def Tb(t:gm)(S:ax):Prop:=S t.aR=some (.tab qK)/\S t.aL=some (.tab qV)
theorem Tb.sub{t:gm}{S S':ax}(h:Tb t S)(s:Sub S S'):Tb t S':={s _ _ h.1,s _ _ h.2}
noncomputable def DK(b:Bool)(cs:List<|Str×Str)(p:Part):D->Bool|.tup [_,.tup ws]=>ay (bt cs ws p.1)==b|_=>false
theorem uK{rs:List Row}{f:D->Bool}{g:Row->Bool}(h:∀r,f (aJ r)=g r):((rs.map aJ).filter f).map id=(rs.filter g).map aJ:=by rw[List.map_id,List.filter_map];exact congrArg (List.map aJ)<|List.filter_congr λr _=>h r
def Qm(t:gm):gY:=λds S R _=>∃(cs:List (Str×Str))(p:Part)(l:Addr)(rs:List Row),ds=[.tup<|cs.map aC,p3 p,.ref l]/\Gd cs/\Pin cs [p]/\eZ p.2.1=true/\S l=some (.lst<|rs.map aJ)/\rs.length<64/\Rg cs rs/\Tb t S/\∀(eC:List Row)(a:Addr),eC.Perm rs->S a=none->R (.ref a) (S.set a<|.lst<|eC.map aJ)
theorem mX(T:Txt w K mg t)(B:Bm mg base):Ok P w base T.fQ 7 (Qm t):=by
 refine T.fQ.F.vF cE ?_;rintro _ _ _ _ _ _ ds S R Z hr ⟨cs,p,l,rs,e,hg,IG,JG,hl,hn,wW,ht,q⟩;subst e;obtain⟨c,hc,ec⟩:=IG p zy;have hz:(rs.map aJ).length<=1000:=by rw[zc];lia
 refine{_,(sc (Pd (i:=3) (N:=["row","columns","part"]) (src:=[none,some 0,some 1]) cE.nd (lU (ae g6) ["columns","part","rows","without","valued"] rfl rfl<|by trivial) (il<|dv 2) (qY<|show(["row","columns","part"]:List Str).Nodup by trivial) (aW rfl) aX (λ_ _ _ _ _=>(if1<|bH kE hr.u (aY T.cA (dO T) hr<|al 1<|al 0<|ac (ix hr.u (dv 2) di) an) dn)) λ_ _ _ _ _=>(dv 0))<|sc (Pd (i:=4) (N:=["row","columns","part"]) (src:=[none,some 0,some 1]) cE.nd (lU (ae g6) ["columns","part","rows","without","valued"] rfl rfl<|by trivial) (il<|dv 2) (qY<|show(["row","columns","part"]:List Str).Nodup by trivial) (aW rfl) aX (λ_ _ _ _ _=>(if1<|bH nE hr.u (aY T.cA (dO T) hr<|al 1<|al 0<|ac (ix hr.u (dv 2) di) an) dn)) λ_ _ _ _ _=>(dv 0))<|sc (bX (i:=4) cE.nd<|aY T.eK (kL T B) hr<|al 0<|al 1<|al 4 an)<|s1<|sr<|ME (bH bP hr.u (ix hr.u (dv 1) di) ds) (bo ba hr.u (dv 3)<|dv 4)<|bo ba hr.u (dv 4)<|dv 3),?_};refine !{_,hl,?_};refine km (DK true cs p) id hl hz (λd hd Q Q' hQ JE=>?_) λp1 y_=>?_;obtain⟨r,hr,rfl⟩:=ze.mp hd;refine !!!!{cs,r,c,(show[D.tup<|cs.map aC,aJ r,D.str p.1]=[_,_,D.str c.1] by rw[ec]),hg,wW.1 r hr,hc,?_};rw[ec];refine{_,rfl,bD (λh=>!⟨hQ ?_⟩) λh=>JE ?_};show(ay (bt cs r.2 p.1)==true)=true;rw[show ay (bt cs r.2 p.1)=true from h];rfl;show(ay (bt cs r.2 p.1)==true)=false;rw[show ay (bt cs r.2 p.1)=false from h];rfl;have e1:((rs.map aJ).filter<|DK true cs p).map id=(rs.filter λr=>!valued cs p r).map aJ:=uK λr=>by show(ay (bt cs r.2 p.1)==true)=!valued cs p r;unfold valued;cases ay (bt cs r.2 p.1)<;>rfl
 rw[show({rs.map aJ,λS=>vk S (.ref l)<|rs.map aJ}:sY).xs=rs.map aJ from rfl,e1];have Qn:Sub S (S.set p1<|.lst<|(rs.filter λr=>!valued cs p r).map aJ):=.new y_;have h1:(S.set p1<|.lst<|(rs.filter λr=>!valued cs p r).map aJ) p1=some (.lst<|(rs.filter λr=>!valued cs p r).map aJ):=aa;generalize S.set p1 (.lst<|(rs.filter λr=>!valued cs p r).map aJ)=S1 at Qn h1⊢;have Nj:=Qn _ _ hl;refine !{_,Nj,?_};refine km (DK false cs p) id Nj hz (λd hd Q Q' hQ JE=>?_) λp2 lT=>?_;obtain⟨r,hr,rfl⟩:=ze.mp hd;refine !!!!{cs,r,c,(show[D.tup<|cs.map aC,aJ r,D.str p.1]=[_,_,D.str c.1] by rw[ec]),hg,wW.1 r hr,hc,?_};rw[ec];refine{_,rfl,bD (λh=>!⟨hQ ?_⟩) λh=>JE ?_};show(ay (bt cs r.2 p.1)==false)=true;rw[show ay (bt cs r.2 p.1)=false from nt h];rfl;show(ay (bt cs r.2 p.1)==false)=false;rw[show ay (bt cs r.2 p.1)=true from nf h];rfl;have e2:((rs.map aJ).filter<|DK false cs p).map id=(rs.filter<|valued cs p).map aJ:=uK λr=>by show(ay (bt cs r.2 p.1)==false)=valued cs p r;unfold valued;cases ay (bt cs r.2 p.1)<;>rfl
 rw[show({rs.map aJ,λS=>vk S (.ref l)<|rs.map aJ}:sY).xs=rs.map aJ from rfl,e2];have C5:Sub S (S1.set p2<|.lst<|(rs.filter<|valued cs p).map aJ):=Qn.trans<|.new lT;have ZG:(S1.set p2<|.lst<|(rs.filter<|valued cs p).map aJ) p1=_:=(ag<|iu h1 lT).trans h1;have h22:(S1.set p2<|.lst<|(rs.filter<|valued cs p).map aJ) p2=_:=aa;generalize S1.set p2 (.lst<|(rs.filter<|valued cs p).map aJ)=S2 at C5 ZG h22⊢;have fl:(rs.filter<|valued cs p).length<=rs.length:=List.length_filter_le _ _;have fl2:(rs.filter λr=>!valued cs p r).length<=rs.length:=List.length_filter_le _ _;refine !!!{cs,p,p2,rs.filter<|valued cs p,rfl,hg,IG,JG,h22,by lia,wW.sub List.filter_sublist,λr hr=>(List.mem_filter.mp hr).2,(ht.sub C5).2,λV p3 hV Ws=>?_};have pm:=Fu hV;have ZH:(S2.set p3<|.lst<|V.map aJ) p1=_:=(ag<|iu ZG Ws).trans ZG;have ZI:(S2.set p3<|.lst<|V.map aJ) p3=some (.lst<|V.map aJ):=aa;have Qo:Sub S (S2.set p3<|.lst<|V.map aJ):=C5.trans<|.new Ws;generalize S2.set p3 (.lst<|V.map aJ)=S3 at ZH ZI Qo⊢;have hVl:=hV.length_eq;refine !!!⟨bD (λh=>?_) λh=>?_⟩;refine !!{_,_,ZH,ZI,sm<|by rw[zc,zc];lia,λp4 ZJ=>?_};rw[<-zE];exact{_,eU Qo,q _ p4 pm<|dy Qo ZJ};refine !!{_,_,ZI,ZH,sm<|by rw[zc,zc];lia,λp4 ZJ=>?_};rw[<-zE];exact{_,eU Qo,q _ p4 (List.perm_append_comm.trans pm)<|dy Qo ZJ}
structure Og(cs:List (Str×Str))(ps:List Part)(wy:Str):Prop where
 pin:Pin cs ps
 ZK:∀p∈ps,eZ p.2.1=true
 way:eZ wy=true
 ok:Il cs ps wy=true
 tx:∀p∈ps,Pok p
noncomputable def bO(ps:List Part)(wy:Str):D:=.tup [.tup<|ps.map p3,.str wy]
def Vh(t:gm):gY:=λds S R _=>∃(cs:List (Str×Str))(ps:List Part)(wy:Str)(l:Addr)(rs:List Row),ds=[.tup<|cs.map aC,bO ps wy,.ref l]/\Gd cs/\Og cs ps wy/\S l=some (.lst<|rs.map aJ)/\rs.length<64/\Rg cs rs/\Tb t S/\∀(eC:List Row)(a:Addr),eC.Perm rs->S a=none->R (.ref a) (S.set a<|.lst<|eC.map aJ)
structure Vw(C:Addr)(S:ax)(a:Addr)(cs:List (Str×Str))(m:D)(rows:List Row):Prop where
 sh:∃F dl rs,bR C S a F cs dl rs/\rs.length<64/\oa dl.length m≠none/\∀i ss,oa dl.length m=some i->ss.Perm (rs.map (·.1))->PyProof.Rows.sortedS ss=true->eQ rs i ss=rows.map aJ
 mo:Gt S m
 len:rows.length<64
 rg:Rg cs rows
theorem bR.sub(b:Sub S S')(h:bR C S a F cs dl rs):bR C S' a F cs dl rs:=by obtain⟨ld,lr,ra,h,e⟩:=h;exact{ld,lr,ra,{b _ _ h.ins,b _ _ h.y1,b _ _ h.run,λr hr=>b _ _<|h.cell r hr,h.kn,h.an,h.sz},e}
theorem z_(T:Txt w K mg t)(B:Bm mg base):Ok P w base T.rD 8 (Vh t):=by refine T.rD.F.vF gC ?_;rintro _ _ _ _ _ _ ds S R Z hr ⟨cs,ps,wy,l,rs,e,hg,ho,hl,hn,wW,ht,q⟩;subst e;refine{_,(sc (bX (i:=3) gC.nd<|aY T.fN (mW T B) hr<|al 2<|ac (ix hr.u (dv 1) di) an)<|sc (nJ<|BC (irt T.rn<|ac (ix hr.u (dv 1) di) an) (gn (i:=4) gC.nd)<|s1<|bX (i:=3) gC.nd<|aY T.fQ (mX T B) hr<|al 0<|al 4<|al 3 an)<|s1<|sr<|dv 3),?_};refine !!!{cs,l,rs,wy,rfl,ho.way,hl,hn,wW,ht.1,λrs1 p1 pm1 y_=>?_};refine{λaq S'=>∃(o:Option D)(p:Addr)(eC:List Row),aq=[some<|.tup<|cs.map aC,some<|bO ps wy,some<|.ref l,some<|.ref p,o]/\S p=none/\S' p=some (.lst<|eC.map aJ)/\Sub S S'/\eC.Perm rs,?_,?_};refine !!!⟨?_⟩;refine{λi aq S'=>∃(o:Option D)(p:Addr)(eC:List Row),aq=[some<|.tup<|cs.map aC,some<|bO ps wy,some<|.ref l,some<|.ref p,o]/\S p=none/\S' p=some (.lst<|eC.map aJ)/\Sub S S'/\eC.Perm rs,{none,p1,rs1,rfl,y_,aa,.new y_,pm1},λ_ _ _ _=>trivial,?_,?_};rintro i d aq S' hd ⟨o,p,eC,rfl,hp,eE,sb,pm⟩;have hd:(ps.map p3).reverse[i]?=some d:=hd;obtain⟨pt,OY,rfl⟩:=ze.mp<|List.mem_reverse.mp<|zI hd;refine !!!{cs,pt,p,eC,rfl,hg,λx hx=>by rw[zr.mp hx];exact ho.pin _ OY,ho.ZK pt OY,eE,by rw[pm.length_eq];exact hn,wW.perm pm,ht.sub sb,λYX p2 pm2 lT=>?_};exact{_,p2,YX,rfl,dy sb lT,aa,sb.trans<|.new lT,pm2.trans pm};rintro aq S' ⟨o,p,eC,rfl,hp,eE,sb,pm⟩;exact fo ⟨o,p,eC,rfl,hp,eE,sb,pm⟩;rintro aq S' ⟨o,p,eC,rfl,hp,eE,sb,pm⟩;refine !{S.set p<|.lst<|eC.map aJ,λb c hb=>?_,q eC p pm hp};by_cases e:b=p;subst e;rw[aa]at hb;cases hb;exact eE;rw[ag e]at hb;exact sb b c hb
def Bw(C:Addr)(S:ax)(a:Addr)(cs:List<|Str×Str)(m:D):Prop:=∃F dl rs,bR C S a F cs dl rs/\rs.length<64/\oa dl.length m=none/\Gt S m
def Qp(t:gm):gY:=λds S R Z=>∃a cs d m,ds=[.ref a,d,m]/\Gd cs/\Sq cs d/\((∃rows,Vw t.aj S a cs m rows/\∀(fu:List Row)(p:Addr),fu.Sublist rows->S p=none->R (.ref p) (S.set p<|.lst<|fu.map aJ))\/(Bw t.aj S a cs m/\Z t.aA S))
theorem pQ(T:Txt w K mg t):Ok P w base T.iI 11 (Qp t):=by refine T.iI.F.vF fh ?_;rintro _ _ _ _ _ _ ds S R Z hr ⟨a,cs,d,m,e,hg,hd,⟨rows,hv,q⟩|⟨⟨F,dl,rs,hS,hn,ZL,Q8⟩,z⟩⟩;subst e;obtain⟨F,dl,rs,hS,hn,ZL,hrw⟩:=hv.sh;obtain⟨ld,lr,ra,h,_⟩:=id hS;refine{_,(sc (bX (i:=3) fh.nd<|nN (dv 0) T.ah T.aI (br T) hr)<|s1<|sr<|vp (N:=["row","columns","sieve"]) (src:=[none,some 3,some 1]) (lU (ae jx) ["shelf","sieve","moment","columns"] rfl rfl<|by trivial) (il<|vG (dv 0) T.ah T.cX (oi T) hr<|al 2 an) (qY<|show(["row","columns","sieve"]:List Str).Nodup by trivial) (aW rfl) aX (λ_ _ _ _ _=>(if1<|tv<|aY T.passes (iq T 7) hr<|al 1<|al 2<|al 0 an)) λ_ _ _ _ _=>(dv 0)),?_};refine !{a,_,rfl,h.ins,rfl,a,F,cs,dl,rs,rfl,hS,?_};refine !{a,_,rfl,h.ins,rfl,_,rfl,a,F,cs,dl,rs,m,rfl,hS,hn,hv.mo,λi ss hi hp hs p lO=>?_,λh=>absurd h ZL};rw[hrw i ss hi hp hs];refine{_,aa,?_};refine ID aa (by show(rows.map aJ).length<=1000;rw[zc];have:=hv.len;lia) (λx hx Q Q' hQ JE=>?_) λout ho p2 lT=>?_;obtain⟨r,hr,rfl⟩:=ze.mp hx;exact !!!{cs,d,r,rfl,hg,hd.1,hv.rg.1 r hr,λb=>!⟨bD (λh=>!⟨hQ⟩) λh=>JE⟩};obtain⟨fu,wW,rfl⟩:=List.sublist_map_iff.mp<|show out.Sublist (rows.map aJ) from ho;exact{_,eU<|.new lO,q fu p2 wW<|dy (.new lO) lT};subst e;obtain⟨ld,lr,ra,h,_⟩:=id hS;refine{_,(sc (bX (i:=3) fh.nd<|nN (dv 0) T.ah T.aI (br T) hr)<|s1<|sr<|vp (N:=["row","columns","sieve"]) (src:=[none,some 3,some 1]) (lU (ae jx) ["shelf","sieve","moment","columns"] rfl rfl<|by trivial) (il<|vG (dv 0) T.ah T.cX (oi T) hr<|al 2 an) (qY<|show(["row","columns","sieve"]:List Str).Nodup by trivial) (aW rfl) aX (λ_ _ _ _ _=>(if1<|tv<|aY T.passes (iq T 7) hr<|al 1<|al 2<|al 0 an)) λ_ _ _ _ _=>(dv 0)),?_};refine !{a,_,rfl,h.ins,rfl,a,F,cs,dl,rs,rfl,hS,?_};exact !{a,_,rfl,h.ins,rfl,_,rfl,a,F,cs,dl,rs,m,rfl,hS,hn,Q8,λi ss hi=>(by rw[ZL]at hi;cases hi),λ_=>fo z}
def ZM(t:gm):gY:=λds S R Z=>∃a cs ps wy d m,ds=[.ref a,bO ps wy,d,m]/\Gd cs/\Og cs ps wy/\Sq cs d/\((∃rows,Vw t.aj S a cs m rows/\Tb t S/\∀(fu eC:List Row)(p:Addr),fu.Sublist rows->eC.Perm fu->S p=none->R (.ref p) (S.set p<|.lst<|eC.map aJ))\/(Bw t.aj S a cs m/\Z t.aA S))
theorem d_(T:Txt w K mg t)(B:Bm mg base):Ok P w base T.cS 12 (ZM t):=by
 refine T.cS.F.vF mI ?_;rintro _ _ _ _ _ _ ds S R Z hr ⟨a,cs,ps,wy,d,m,e,hg,ho,hd,ht⟩;subst e;obtain⟨F,dl,rs,hS⟩:∃F dl rs,bR t.aj S a F cs dl rs:=by rcases ht with⟨rows,hv,_⟩|⟨⟨F,dl,rs,h,_⟩,_⟩;obtain⟨F,dl,rs,h,_⟩:=hv.sh;exact⟨F,dl,rs,h⟩;exact⟨F,dl,rs,h⟩
 obtain⟨ld,lr,ra,h,_⟩:=id hS;refine{_,(s1<|sr<|aY T.rD (z_ T B) hr<|ac (nN (dv 0) T.ah T.aI (br T) hr)<|al 1<|ac (aY T.iI (pQ T) hr<|al 0<|al 2<|al 3 an) an),?_};refine !{a,_,rfl,h.ins,rfl,a,F,cs,dl,rs,rfl,hS,?_};rcases ht with⟨rows,hv,ht,q⟩|⟨hb,z⟩;refine !!!!{a,cs,d,m,rfl,hg,hd,.inl {rows,hv,λfu p ZO hp=>?_}};refine{cs,ps,wy,p,fu,rfl,hg,ho,aa,Nat.lt_of_le_of_lt ZO.length_le hv.len,hv.rg.sub ZO,ht.sub<|.new hp,λeC p2 pm lT=>?_};exact{_,eU<|.new hp,q fu eC p2 ZO pm<|dy (.new hp) lT};exact !!!!{a,cs,d,m,rfl,hg,hd,.inr {hb,fo z}}
theorem Cs(h:S p=some (.lst L)):Gt S (.ref p):={{.lst,.inl ⟨rfl,L,h⟩},λ_=>nofun}
theorem Qq:Gt S (.tup ws):={{.tup,rfl},λ_=>nofun}
theorem LM(h:ws.length<=1000)(g:∀v∈ws,Gt S v):Rm S (.tup ws):={Qq,λVd e=>by cases e;exact⟨h,g⟩}
theorem gt_int:Gt S (.int i):={{.int,rfl},λ_=>nofun}
theorem DL:Gt S (.bl i):={{.bl,rfl},λ_=>nofun}
theorem ku(h:z.cps.size<=1000):Gt S (.str z):={{.str,rfl},λz' e=>by cases e;exact h}
theorem Ab(h:jX d=true):Gt S d:=by cases d with|av=>exact oh|int i=>exact gt_int|str z=>have h:(decide (z.cps.size<=40)&&PyData.strOk z)=true:=h;rw[zR]at h;have:=zo h.1;exact ku (by lia)|_=>cases h
theorem so:∀{cs:List (Str×Str)}{ws:List D},Paired rel cs ws->ws.length=cs.length|_,_,.nil=>rfl|_,_,.cons _ t=>by rw[zD,zD,so t]
theorem Wg.len(h:Wg cs ws):ws.length=cs.length:=so h
theorem Wg.Qr(h:Wg cs ws):mM cs (.tup ws)=true:=by show(decide (ws.length=cs.length)&&(List.zipWith (λc v=>cF c.2 v) cs ws).all id)=true;rw[zA h.len,zS];unfold Wg at h;induction h with|nil=>rfl|cons r t ih=>rw[List.zipWith_cons_cons,List.all_cons,ih];show(id (cF _ _)&&true)=true;rw[show id (cF _ _)=true from r.1];rfl
theorem Wg.gts(h:Wg cs ws)(hc:cs.length<=8):Rm S (.tup ws):=LM (by rw[h.len];lia) λv hv=>Ab<|h.all v hv
theorem LN{n a b tn:Nat}(ha:a<n)(hb:b<n)(h:(a+tn)%n=(b+tn)%n):a=b:=by rcases Nat.lt_trichotomy a b with l|l|l;have:=Nat.sub_mod_eq_zero_of_mod_eq h.symm;rw[show b+tn-(a+tn)=b-a by lia,Nat.mod_eq_of_lt<|by lia]at this;lia;exact l;have:=Nat.sub_mod_eq_zero_of_mod_eq h;rw[show a+tn-(b+tn)=a-b by lia,Nat.mod_eq_of_lt<|by lia]at this;lia
noncomputable def su(cs:List<|Str×Str)(tn k:Nat):Str:=(cs.getD ((tn+k)%cs.length) ("","")).1
theorem Ac(h:0<cs.length):∃c∈cs,cs[(tn+k)%cs.length]?=some c/\c.1=su cs tn k:=by have j_:(tn+k)%cs.length<cs.length:=Nat.mod_lt _ h;refine{cs[(tn+k)%cs.length],List.getElem_mem j_,zh j_,?_};unfold su;rw[zJ,zh j_];rfl
theorem Ad{cs:List<|Str×Str}(hg:(cs.map Prod.fst).Nodup){tn i:Nat}(hi:i<=cs.length):((List.range i).map<|su cs tn).Nodup:=by
 refine List.pairwise_map.mpr<|List.nodup_range.imp_of_mem λ{a b} ha hb n e=>n ?_;have ha:=zT.mp ha;have hb:=zT.mp hb;have h0:0<cs.length:=by lia
 have la:(tn+a)%cs.length<cs.length:=Nat.mod_lt _ h0;have lb:(tn+b)%cs.length<cs.length:=Nat.mod_lt _ h0;unfold su at e;rw[zJ,zh la,zJ,zh lb]at e;have e:(cs[(tn+a)%cs.length]).1=(cs[(tn+b)%cs.length]).1:=e;have e2:(cs.map Prod.fst)[(tn+a)%cs.length]'(by rw[zc];exact la)=(cs.map Prod.fst)[(tn+b)%cs.length]'(by rw[zc];exact lb):=by rw[List.getElem_map,List.getElem_map];exact e
 have e3:=(List.getElem_inj hg).mp e2;rw[Nat.add_comm tn a,Nat.add_comm tn b]at e3;exact LN (n:=cs.length) (by lia) (by lia) e3
inductive uL (ds:List D) (S:ax) (R:KD) (Z:KX):Prop where
 |mk (cs:List<|Str×Str) (c:Int) (h0:ds=[.tup<|cs.map aC,.int c]) (h1:Gd cs) (h2:∀(ps:List Part)(wy:Str),Og cs ps wy->R (bO ps wy) S)
theorem IH(T:Txt w K mg t):Ok P w base T.vW 2 uL:=by
 refine T.vW.F.dQ eP ?_;obtain⟨cs,c0,e,hg,q⟩;have h8:=hg.1;have A5:(cs.map aC).length=cs.length:=zc _;refine{_,(sc (bX (i:=2) eP.nd<|aY T.iL (jW T) hr<|al 1<|ac di an)<|sc (bX (i:=3) eP.nd<|cb MJ T.M6 G4<|ac (cb bj T.aZ aM<|al 0 an)<|ac (BD<|ix hr.u (bV<|ac di<|ac di<|ac di<|ac di<|ac di<|ac di<|ac di<|ac di an)<|bo cn hr.u (ix hr.u (dv 2) di) di) an)<|sc (bX (i:=4) eP.nd<|bV an)<|sc (nJ<|BC (Hj T.dR<|al 3 an) (gn (i:=5) eP.nd)<|sc (bX (i:=6) eP.nd<|ix hr.u (ix hr.u (dv 0)<|bo cn hr.u (bo ba hr.u (ix hr.u (dv 2) di)<|dv 5)<|cb bj T.aZ aM<|al 0 an) di)<|s1<|se<|bm zH zL zM bq (dv 4)<|ac (a_<|al 6<|ac (BD<|ix hr.u (bV<|ac ds<|ac ds an)<|bo cn hr.u (ix hr.u (dv 2)<|bo ba hr.u di<|dv 5) di)<|ac (BD<|ix hr.u (bV<|ac ds<|ac ds an)<|bo cn hr.u (bo fc hr.u (ix hr.u (dv 2)<|bo ba hr.u di<|dv 5) di) di) an) an)<|s1<|sr<|a_<|ac (ct mn T.bL bp<|al 4 an)<|ac (BD<|ix hr.u (bV<|ac ds<|ac ds an)<|bo cn hr.u (ix hr.u (dv 2) di) di) an),?_};refine !{c0,12,rfl,by decide,λxs lx Na hx qH=>?_};have s1:=Sub.new (c:=.lst<|xs.map D.int) qH;have hX:(S.set lx<|.lst<|xs.map D.int) lx=some (.lst<|xs.map D.int):=aa;generalize S.set lx (.lst<|xs.map D.int)=S1 at s1 hX⊢;have at_:∀k:Nat,k<12->∃x:Int,j9 (xs.map D.int) ((k:Nat):Int)=some (.int x)/\0<=x:=λk hk=>mS (by lia) (by rw[zc];lia) hx;obtain⟨x0,e0,_⟩:=at_ 0 (by decide);obtain⟨x1,e1,x10⟩:=at_ 1 (by decide);obtain⟨x11,e11,_⟩:=at_ 11 (by decide);obtain⟨tn,rfl⟩:=Int.eq_ofNat_of_zero_le x10;refine !!{BZ,λp hp=>!{_,_,(Sub.new hp) _ _ hX,e0,by decide,dF (yc _<|by decide) (zY _<|by decide) hp λd hd=>?_}};obtain⟨m,rfl⟩:∃m:Nat,d=.int m:=by have hd:d∈[D.int 1,.int 2,.int 0,.int 3,.int 1,.int 2,.int 8,.int 3]:=hd;simp only[zg,zG,or_false]at hd;rcases hd with h|h|h|h|h|h|h|h;exact{1,h};exact{2,h};exact{0,h};exact{3,h};exact{1,h};exact{2,h};exact{8,h};exact{3,h}
 obtain⟨k,hk,ek⟩:∃k:Nat,k<=cs.length/\(if decide ((m:Int)<(((cs.map aC).length:Nat):Int))=true then (m:Int) else (((cs.map aC).length:Nat):Int))=(k:Int):=by rw[A5];by_cases h:(m:Int)<((cs.length:Nat):Int);exact{m,by lia,by rw[zA h,if_pos rfl]};exact{cs.length,zl _,by rw[zw h,if_neg zd]}
 refine{_,_,rfl,?_};have ek2:(if (λi j:Int=>decide<|i<j) ((m:Nat):Int) (((cs.map aC).length:Nat):Int)=true then ((m:Nat):Int) else (((cs.map aC).length:Nat):Int))=((k:Nat):Int):=ek;rw[ek2];refine{pN,λlp hlp=>?_};have nxp:lx≠lp:=iu hX hlp;refine{λaq S'=>∃(o5 o6:Option D)(ps:List Part),aq=[some<|.tup<|cs.map aC,some<|.int c0,some<|.ref lx,some<|.int (k:Nat),some<|.ref lp,o5,o6]/\ps.map Prod.fst=(List.range k).map (su cs tn)/\(∀p∈ps,eZ p.2.1=true/\tL p.2.2=true)/\S'=S1.set lp (.lst<|ps.map p3),?_,?_};refine !{((k:Nat):Int),rfl,by lia,by lia,?_};refine{λi aq S'=>∃(o5 o6:Option D)(ps:List Part),aq=[some<|.tup<|cs.map aC,some<|.int c0,some<|.ref lx,some<|.int (k:Nat),some<|.ref lp,o5,o6]/\ps.map Prod.fst=(List.range i).map (su cs tn)/\(∀p∈ps,eZ p.2.1=true/\tL p.2.2=true)/\S'=S1.set lp (.lst<|ps.map p3),{none,none,[],rfl,rfl,λ_ h=>(nomatch h),rfl},λ_ _ _ _=>trivial,?_,?_};rintro i d aq S' hd ⟨o5,o6,ps,rfl,hn,cK,rfl⟩;have hd:(eI 0 ((k:Nat):Int).toNat)[i]?=some d:=hd;obtain⟨hi,rfl⟩:=cI hd;have hi:i<k:=by lia
 have eE:ps.length=i:=by have:=congrArg List.length hn;simpa using this
 obtain⟨c,hc,ec,ZP⟩:=Ac (cs:=cs) (tn:=tn) (k:=i) (by lia);have Cb:(S1.set lp<|.lst<|ps.map p3) lx=some (.lst<|xs.map D.int):=(ag nxp).trans hX;have hP2:(S1.set lp<|.lst<|ps.map p3) lp=some (.lst<|ps.map p3):=aa;have eat:j9 (cs.map aC) ((((tn:Nat):Int)+(0+((i:Nat):Int)))%(((cs.map aC).length:Nat):Int))=some (aC c):=by rw[A5,show(((tn:Nat):Int)+(0+((i:Nat):Int)))%((cs.length:Nat):Int)=(((tn+i)%cs.length:Nat):Int) by rw[Int.zero_add,Int.natCast_emod,Int.natCast_add]];refine eS ?_;rw[zu,ec];rfl
 obtain⟨xi,Wu,_⟩:=at_ (2+i) (by lia);have Wu:j9 (xs.map D.int) (2+(0+((i:Nat):Int)))=some (.int xi):=by rw[show(2:Int)+(0+((i:Nat):Int))=((2+i:Nat):Int) by lia];exact Wu
 refine !!{_,_,Cb,e1,_,rfl,_,rfl,_,rfl,by rw[A5];lia,_,eat,_,rfl,?_};refine{_,rfl,{rfl,_,hP2},_,rfl,ib,λp hp=>!!{_,_,(Sub.new hp) _ _ Cb,Wu,by decide,dF (yc _<|by decide) (zY _<|by decide) hp λd hd=>?_}};obtain⟨wy,rfl,JG⟩:∃wy:Str,d=.str wy/\eZ wy=true:=by have hd:d∈[D.str "up",.str "down"]:=hd;simp only[zg,zG,or_false]at hd;rcases hd with h|h;exact{_,h,by trivial};exact{_,h,by trivial}
 refine{ib,λp hp=>!!{_,_,(Sub.new hp) _ _ Cb,Wu,{by decide,by trivial},by decide,dF (yc _<|by decide) (zY _<|by decide) hp λd hd=>?_}};obtain⟨en,rfl,Az⟩:∃en:Str,d=.str en/\tL en=true:=by have hd:d∈[D.str "first",.str "last"]:=hd;simp only[zg,zG,or_false]at hd;rcases hd with h|h;exact{_,h,by trivial};exact{_,h,by trivial}
 refine{rK,lp,_,_,rfl,rfl,hP2,bg<|by rw[zc];lia,?_};refine{_,_,ps++[(c.1,wy,en)],rfl,?_,λx hx=>?_,?_};rw[zE,hn,List.range_succ,zE];show _=_++[su cs tn i];rw[<-ZP];rfl;rcases zO.mp hx with h|h;exact cK x h;rw[zr.mp h];exact⟨JG,Az⟩;rw[b_,zE];rfl;rintro aq S' ⟨o5,o6,ps,rfl,hn,cK,rfl⟩;rw[show({eI 0 ((k:Nat):Int).toNat,λ_=>True}:sY).xs.length=((k:Nat):Int).toNat from cH,show((k:Nat):Int).toNat=k by lia]at hn;exact fo ⟨o5,o6,ps,rfl,hn,cK,rfl⟩;rintro aq S' ⟨o5,o6,ps,rfl,hn,cK,rfl⟩;have Cb:(S1.set lp<|.lst<|ps.map p3) lx=some (.lst<|xs.map D.int):=(ag nxp).trans hX;refine !{_,_,rfl,.inl aa,ib,λp hp=>!{_,_,(Sub.new hp) _ _ Cb,e11,by decide,dF (yc _<|by decide) (zY _<|by decide) hp λd hd=>?_}};obtain⟨wy,rfl,JG⟩:∃wy:Str,d=.str wy/\eZ wy=true:=by have hd:d∈[D.str "up",.str "down"]:=hd;simp only[zg,zG,or_false]at hd;rcases hd with h|h;exact{_,h,by trivial};exact{_,h,by trivial}
 have eE:ps.length=k:=by have:=congrArg List.length hn;simpa using this
 have pin:Pin cs ps:=λx hx=>by have:x.1∈ps.map Prod.fst:=ze.mpr ⟨x,hx,rfl⟩;rw[hn]at this;obtain⟨k,hk,e⟩:=ze.mp this;have:=zT.mp hk;obtain⟨c,hc,_,ec⟩:=Ac (cs:=cs) (tn:=tn) (k:=k) (by lia);exact{c,hc,ec.trans e}
 refine{ib,S,s1.trans<|.new hlp,q ps wy {pin,λx hx=>(cK x hx).1,JG,?_,λx hx=>?_}};unfold Il;rw[zA<|show ps.length<=8 by lia,zS,zR,zR];refine{yk.mpr λx hx=>?_,zA<|by rw[hn];exact Ad hg.2.1 hk,JG};obtain⟨c,hc,ec⟩:=pin x hx;unfold y8;rw[zA<|ze.mpr ⟨c,hc,ec⟩,(cK x hx).1,(cK x hx).2];rfl;obtain⟨c,hc,ec⟩:=pin x hx;obtain⟨h1,h2⟩:=cK x hx;refine{by rw[<-ec];exact uC (hg.2.2 c hc).1,by rcases wB h1 with e|e<;>rw[e]<;>decide +kernel,?_};unfold tL at h2;simp only[Bool.or_eq_true,yo]at h2;rcases h2 with e|e<;>rw[e]<;>decide +kernel
theorem DM:∀{l:List Str}{p:Str},PyProof.Rows.risingS p l=true->(p::l).Pairwise λa b=>a.cps.toList<=b.cps.toList|[],p,_=>List.pairwise_singleton _ _|x::r,p,h=>by have h:(!PySem.Spec.ltCps x.cps.toList p.cps.toList&&PyProof.Rows.risingS x r)=true:=h;rw[zR,PyProof.Rows.ltCps_eq,Bool.not_eq_true',decide_eq_false_iff_not]at h;have ih:=DM h.2;have hpx:p.cps.toList<=x.cps.toList:=List.not_lt.mp h.1;refine List.pairwise_cons.mpr {λy hy=>?_,ih};rcases zg.mp hy with e|hy;rw[e];exact hpx;exact List.le_trans hpx<|(List.pairwise_cons.mp ih).1 y hy
theorem kx(h:PyProof.Rows.sortedS l=true):l.Pairwise λa b=>a.cps.toList<=b.cps.toList:=by cases l with|nil=>exact List.Pairwise.nil|cons x r=>exact DM h
theorem LO{a b:Str}(h:a.cps.toList=b.cps.toList):a=b:=by obtain⟨⟨x⟩⟩:=a;obtain⟨⟨y⟩⟩:=b;cases h;rfl
theorem uM{l m:List Str}(hl:l.Pairwise λa b=>a.cps.toList<=b.cps.toList)(hm:m.Pairwise λa b=>a.cps.toList<=b.cps.toList)(nl:l.Nodup)(nm:m.Nodup)(h:∀z,z∈l↔z∈m):l=m:=List.Perm.eq_of_pairwise (λa b _ _ h1 h2=>LO<|List.le_antisymm h1 h2) hl hm<|(List.perm_ext_iff_of_nodup nl nm).mpr h
def TI(l:List Std)(n:Nat):Prop:=∀s∈l,s.b<=n/\∀m,s.e=some m->m<n
noncomputable def LP(s:Std):D:=match s.e with|none=>.tup s.ws|some _=>.av
noncomputable def cur(l:List Std):D:=match l.getLast? with|none=>.av|some s=>LP s
theorem j6(r:List Std)(s:Std):cur (r++[s])=LP s:=by unfold cur;rw[List.getLast?_concat]
theorem Qs(h:TI l n):wt l n=cur l:=by by_cases e:l=[];subst e;rfl;obtain⟨r,s,rfl⟩:=kr e;rw[j6];unfold wt;rw[List.reverse_append];obtain⟨h1,h2⟩:=h s<|zC _<|zr.mpr rfl;show HW (s::r.reverse) (n:Int)=_;unfold HW LP;rw[if_pos<|show(s.b:Int)<=(n:Int) by lia];cases q:s.e with|none=>rfl|some m=>have:=h2 m q;exact if_neg<|show ¬(n:Int)<=(m:Int) by lia
theorem TI.up(h:TI l n):TI l (n+1):=λs hs=>{Nat.le_succ_of_le (h s hs).1,λm e=>Nat.lt_succ_of_lt<|(h s hs).2 m e}
theorem TI.close(h:TI l n):TI (iO n l) (n+1):=by by_cases e:l=[];subst e;exact λs hs=>(nomatch hs);obtain⟨r,s,rfl⟩:=kr e;rw[eX];intro x hx;rcases zO.mp hx with hx|hx;exact h.up x<|zU _ hx;rw[zr.mp hx];exact{Nat.le_succ_of_le (h s<|zC _<|zr.mpr rfl).1,λm e=>by cases e;exact Nat.lt_succ_self _}
theorem TI.beg(h:TI l<|n+1):TI (l++[Std.mk (n+1) none ws]) (n+1):=λs hs=>by rcases zO.mp hs with hs|hs;exact h s hs;rw[zr.mp hs];exact{zl _,λm e=>(by cases e)}
theorem Fw:cur (iO n l)=.av:=by by_cases e:l=[];subst e;rfl;obtain⟨r,s,rfl⟩:=kr e;rw[eX,j6];rfl
noncomputable def pR(kn:Kn)(z:Str):D:=match iR kn z with|none=>.av|some ws=>.tup ws
structure RI(rs:lW)(n:Nat)(kn:Kn):Prop where
 ti:∀z,TI ((lu rs z).getD []) n
 eq:∀z,cur ((lu rs z).getD [])=pR kn z
 ks:∀r∈rs,r.1∈KS
theorem LQ(h:r∈B7 rs z s):r.1=z\/∃r'∈rs,r'.1=r.1:=by unfold B7 at h;split at h;obtain⟨r0,nh,e⟩:=ze.mp h;refine .inr {r0,nh,?_};subst e;split<;>rfl;rcases zO.mp h with h|h;exact .inr ⟨r,h,rfl⟩;rw[zr.mp h];exact .inl rfl
theorem II(h:∀r∈rs,r.1∈KS)(hz:z∈KS):∀r∈B7 rs z s,r.1∈KS:=λr hr=>by rcases LQ hr with e|⟨r',wW,e⟩;rw[e];exact hz;rw[<-e];exact h r' wW
theorem DN:pR (pO kn z ws) k=if k=z then .tup ws else pR kn k:=by unfold pR;rw[LD];by_cases h:k=z;rw[if_pos h,if_pos h];rw[if_neg h,if_neg h]
theorem DP:pR (wz kn z) k=if k=z then .av else pR kn k:=by unfold pR;rw[LF];by_cases h:k=z;rw[if_pos h,if_pos h];rw[if_neg h,if_neg h]
theorem RI.nil:RI [] 0 []:={λz s hs=>(nomatch hs),λz=>rfl,λr hr=>(nomatch hr)}
theorem RI.put(h:RI rs n kn)(hz:z∈KS):RI (tJ rs z (n+1) ws) (n+1) (pO kn z ws):=by refine{λk=>?_,λk=>?_,II h.ks hz};unfold tJ;rw[jU];by_cases e:k=z;rw[if_pos e];exact(h.ti z).up.beg;rw[if_neg e];exact(h.ti k).up;unfold tJ;rw[jU,DN];by_cases e:k=z;rw[if_pos e,if_pos e];exact j6 _ _;rw[if_neg e,if_neg e];exact h.eq k
theorem RI.del(h:RI rs n kn)(hz:z∈KS):RI (og rs z n) (n+1) (wz kn z):=by refine{λk=>?_,λk=>?_,II h.ks hz};unfold og;rw[jU];by_cases e:k=z;rw[if_pos e];exact(h.ti z).close;rw[if_neg e];exact(h.ti k).up;unfold og;rw[jU,DP];by_cases e:k=z;rw[if_pos e,if_pos e];exact Fw;rw[if_neg e,if_neg e];exact h.eq k
theorem RI.change(h:RI rs n kn)(hz:z∈KS):RI (tJ (og rs z n) z (n+1) ws) (n+1) (pO kn z ws):=by have h1:=h.del hz;refine{λk=>?_,λk=>?_,II h1.ks hz};unfold tJ;rw[jU];by_cases e:k=z;rw[if_pos e];exact(h1.ti z).beg;rw[if_neg e];exact h1.ti k;unfold tJ;rw[jU,DN];by_cases e:k=z;rw[if_pos e,if_pos e];exact j6 _ _;rw[if_neg e,if_neg e,h1.eq k,DP,if_neg e]
theorem RI.wt{rs:lW}{n:Nat}{kn:Kn}(h:RI rs n kn)(z:Str):wt ((lu rs z).getD []) n=pR kn z:=by rw[Qs<|h.ti z,h.eq]
theorem RI.AF(h:RI rs n kn)(hz:z∈KS):AF rs (.str z) n=pR kn z:=by rw[wu (lP z hz).1,h.wt]
theorem oq(kn:Kn)(z:Str):ay (pR kn z)=!(iR kn z).isSome:=by unfold pR;cases iR kn z<;>rfl
theorem IJ(h:bR C S a F cs dl rs):(rs.map (·.1)).Nodup:=by obtain⟨ld,lr,ra,h,_,rfl⟩:=h;unfold ig;rw[zB];exact h.kn
theorem RI.len(h:RI rs n kn)(hs:bR C S a F cs dl rs):rs.length<=60:=by
 have:=sub_len (IJ hs) (m:=KS) λx hx=>by obtain⟨r,hr,rfl⟩:=ze.mp hx;exact h.ks r hr
 rw[zc]at this;exact zK this<|by trivial
noncomputable def Fx(kn:Kn)(ss:List Str):List D:=ss.map λz=>.tup [.str z,pR kn z]
theorem Nk(h:lu rs k=some s):k∈rs.map (·.1):=by induction rs with|nil=>(cases h)|cons r rs ih=>rw[fA]at h;rw[zQ];by_cases e:r.1=k;exact zg.mpr<|.inl e.symm;rw[if_neg e]at h;exact zj _<|ih h
theorem IK{C a:Addr}{S:ax}{F:List Addr}{cs:List<|Str×Str}{dl:List D}{rs:lW}{kn:Kn}(h:RI rs dl.length kn)(hs:bR C S a F cs dl rs)(hI:KI cs kn){ss s2:List Str} (p1:ss.Perm (rs.map (·.1))) (o1:PyProof.Rows.sortedS ss=true) (p2:s2.Perm (kn.map (·.1))) (o2:PyProof.Rows.sortedS s2=true):eQ rs dl.length ss=Fx kn s2:=by
 have e:ss.filter (λz=>!ay (wt ((lu rs z).getD []) dl.length))=s2:=by refine uM ((kx o1).filter _) (kx o2) ?_ (p2.nodup_iff.mpr hI.nd) λz=>?_;exact List.filter_sublist.nodup<|p1.nodup_iff.mpr<|IJ hs;rw[List.mem_filter,h.wt,oq,Bool.not_not,p1.mem_iff,p2.mem_iff];constructor;rintro⟨_,hz⟩;obtain⟨ws,tM⟩:=Option.isSome_iff_exists.mp hz;exact ze.mpr {_,mT tM,rfl};intro hz;obtain⟨ws,tM⟩:=jY hz;refine{?_,by rw[tM];rfl};have e:=h.eq z;unfold pR at e;rw[tM]at e;cases q:lu rs z with|none=>(rw[q]at e;cases e)|some s=>exact Nk q
 unfold eQ Fx;rw[e];refine zX λz _=>?_;unfold tK;rw[h.wt]
theorem Qt(hI:KI cs kn)(p:ss.Perm (kn.map (·.1))):∀d∈Fx kn ss,Ly S 60 d:=λd hd=>by
 obtain⟨z,hz,rfl⟩:=ze.mp hd;obtain⟨ws,tM⟩:=jY<|p.mem_iff.mp hz;obtain⟨hzK,hwg⟩:=hI.ok _<|mT tM;have e:pR kn z=.tup ws:=by unfold pR;rw[tM]
 rw[e];refine(Ly.tup (n:=1) λx hx=>?_).le (by decide);simp only[zg,zG,or_false]at hx;rcases hx with rfl|rfl;exact(Ly.str (lP z hzK).2.2).le (by decide);exact hwg.ly
noncomputable def ot(k:Nat)(l:List Std):List Std:=match l.getLast? with|none=>l|some s=>match s.e with|none=>iO k l|some _=>l
theorem pb(h:s.e=none):ot k (r++[s])=r++[Std.mk s.b (some k) s.ws]:=by unfold ot;rw[List.getLast?_concat];dsimp only;rw[h];exact eX _ _ _
theorem Ae(h:s.e=some n):ot k (r++[s])=r++[s]:=by unfold ot;rw[List.getLast?_concat];dsimp only;rw[h]
theorem LR{s:Std}{r:List Std}{m:Nat}(h:m<s.b):HW (s::r) m=HW r m:=by show(if (s.b:Int)<=(m:Int) then _ else HW r m)=_;rw[if_neg<|by lia]
theorem Fy(hm:m<=n):wt (ot n l) m=wt l m:=by by_cases e:l=[];subst e;rfl;obtain⟨r,s,rfl⟩:=kr e;cases q:s.e with|some k=>rw[Ae q]|none=>rw[pb q];unfold wt;rw[List.reverse_append,List.reverse_append];show(if (s.b:Int)<=(m:Int) then (if (m:Int)<=(n:Int) then D.tup s.ws else .av) else HW r.reverse m)=(if (s.b:Int)<=(m:Int) then (match s.e with|none=>.tup s.ws|some n=>if (m:Int)<=(n:Int) then .tup s.ws else .av) else HW r.reverse m);rw[q,if_pos<|show(m:Int)<=(n:Int) by lia]
theorem Ct(h:cur l≠.av):ot n l=iO n l:=by by_cases e:l=[];subst e;rfl;obtain⟨r,s,rfl⟩:=kr e;rw[j6]at h;cases q:s.e with|none=>rw[pb q,eX]|some m=>unfold LP at h;rw[q]at h;exact absurd rfl h
noncomputable def i9(kn:Kn)(ss:List Str):List Row:=ss.map λz=>(z,(iR kn z).getD [])
structure Snap(rs:lW)(cs:List (Str×Str))(m:Nat)(rows:List Row):Prop where
 ex:∃kn ss,rows=i9 kn ss/\KI cs kn/\ss.Perm (kn.map (·.1))/\PyProof.Rows.sortedS ss=true/\∀z,wt ((lu rs z).getD []) m=pR kn z
theorem kz(p:ss.Perm (kn.map (·.1))):(i9 kn ss).map aJ=Fx kn ss:=by unfold i9 Fx;rw[zB];refine zX λz hz=>?_;obtain⟨ws,tM⟩:=jY<|p.mem_iff.mp hz;show D.tup [.str z,.tup<|(iR kn z).getD []]=.tup [.str z,pR kn z];unfold pR;rw[tM];rfl
theorem IL(hI:KI cs kn)(p:ss.Perm (kn.map (·.1))):Rg cs (i9 kn ss):=by refine{λr hr=>?_,?_};obtain⟨z,hz,rfl⟩:=ze.mp hr;obtain⟨ws,tM⟩:=jY<|p.mem_iff.mp hz;show Wg cs ((iR kn z).getD []);rw[tM];exact(hI.ok _<|mT tM).2;unfold i9;rw[zB];show(ss.map id).Nodup;rw[List.map_id];exact p.nodup_iff.mpr hI.nd
theorem Fz(hI:KI cs kn)(p:ss.Perm (kn.map (·.1))):(i9 kn ss).length<=60:=by unfold i9;rw[zc,p.length_eq,zc];exact hI.len
theorem Snap.rg(h:Snap rs cs m rows):Rg cs rows/\rows.length<=60:=by obtain⟨kn,ss,rfl,hI,p,_⟩:=h.ex;exact{IL hI p,Fz hI p}
theorem Snap.key(h:Snap rs cs m rows):∀r∈rows,r.1∈KS:=by obtain⟨kn,ss,rfl,hI,p,_⟩:=h.ex;intro r hr;obtain⟨z,hz,rfl⟩:=ze.mp hr;obtain⟨ws,tM⟩:=jY<|p.mem_iff.mp hz;exact(hI.ok _<|mT tM).1
theorem FA{C a:Addr}{S:ax}{F:List Addr}{cs:List<|Str×Str}{dl:List D}{rs:lW}{m:Nat}{rows:List Row}(h:Snap rs cs m rows)(hs:bR C S a F cs dl rs){ss:List Str} (p1:ss.Perm (rs.map (·.1))) (o1:PyProof.Rows.sortedS ss=true):eQ rs m ss=rows.map aJ:=by
 obtain⟨kn,s2,rfl,hI,p2,o2,hw⟩:=h.ex;rw[kz p2];have e:ss.filter (λz=>!ay (wt ((lu rs z).getD []) m))=s2:=by refine uM ((kx o1).filter _) (kx o2) ?_ (p2.nodup_iff.mpr hI.nd) λz=>?_;exact List.filter_sublist.nodup<|p1.nodup_iff.mpr<|IJ hs;rw[List.mem_filter,hw,oq,Bool.not_not,p1.mem_iff,p2.mem_iff];constructor;rintro⟨_,hz⟩;obtain⟨ws,tM⟩:=Option.isSome_iff_exists.mp hz;exact ze.mpr {_,mT tM,rfl};intro hz;obtain⟨ws,tM⟩:=jY hz;refine{?_,by rw[tM];rfl};have e:=hw z;unfold pR at e;rw[tM]at e;cases q:lu rs z with|none=>(rw[q]at e;cases e)|some s=>exact Nk q
 unfold eQ Fx;rw[e];refine zX λz _=>?_;unfold tK;rw[hw]
def HI(rs:lW)(cs:List<|Str×Str)(n:Nat)(hs:List<|List Row):Prop:=hs.length=n+1/\∀m rows,hs[m]?=some rows->Snap rs cs m rows
theorem HI.step{rs eC:lW}{cs:List<|Str×Str}{n:Nat}{hs:List<|List Row}(h:HI rs cs n hs)(old:∀z m,m<=n->wt ((lu eC z).getD []) m=wt ((lu rs z).getD []) m){kn:Kn}(hI:KI cs kn)(hR:RI eC (n+1) kn){ss:List Str}(p:ss.Perm (kn.map (·.1)))(o:PyProof.Rows.sortedS ss=true):HI eC cs (n+1) (hs++[i9 kn ss]):=by
 refine{by rw[zp,h.1];rfl,λm rows e=>?_};by_cases hm:m<hs.length;rw[List.getElem?_append_left hm]at e;obtain⟨kn0,s0,e0,h1,h2,h3,h4⟩:=(h.2 m rows e).ex;have:=h.1;exact{kn0,s0,e0,h1,h2,h3,λz=>(old z m<|by lia).trans<|h4 z};rw[List.getElem?_append_right<|by lia]at e;have MS:m-hs.length=0:=by cases q:m-hs.length with|zero=>rfl|succ k=>rw[q]at e;simp at e
 rw[MS]at e;cases e;have:=h.1;have hmn:m=n+1:=by lia
 subst hmn;exact{kn,ss,rfl,hI,p,o,λz=>hR.wt z}
theorem Qu{l:List Std}{n m:Nat}{ws:List D}(hm:m<=n):wt (l++[Std.mk (n+1) none ws]) m=wt l m:=by unfold wt;rw[List.reverse_append];exact LR<|show m<n+1 by lia
theorem DQ(k:Str)(m:Nat)(hm:m<=n):wt ((lu (tJ rs z (n+1) ws) k).getD []) m=wt ((lu rs k).getD []) m:=by unfold tJ;rw[jU];by_cases e:k=z;rw[if_pos e,e];exact Qu hm;rw[if_neg e]
theorem DR(h:RI rs n kn)(hz:(iR kn z).isSome=true)(k:Str)(m:Nat)(hm:m<=n):wt ((lu (og rs z n) k).getD []) m=wt ((lu rs k).getD []) m:=by
 unfold og;rw[jU];by_cases e:k=z;rw[if_pos e,e];have hc:cur ((lu rs z).getD [])≠.av:=by rw[h.eq];unfold pR;cases q:iR kn z with|none=>(rw[q]at hz;cases hz)|some ws=>exact λe=>by cases e
 show wt (iO n<|(lu rs z).getD []) m=_;rw[<-Ct hc,Fy hm];rw[if_neg e]
theorem IM(hz:z∈KS):Gt S (.str z):=ku<|by have:=(lP z hz).2.1;lia
section
variable{t:gm}{S:ax}{a:Addr}{F:List Addr}{cs:List (Str×Str)}{dl:List D}{rs:lW}{kn:Kn}{d:D}{R:KD}{Z:KX}
theorem IP(hz:z∈KS)(h:Wg cs ws):n8 cs (.str z) (.tup ws)=true:=by unfold n8;rw[h.Qr,show ofStr fz (.str z)=true from(lP z hz).1];rfl
theorem Cu(hR:RI rs dl.length kn)(hz:z∈KS):ay (AF rs (.str z) dl.length)=!(iR kn z).isSome:=by rw[hR.AF hz,oq]
theorem Vi(h:iR kn z=none):(!(iR kn z).isSome)=true:=by rw[h];rfl
theorem IQ(h:(iR kn z).isSome=true):(!(iR kn z).isSome)=false:=by rw[h];rfl
theorem tf{b:Bool}(h1:b=true)(h2:b=false){p:Prop} : p:=by rw[h1]at h2;cases h2
theorem bR.out(hS:bR C S a F cs dl rs)(hb:S b=none):b∉F:=λm=>by obtain⟨ld,lr,ra,h,rfl,_⟩:=hS;unfold fp at m;simp only[zg,ze]at m;rcases m with e|e|e|⟨r,hr,e⟩;have:=h.ins;rw[<-e,hb]at this;cases this;have:=h.y1;rw[<-e,hb]at this;cases this;have:=h.run;rw[<-e,hb]at this;cases this;have:=h.cell r hr;rw[e,hb]at this;cases this
theorem bR.off(hS:bR C S a F cs dl rs)(hp:p∉F):bR C (S.set p c) a F cs dl rs:=by obtain⟨ld,lr,ra,hh,rfl,e2⟩:=hS;unfold fp at hp;simp only[zg,not_or]at hp;obtain⟨n1,n2,n3,n4⟩:=hp;exact{ld,lr,ra,{(ag<|Ne.symm n1).trans hh.ins,(ag<|Ne.symm n2).trans hh.y1,(ag<|Ne.symm n3).trans hh.run,λr hr=>(ag λe=>n4<|by rw[<-e];exact ze.mpr ⟨r,hr,rfl⟩).trans<|hh.cell r hr,hh.kn,hh.an,hh.sz},rfl,e2}
structure Dos(t:gm)(ds:List D)(S:ax)(R:KD)(Z:KX):Prop where
 of:Cc t ds S R Z
theorem FC(hS:bR t.aj S a F cs dl rs)(hg:Gd cs)(hI:KI cs kn)(hR:RI rs dl.length kn)(hl:dl.length<=100)(hd:GD KS cs kn d){qj:Kn}(ZQ:ZA kn d qj) (q:∀S' F' eC,bR t.aj S' a F' cs (dl++[d]) eC->B9 F F' S S'->RI eC (dl.length+1) qj->(∀z m,m<=dl.length->wt ((lu eC z).getD []) m=wt ((lu rs z).getD []) m)->R .av S'):Dos t [.ref a,d] S R Z:=by
 have hrl:=hR.len hS;have Vj:=hg.1;obtain⟨ld,lr,ra,h,_,_⟩:=id hS;refine{a,_,h.ins,rfl,?_};rcases hd with⟨z,ws,hz,hw,hn,rfl⟩|⟨z,ws,hz,hw,hn,rfl⟩|⟨z,hz,hn,rfl⟩;have ro:=IP hz hw;have st:=(Cu hR hz).trans<|Vi hn;refine .inl {_,_,rfl,a,F,cs,_,rs,_,_,rfl,hS,Vj,IM hz,hw.gts Vj,by lia,by lia,λe=>tf ro e,λ_ e=>tf st e,λz' Vd e1 e2 _ _ S' F' p8 hK=>?_};cases e1;cases e2;have Vk:qj=pO kn z ws:=by rcases ZQ with⟨n,y,vs,_,e1,e2⟩|⟨y,_,e1,_⟩<;>cases e1;exact e2
 subst Vk;exact q S' F' _ p8 hK (hR.put hz) DQ;have ro:=IP hz hw;have st:=(Cu hR hz).trans<|IQ hn;refine .inr<|.inl {_,_,rfl,a,F,cs,_,rs,_,_,rfl,hS,Vj,IM hz,hw.gts Vj,by lia,by lia,λe=>tf ro e,λ_ e=>tf e st,λz' Vd e1 e2 _ _ S' F' p8 hK=>?_};cases e1;cases e2;have Vk:qj=pO kn z ws:=by rcases ZQ with⟨n,y,vs,_,e1,e2⟩|⟨y,_,e1,_⟩<;>cases e1;exact e2
 subst Vk;exact q S' F' _ p8 hK (hR.change hz) λk m hm=>(DQ k m hm).trans<|DR hR hn k m hm;have st:=(Cu hR hz).trans<|IQ hn;refine .inr<|.inr !{a,F,cs,_,rs,_,rfl,hS,IM hz,by lia,λe=>tf (lP z hz).1 e,λ_ e=>tf e st,λz' e1 _ _ S' p8 hK=>?_};cases e1;have Vk:qj=wz kn z:=by rcases ZQ with⟨n,y,vs,_,e1,e2⟩|⟨y,_,e1,e2⟩<;>cases e1;exact e2
 subst Vk;exact q S' F _ p8 hK (hR.del hz)<|DR hR hn
theorem Snap.vw(h:Snap rs cs m rows)(hS:bR t.aj S a F cs dl rs)(hR:RI rs dl.length kn)(hm:oa dl.length md=some (m:Int))(Q8:Gt S md):Vw t.aj S a cs md rows:=by have:=h.rg;refine{{F,dl,rs,hS,by have:=hR.len hS;lia,(λe=>by rw[hm]at e;cases e),λi ss hi hp hs=>?_},Q8,by lia,this.1};rw[hm]at hi;cases hi;exact FA h hS hp hs
end
def Wv(S:ax)(F:List Addr)(S':ax):Prop:=∀b c,S b=some c->b∉F/\S' b=some c
theorem Wv.sub(h:Wv S F S'):Sub S S':=λb c e=>(h b c e).2
theorem KI.nil(cs:List<|Str×Str):KI cs []:={List.nodup_nil,λ_ h=>(nomatch h)}
theorem mY(ns:List Int)(lo hi:Option Int):cW (ns.map D.int) lo hi=(cW ns lo hi).map D.int:=by unfold cW;rw[zc,List.map_take,List.map_drop]
structure St(t:gm)(S0:ax)(a:Addr)(fs:List (Addr×Ce))(F:List Addr)(cs:List (Str×Str))(dl:List D)(rs:lW)(S:ax):Prop where
 sh:bR t.aj S a F cs dl rs
 fa:∀x∈fs,S x.1=some x.2/\x.1∉F/\S0 x.1=none
 nd:(fs.map Prod.fst).Nodup
 FR:Wv S0 F S
section
variable{t:gm}{S0:ax}{a:Addr}{fs:List (Addr×Ce)}{F:List Addr}{cs:List (Str×Str)}{dl:List D}{rs:lW}{S:ax}
theorem St.at(h:St t S0 a fs F cs dl rs S)(i:Nat)(e:fs[i]?=some (b,c)):S b=some c:=(h.fa _<|zI e).1
theorem St.sub(h:St t S0 a fs F cs dl rs S)(b:Sub S S'):St t S0 a fs F cs dl rs S':={h.sh.sub b,λx hx=>{b _ _ (h.fa x hx).1,(h.fa x hx).2},h.nd,λx c hx=>{(h.FR x c hx).1,b _ _ (h.FR x c hx).2}}
theorem St.zero(h:St t S0 a fs F cs dl rs S)(hb:S b=none):S0 b=none:=by cases e:S0 b with|none=>rfl|some c=>have:=h.FR.sub _ _ e;rw[hb]at this;cases this
theorem St.new(h:St t S0 a fs F cs dl rs S)(hp:S p=none)(c:Ce):St t S0 a (fs++[(p,c)]) F cs dl rs (S.set p c):=by
 have h1:=h.sub<|.new (c:=c) hp;refine{h1.sh,λx hx=>?_,?_,h1.FR};rcases zO.mp hx with hx|hx;exact h1.fa x hx;rw[zr.mp hx];exact{aa,h.sh.out hp,h.zero hp};rw[zE,List.nodup_append];refine{h.nd,by simp,λx hx y hy e=>?_};obtain⟨z,hz,rfl⟩:=ze.mp hx;have hy:y=p:=by simpa using hy
 have:=(h.fa z hz).1;rw[e,hy,hp]at this;cases this
theorem St.put(h:St t S0 a fs F cs dl rs S)(i:Nat)(e:fs[i]?=some (b,c))(c':Ce):St t S0 a (fs.set i (b,c')) F cs dl rs (S.set b c'):=by
 have hb:=h.fa _<|zI e;have hi:=(zt.mp e).1;have em:(fs.set i (b,c')).map Prod.fst=fs.map Prod.fst:=by refine List.ext_getElem? λj=>?_;rw[zu,zu];by_cases q:j=i;subst q;rw[List.getElem?_set_self hi,e];rfl;rw[List.getElem?_set_ne<|Ne.symm q]
 refine{h.sh.off hb.2.1,λx hx=>?_,by rw[em];exact h.nd,λx c hx=>{(h.FR x c hx).1,(ag<|iu hx hb.2.2).trans (h.FR x c hx).2}};obtain⟨j,hj⟩:=yB hx;by_cases q:j=i;subst q;rw[List.getElem?_set_self hi]at hj;cases hj;exact⟨aa,hb.2⟩;rw[List.getElem?_set_ne<|Ne.symm q]at hj;have GW:=h.fa x<|zI hj;refine{(ag λe2=>q ?_).trans GW.1,GW.2};have a1:(fs.map Prod.fst)[j]?=some x.1:=by rw[zu,hj];rfl
 have a2:(fs.map Prod.fst)[i]?=some b:=by rw[zu,e];rfl
 obtain⟨b1,c1⟩:=zt.mp a1;obtain⟨b2,c2⟩:=zt.mp a2;exact(List.getElem_inj h.nd (h₀:=b1) (h₁:=b2)).mp<|by rw[c1,c2];exact e2
theorem St.perm(h:St t S0 a fs F cs dl rs S)(p:QS.Perm fs):St t S0 a QS F cs dl rs S:={h.sh,λx hx=>h.fa x<|p.mem_iff.mp hx,(p.map _).nodup_iff.mpr h.nd,h.FR}
theorem St.less(h:St t S0 a fs F cs dl rs S)(n:(QS.map Prod.fst).Nodup)(p:∀x∈QS,x∈fs):St t S0 a QS F cs dl rs S:={h.sh,λx hx=>h.fa x<|p x hx,n,h.FR}
theorem St.ZR(h:St t S0 a fs F cs dl rs S)(hS:bR t.aj S' a F' cs dl' eC)(hK:B9 F F' S S'):St t S0 a fs F' cs dl' eC S':={hS,λx hx=>by obtain⟨h1,h2,h3⟩:=h.fa x hx;exact by obtain⟨k1,k2⟩:=hK _ _ h2 h1;exact⟨k2,k1,h3⟩,h.nd,λx c hx=>by obtain⟨h1,h2⟩:=h.FR x c hx;exact hK _ _ h1 h2}
end
abbrev Vl:=List<|Addr×List Row
noncomputable def ZS(x:Addr×List Row):Addr×Ce:=(x.1,.lst<|x.2.map aJ)
theorem Vw.sub(h:Vw C S a cs m rows)(b:Sub S S'):Vw C S' a cs m rows:=by obtain⟨F,dl,rs,h1,h2⟩:=h.sh;exact{{F,dl,rs,h1.sub b,h2},h.mo.sub b,h.len,h.rg}
theorem DU(q:R (.bl<|if neg then !(x==y) else (x==y)) S):KR neg (.bl x) (.bl y) S R:=⟨.bool x,.bool y,by simp only[Dl,Dp],by simp only[Dl,Dp],by simp only[PyData.canLay0],by simp only[PyData.canLay0],.inl<|by simp only[PyData.depth];lia,by
 have e:PyData.eqv (.bool x) (.bool y)=(x==y):=by cases x<;>cases y<;>rfl
 rw[e];exact q⟩
theorem Nl(q:R (.bl<|if neg then !decide (i=j) else decide (i=j)) S):KR neg (.str i) (.str j) S R:=q
def Cm(x y:D):Prop:=∃k,Vg k x/\Vg k y
inductive e_ (ds:List D) (S:ax) (R:KD) (Z:KX):Prop where
 |mk (x y e) (h0:ds=[x,y,.str e]) (h3:∀n:Int,R (.int n) S)
theorem jh(T:Txt w K mg t):Ok P w base T.dH 1 e_:=by refine T.dH.F.dQ eF ?_;rintro _ _ _ _ _ _ _ S R Z hr ⟨x,y,e,e0,q⟩;subst e0;refine{_,(sc (si (twd<|twand (bH kE hr.u (dv 0) dn)<|tw1<|bH kE hr.u (dv 1) dn) (s1<|sr di) s0)<|sc (bX (i:=3) eF.nd<|cm bP hr.u (dv 2) ds)<|s1<|sr<|ME (bH bP hr.u (dv 3)<|cm kE hr.u (dv 0) dn) (EF di) di),?_};refine !!⟨bD (λh=>!!⟨bD (λh2=>fo<|q _) λh2=>!!!⟨?_⟩⟩) λh=>!!!⟨?_⟩⟩;dsimp only[dC,Yd];exact DU !⟨bD (λz=>!⟨fo<|q _⟩) λz=>fo<|q _⟩;dsimp only[dC,Yd];exact DU !⟨bD (λz=>!⟨fo<|q _⟩) λz=>fo<|q _⟩
inductive sv (ds:List D) (S:ax) (R:KD) (Z:KX):Prop where
 |mk (x y wy e) (h0:ds=[x,y,.str wy,.str e]) (h1:Cm x y) (h2:∀n:Int,R (.int n) S)
theorem ph(T:Txt w K mg t):Ok P w base T.compared 2 sv:=by refine T.compared.F.dQ oP ?_;rintro _ _ _ _ _ _ _ S R Z hr ⟨x,y,wy,e,e0,⟨k,hx,hy⟩,q⟩;subst e0;refine{_,(sc (si (twd<|twor (bH kE hr.u (dv 0) dn)<|tw1<|bH kE hr.u (dv 1) dn) (s1<|sr<|aY T.dH (jh T) hr<|al 0<|al 1<|al 3 an) s0)<|sc (si (bH bP hr.u (dv 0)<|dv 1) (s1<|sr di) s0)<|sc (bX (i:=4) oP.nd<|cm Bu hr.u (dv 0)<|dv 1)<|s1<|sr<|ME (bH bP hr.u (dv 4)<|cm bP hr.u (dv 2) ds) (EF di) di),?_};refine !!⟨bD (λh=>!!!{x,y,e,rfl,λn=>fo<|q n}) λh=>!!⟨bD (λh2=>!!!{x,y,e,rfl,λn=>fo<|q n}) λh2=>?_⟩⟩;refine !!⟨IC hx.2 hy.2 λb=>!⟨bD (λh3=>fo<|q _) λh3=>?_⟩⟩;rcases Cp hx hy (ip h) (ip h2) with⟨i,j,rfl,rfl⟩|⟨i,j,rfl,rfl⟩;refine !!!!⟨?_⟩;dsimp only[dC];exact Nl<|DU !⟨bD (λz=>!⟨fo<|q _⟩) λz=>fo<|q _⟩;refine !!!!⟨?_⟩;dsimp only[dC];exact Nl<|DU !⟨bD (λz=>!⟨fo<|q _⟩) λz=>fo<|q _⟩
noncomputable def nj(cs:List<|Str×Str)(z:Str):Str:=((cs[Qg cs z]?).map Prod.snd).getD "word"
theorem Nm:∀z∈KS,Vg "word" (.str z):=by
 have h:∀z∈KS,(oS z&&jX (.str z))=true:=by trivial
 exact λz hz=>let q:=Bool.and_eq_true_iff.mp<|h z hz;⟨q.1,q.2⟩
theorem Qv(hg:Gd cs)(hp:Pin cs ps)(hw:Wg cs ws):Paired (λk x=>Vg k x) (ps.map λp=>nj cs p.1) (ps.map λp=>bt cs ws p.1):=by induction ps with|nil=>exact .nil|cons p ps ih=>refine .cons ?_<|ih hp.tail;obtain⟨c,hc,e⟩:=hp p zy;show Vg (nj cs p.1) (bt cs ws p.1);unfold nj;rw[<-e,(oo hg hc).1];exact(qo hg hw hc).2
noncomputable def Cv(xs:List D)(k:Str):D:=.tup [.tup xs,.str k]
abbrev Cw:=List D×Str×Str
noncomputable def dq(g:Cw):D:=.tup [Cv g.1 g.2.1,.str g.2.2]
noncomputable def j7(z:Str):Bool:=decide (z ="ahead")||decide (z ="behind")
structure Gp(cs:List (Str×Str))(ps:List Part)(g:Cw):Prop where
 pv:Paired (λk x=>Vg k x) (ps.map λp=>nj cs p.1) g.1
 key:g.2.1∈KS
 side:j7 g.2.2=true
theorem Gp.len(h:Gp cs ps g):g.1.length=ps.length:=by have:=yS h.pv;rw[zc]at this;exact this.symm
theorem Og.len(h:Og cs ps wy):ps.length<=8:=by have:=h.ok;unfold Il at this;simp only[zR,yo]at this;exact this.1
theorem Cy(hg:Gd cs)(hc:c∈cs):c.1.cps.size<=1000:=by have h:=(hg.2.2 c hc).1;unfold i5 at h;simp only[zR,yo]at h;lia
noncomputable def LS(cs:List<|Str×Str)(ps:List Part):D->Bool|.tup xs=>decide (xs.length=ps.length)&&(List.zipWith (λp x=>cF (nj cs p.1) x) ps xs).all id|_=>false
noncomputable def avD(cs:List<|Str×Str):D->D|.tup [.tup (.str z::_),y]=>.bl (cF (nj cs z) y)|_=>.av
noncomputable def IS(cs:List<|Str×Str)(ps:List Part):D->Bool|.tup [x,k]=>LS cs ps x&&ofStr fz k|_=>false
noncomputable def wC(cs:List<|Str×Str)(ps:List Part):D->Bool|.tup [x,z]=>IS cs ps x&&ofStr j7 z|_=>false
theorem Cz(T:Txt w K mg t):Ok P w base T.vU 1 (wm<|ofStr j7):=by refine T.vU.F.vF BW ?_;rintro _ _ _ _ _ _ ds S R Z hr ⟨d,e,⟨⟨k,hk⟩,hz⟩,q⟩;subst e;refine{_,(s1<|sr<|qR (cb dh T.ak ai<|al 0<|ac (sH T.oN jo) an)<|G8<|YJ T.vO (dv 0)<|dg (v:=.ref t.iF) T.tj rfl λ_=>dG _),?_};refine !{_,_,_,_,rfl,gq,hk,_,rfl,?_};rcases lN hk with⟨z,rfl,h0⟩|⟨h0,h1⟩;rw[h0];refine bU !{z,rfl,rfl,?_};rw[Ik];exact fo q;rw[h1]at q;rw[h0];exact bY<|fo q
inductive fY (ds:List D) (S:ax) (R:KD) (Z:KX):Prop where
 |mk (cs ps d) (h0:ds=[.tup<|cs.map aC,.tup<|ps.map p3,d]) (h1:Gd cs) (h2:Pin cs ps) (h3:ps.length<=8) (h4:Qd S 1 d) (h5:R (.bl<|LS cs ps d) S)
theorem kM(T:Txt w K mg t):Ok P w base T.eL 4 fY:=by
 refine T.eL.F.dQ kJ ?_;obtain⟨cs,ps,d,e,hg,hp,h8,hd,q⟩;have Ww:(ps.map p3).length=ps.length:=zc _;refine{_,(sc (si (twd<|twor (cG<|tv<|cb dh T.ak ai<|al 2<|ac (sH T.bL bp) an)<|tw1<|bH jv hr.u (cb bj T.aZ aM<|al 2 an)<|cb bj T.aZ aM<|al 1 an) (s1<|sr db) s0)<|s1<|sr<|cb kU T.kX gI<|ac (vp (N:=["part","value","columns"]) (src:=[none,none,some 0]) (lU (ae lB) ["columns","parts","thing"] rfl rfl<|by trivial) (izn T.HN<|al 1<|al 2 an) (YG<|show(["part","value","columns"]:List Str).Nodup by trivial) (uZ rfl rfl) vt (λ_ _ _ _ _=>ur) λ_ _ _ _ _=>(aY T.jK (jR T) hr<|ac (aY T.fP (gQ T) hr<|al 2<|ac (ix hr.u (dv 0) di) an)<|al 1 an)) an),?_};obtain⟨k,hk⟩:=hd.gt.1;refine !{_,_,_,_,rfl,bJ,hk,_,rfl,?_};rcases iN hk with⟨xs,rfl,h0⟩|⟨h0,h1⟩;rw[h0];refine bY !!!!!⟨?_⟩;refine bD (λh=>?_) λh=>?_;have h:¬((xs.length:Nat):Int)=(((ps.map p3).length:Nat):Int):=zN<|nt h;rw[Ww]at h;have e:LS cs ps (.tup xs)=false:=by show(decide (xs.length=ps.length)&&_)=false;rw[zw<|by lia];rfl
 rw[e]at q;exact fo q;have h:((xs.length:Nat):Int)=(((ps.map p3).length:Nat):Int):=zo<|nf h;rw[Ww]at h;have q:R (.bl<|decide (xs.length=ps.length)&&(List.zipWith (λp x=>cF (nj cs p.1) x) ps xs).all id) S:=q;rw[zA<|by lia,zS]at q;refine !!{_,_,rfl,by rw[Ww];lia,?_};refine comp_map (avD cs) trivial (by show(cJ _ _).length<=_;unfold cJ;rw[List.length_zipWith,Ww];lia) (λd tU Q hQ=>?_) λp lO=>?_;have tU:d∈cJ (ps.map p3) xs:=tU;unfold cJ at tU;obtain⟨i,ei⟩:=yB tU;obtain⟨x,y,e2,e3,e4⟩:=List.getElem?_zipWith_eq_some.mp ei;subst e4;rw[zu]at e2;cases e5:ps[i]? with|none=>(rw[e5]at e2;cases e2)|some pt=>rw[e5]at e2;cases e2;obtain⟨c,hc,ec⟩:=hp pt<|zI e5;have hQ:Q (.bl<|cF (nj cs pt.1) y) S:=hQ;have ek:nj cs pt.1=c.2:=(by unfold nj;rw[<-ec,(oo hg hc).1];rfl);rw[ek]at hQ;refine !{rfl,_,_,rfl,_,_,rfl,rfl,_,rfl,_,rfl,_,rfl,cs,.str pt.1,rfl,hg,ku<|by rw[<-ec];exact Cy hg hc,?_};rw[Cf hg (k:=c.2)<|by rw[<-ec];exact hc];exact !{c.2,y,rfl,hd.in.2 y<|zI e3,hQ}
 have e2:(cJ (ps.map p3) xs).map (avD cs)=(List.zipWith (λp x=>cF (nj cs p.1) x) ps xs).map D.bl:=by unfold cJ;rw[List.map_zipWith,List.map_zipWith,List.zipWith_map_left];rfl
 rw[show({cJ (ps.map p3) xs,λ_=>True}:sY).xs=cJ (ps.map p3) xs from rfl,e2];exact{.ref p,List.zipWith (λ(p:Part) x=>cF (nj cs p.1) x) ps xs,rfl,aa,S,.new lO,q};rw[h0];have e:LS cs ps d=false:=by unfold LS;split;exact absurd rfl<|h1 _;rfl
 rw[e]at q;exact bU<|fo q
inductive k7 (t:gm) (ds:List D) (S:ax) (R:KD) (Z:KX):Prop where
 |mk (cs ps wy d) (h0:ds=[.tup<|cs.map aC,bO ps wy,d]) (h1:Gd cs) (h2:Pin cs ps) (h3:ps.length<=8) (h4:Qd S 2 d) (h5:IS cs ps d=true->R .av S) (h6:IS cs ps d=false->Z t.az S)
theorem sy(T:Txt w K mg t):Ok P w base T.jL 5 (k7 t):=by refine T.jL.F.dQ rF ?_;obtain⟨cs,ps,wy,d,e,hg,hp,h8,hd,q1,q2⟩;have n1:=gN;refine{_,(sc (si (twd<|twor (cG<|tv<|cb dh T.ak ai<|al 2<|ac (sH T.bL bp) an)<|tw1<|bH jv hr.u (cb bj T.aZ aM<|al 2 an) di) (s1<|qX ⟨T.cM⟩ T.dJ<|ac ds an) s0)<|sc (si (cG<|tv<|aY T.eL (kM T) hr<|al 0<|ac (ix hr.u (dv 1) di)<|ac (ix hr.u (dv 2) di) an) (s1<|qX ⟨T.cM⟩ T.dJ<|ac ds an) s0)<|s1<|si (cG<|tv<|aY T.lI (ie T) hr<|ac (ix hr.u (dv 2) di) an) (s1<|qX ⟨T.cM⟩ T.dJ<|ac ds an) s0),?_};obtain⟨k,hk⟩:=hd.gt.1;refine !{_,_,_,_,rfl,bJ,hk,_,rfl,?_};rcases iN hk with⟨xs,rfl,h0⟩|⟨h0,h1⟩;rw[h0];refine bY !!!⟨bD (λh=>{n1,fo<|q2 ?_}) λh=>?_⟩;have h:¬((xs.length:Nat):Int)=2:=zN<|nt h;unfold IS;split;rename_i e;cases e;exact absurd rfl h;rfl;have h:((xs.length:Nat):Int)=2:=zo<|nf h;obtain⟨x,y,rfl⟩:=Ij (show xs.length=2 by lia);have gi:=hd.in.2;have q1:(LS cs ps x&&ofStr fz y)=true->R .av S:=q1;have q2:(LS cs ps x&&ofStr fz y)=false->Z t.az S:=q2;refine !!!!!{cs,ps,x,rfl,hg,hp,h8,gi x<|by simp,_,rfl,bD (λh=>{n1,fo<|q2 ?_}) λh=>?_};rw[nt h];rfl;rw[nf h,zS]at q1 q2;refine !!{y,rfl,(gi y<|by simp).gt,_,rfl,bD (λh2=>{n1,fo<|q2<|nt h2}) λh2=>fo<|q1<|nf h2};rw[h0];refine bU {n1,fo<|q2 ?_};unfold IS;split;exact absurd rfl<|h1 _;rfl
inductive pj (t:gm) (ds:List D) (S:ax) (R:KD) (Z:KX):Prop where
 |mk (cs ps wy d) (h0:ds=[.tup<|cs.map aC,bO ps wy,d]) (h1:Gd cs) (h2:Pin cs ps) (h3:ps.length<=8) (h4:Qd S 3 d) (h5:wC cs ps d=true->R .av S) (h6:wC cs ps d=false->Z t.az S)
theorem wD(T:Txt w K mg t):Ok P w base T.nW 6 (pj t):=by refine T.nW.F.dQ wa ?_;obtain⟨cs,ps,wy,d,e,hg,hp,h8,hd,q1,q2⟩;have n1:=gN;refine{_,(sc (si (twd<|twor (cG<|tv<|cb dh T.ak ai<|al 2<|ac (sH T.bL bp) an)<|tw1<|bH jv hr.u (cb bj T.aZ aM<|al 2 an) di) (s1<|qX ⟨T.cM⟩ T.dJ<|ac ds an) s0)<|sc (se<|aY T.jL (sy T) hr<|al 0<|al 1<|ac (ix hr.u (dv 2) di) an)<|s1<|si (cG<|tv<|aY T.vU (Cz T) hr<|ac (ix hr.u (dv 2) di) an) (s1<|qX ⟨T.cM⟩ T.dJ<|ac ds an) s0),?_};obtain⟨k,hk⟩:=hd.gt.1;refine !{_,_,_,_,rfl,bJ,hk,_,rfl,?_};rcases iN hk with⟨xs,rfl,h0⟩|⟨h0,h1⟩;rw[h0];refine bY !!!⟨bD (λh=>{n1,fo<|q2 ?_}) λh=>?_⟩;have h:¬((xs.length:Nat):Int)=2:=zN<|nt h;unfold wC;split;rename_i e;cases e;exact absurd rfl h;rfl;have h:((xs.length:Nat):Int)=2:=zo<|nf h;obtain⟨x,y,rfl⟩:=Ij (show xs.length=2 by lia);have gi:=hd.in.2;have q1:(IS cs ps x&&ofStr j7 y)=true->R .av S:=q1;have q2:(IS cs ps x&&ofStr j7 y)=false->Z t.az S:=q2;refine !!!!{cs,ps,wy,x,rfl,hg,hp,h8,gi x<|by simp,λh=>?_,λh=>fo<|q2<|by rw[h];rfl};rw[h,zS]at q1 q2;exact !!{y,rfl,(gi y<|by simp).gt,_,rfl,bD (λh2=>{n1,fo<|q2<|nt h2}) λh2=>fo<|q1<|nf h2};rw[h0];refine bU {n1,fo<|q2 ?_};unfold wC;split;exact absurd rfl<|h1 _;rfl
noncomputable def Wx:D->Bool|.int n=>decide (1<=n)&&decide (n<=1000)|_=>false
inductive mZ (t:gm) (ds:List D) (S:ax) (R:KD) (Z:KX):Prop where
 |mk (d:D) (h0:ds=[d]) (h1:Gt S d) (h2:Wx d=true->R .av S) (h3:Wx d=false->Z t.aN S)
theorem tN(T:Txt w K mg t):Ok P w base T.lM 2 (mZ t):=by refine T.lM.F.dQ tG ?_;obtain⟨d,e,hd,q1,q2⟩;refine{_,(s1<|si (twd<|twor (cG<|tv<|aY T.jJ (jQ T) hr<|al 0 an)<|tw1<|cG<|V4 ju ju hr.u di (dv 0)<|dg (v:=.int 1000) T.vL {_,rfl} λ_=>aQ _) (s1<|qX ⟨T.kj⟩ T.rq<|ac ds an) s0),?_};refine !{d,rfl,hd,_,rfl,?_};cases d with|int n=>refine bY !!⟨bD (λh1=>?_) λh1=>?_⟩;have h1:1<=n:=zo h1;refine{_,rfl,?_};by_cases h2:n<=1000;exact fW (by show(!decide (n<=1000))=false;rw[zA h2];rfl)<|fo<|q1 (by show(decide (1<=n)&&decide (n<=1000))=true;rw[zA h1,zA h2];rfl);exact rS (by show(!decide (n<=1000))=true;rw[zw h2];rfl) {gN,fo<|q2<|by show(decide (1<=n)&&decide (n<=1000))=false;rw[zw h2,Bool.and_false]};have h1:decide (1<=n)=false:=h1;exact{_,rfl,bU {gN,fo<|q2<|by show(decide (1<=n)&&decide (n<=1000))=false;rw[h1];rfl}}|_=>exact bU {gN,fo<|q2 rfl}
structure An(cs:List (Str×Str))(A:List Row):Prop where
 rg:Rg cs A
 ky:∀r∈A,r.1∈KS
inductive sA (ds:List D) (S:ax) (R:KD) (Z:KX):Prop where
 |mk (cs ps wy r) (h0:ds=[.tup<|cs.map aC,bO ps wy,aJ r]) (h1:Gd cs) (h2:Pin cs ps) (h3:ps.length<=8) (h4:Wg cs r.2) (h5:R (Cv (ps.map λp=>bt cs r.2 p.1) r.1) S)
theorem Af(T:Txt w K mg t):Ok P w base T.rB 3 sA:=by
 refine T.rB.F.dQ oQ ?_;obtain⟨cs,ps,wy,r,e,hg,hp,h8,hw,q⟩;refine{_,(sc (Pd (i:=3) (N:=["part","columns","row"]) (src:=[none,some 0,some 2]) oQ.nd (lU (ae BK) ["columns","order","row","values"] rfl rfl<|by trivial) (K1<|ix hr.u (dv 1) di) (qY<|show(["part","columns","row"]:List Str).Nodup by trivial) (aW rfl) aX (λ_ _ _ _ _=>ur) λ_ _ _ _ _=>(aY T.cA (dO T) hr<|al 1<|al 2<|ac (ix hr.u (dv 0) di) an))<|s1<|sr<|a_<|ac (ct mn T.bL bp<|al 3 an)<|ac (ix hr.u (dv 2) di) an),?_};refine !!{_,.inl rfl,?_};refine comp_map (λd=>match d with|.tup (.str z::_)=>bt cs r.2 z|_=>.av) trivial (by show(ps.map p3).length<=_;rw[zc];omega) (λd hd Q hQ=>?_) λp lO=>?_;obtain⟨pt,hpt,rfl⟩:=ze.mp hd;obtain⟨c,hc,ec⟩:=hp pt hpt;refine !!!!{cs,r,c,(by rw[ec];rfl),hg,hw,hc,?_};rw[ec];exact hQ;have e3:(ps.map p3).map (λd=>match d with|.tup (.str z::_)=>bt cs r.2 z|_=>.av)=ps.map λp=>bt cs r.2 p.1:=by rw[zB];rfl
 rw[show({ps.map p3,λ_=>True}:sY).xs=ps.map p3 from rfl,e3];exact !{_,_,rfl,.inl aa,_,rfl,_,rfl,ib,S,.new lO,q}
inductive gD (ds:List D) (S:ax) (R:KD) (Z:KX):Prop where
 |mk (ps:List Part) (wy:Str) (xs:List D) (k:Str) (ys:List D) (l:Str) (ks:List Str) (h0:ds=[bO ps wy,Cv xs k,Cv ys l]) (h1:ps.length=xs.length) (h2:ps.length=ys.length) (h3:Paired (λk x=>Vg k x) ks xs) (h4:Paired (λk x=>Vg k x) ks ys) (h5:k∈KS) (h6:l∈KS) (h7:∀n:Int,R (.int n) S)
theorem lQ(T:Txt w K mg t):Ok P w base T.fg 3 gD:=by refine T.fg.F.dQ bF ?_;obtain⟨ps,wy,xs,k,ys,l,ks,e,h1,h2,vx,vy,hk,hl,q⟩;refine{_,(sc (nJ<|BC (Zj T.HN<|ac (ix hr.u (dv 0) di)<|ac (ix hr.u (dv 1) di)<|ac (ix hr.u (dv 2) di) an) (gt (n:=3)<|gc (gn (i:=3) bF.nd)<|gc (gn (i:=4) bF.nd)<|gc (gn (i:=5) bF.nd) g0)<|sc (bX (i:=6) bF.nd<|aY T.compared (ph T) hr<|al 4<|al 5<|ac (ix hr.u (dv 3) di)<|ac (ix hr.u (dv 3) di) an)<|s1<|si (bH jv hr.u (dv 6) di) (s1<|sr<|dv 6) s0)<|s1<|sr<|aY T.compared (ph T) hr<|ac (ix hr.u (dv 1) di)<|ac (ix hr.u (dv 2) di)<|ac (ix hr.u (dv 0) di)<|ac ds an),?_};refine{λaq S'=>∃(o3 o4 o5 o6:Option D),aq=[some<|bO ps wy,some<|Cv xs k,some<|Cv ys l,o3,o4,o5,o6]/\S'=S,?_,?_};refine !!!!!!{_,_,_,rfl,by rw[zc];exact h1,by rw[zc];exact h2,?_};refine{λi aq S'=>∃(o3 o4 o5 o6:Option D),aq=[some<|bO ps wy,some<|Cv xs k,some<|Cv ys l,o3,o4,o5,o6]/\S'=S,{_,_,_,_,rfl,rfl},λ_ _ _ _=>trivial,?_,λaq S' h=>fo h};rintro i d aq S' hd ⟨o3,o4,o5,o6,rfl,rfl⟩;obtain⟨x,y,z,e1,e2,e3,rfl⟩:=nM hd;obtain⟨p,hp,rfl⟩:=ze.mp<|zI e1;obtain⟨k1,q1,v1⟩:=dN vx e2;obtain⟨k2,q2,v2⟩:=dN vy e3;cases q1.symm.trans q2;refine !{rfl,_,_,rfl,_,_,rfl,_,_,rfl,rfl,?_};exact !!!!!!{y,z,p.2.1,p.2.2,rfl,⟨k1,v1,v2⟩,λn=>!!⟨bD (λh=>!⟨fo<|q _⟩) λh=>{_,_,_,_,rfl,rfl}⟩};rintro aq S' ⟨o3,o4,o5,o6,rfl,rfl⟩;exact !!!!!!{_,_,_,_,rfl,{_,Nm k hk,Nm l hl},λn=>fo<|q n}
inductive sC (ds:List D) (S:ax) (R:KD) (Z:KX):Prop where
 |mk (cs:List<|Str×Str) (ps:List Part) (wy:Str) (r:Row) (g:Cw) (h0:ds=[bO ps wy,Cv (ps.map λp=>bt cs r.2 p.1) r.1,dq g]) (h1:Gd cs) (h2:Pin cs ps) (h3:Wg cs r.2) (h4:r.1∈KS) (h5:Gp cs ps g) (h6:∀b:Bool,R (.bl b) S)
theorem Ag(T:Txt w K mg t):Ok P w base T.rC 4 sC:=by refine T.rC.F.dQ oR ?_;obtain⟨cs,ps,wy,r,g,e,hg,hp,hw,hk,hv,q⟩;refine{_,(sc (bX (i:=3) oR.nd<|aY T.fg (lQ T) hr<|al 0<|al 1<|ac (ix hr.u (dv 2) di) an)<|sc (si (bH bP hr.u (dv 3) di) (s1<|sr<|cm bP hr.u (ix hr.u (dv 2) di) ds) s0)<|s1<|sr<|cm Bu hr.u (dv 3) di),?_};exact !!!!{ps,wy,_,r.1,g.1,g.2.1,_,rfl,by rw[zc],hv.len.symm,Qv hg hp hw,hv.pv,hk,hv.key,λn=>!!⟨bD (λh=>!!⟨fo<|q _⟩) λh=>!⟨fo<|q _⟩⟩}
inductive k9 (ds:List D) (S:ax) (R:KD) (Z:KX):Prop where
 |mk (cs ps wy A l g) (h0:ds=[.tup<|cs.map aC,bO ps wy,.ref l,dq g]) (h1:Gd cs) (h2:Pin cs ps) (h3:ps.length<=8) (h4:S l=some (.lst<|A.map aJ)) (h5:An cs A) (h6:Gp cs ps g) (h7:∀n:Int,R (.int n) S)
theorem ee(T:Txt w K mg t):Ok P w base T.dM 5 k9:=by
 refine T.dM.F.dQ cj ?_;obtain⟨cs,ps,wy,A,l,g,e,hg,hp,h8,hl,hA,hv,q⟩;refine{_,(sc (bX (i:=4) cj.nd di)<|sc (bX (i:=5) cj.nd<|cb bj T.aZ aM<|al 2 an)<|sc (nJ<|Y4 (bH Bu hr.u (dv 4)<|dv 5)<|sc (bX (i:=6) cj.nd<|bo fc hr.u (bo ba hr.u (dv 4)<|dv 5) di)<|s1<|si (tv<|aY T.rC (Ag T) hr<|al 1<|ac (aY T.rB (Af T) hr<|al 0<|al 1<|ac (ix hr.u (dv 2)<|dv 6) an)<|al 3 an) (s1<|bX (i:=4) cj.nd<|bo ba hr.u (dv 6) di)<|s1<|bX (i:=5) cj.nd<|dv 6)<|s1<|sr<|dv 4),?_};refine !!⟨.inl {_,hl,?_}⟩;rw[zc];refine{λaq S'=>∃(lo:Int)(o5 o6:Option D),aq=[some<|.tup<|cs.map aC,some<|bO ps wy,some<|.ref l,some<|dq g,some<|.int lo,o5,o6]/\S'=S,?_,?_};refine{λm aq S'=>∃(lo hi:Nat)(o6:Option D),aq=[some<|.tup<|cs.map aC,some<|bO ps wy,some<|.ref l,some<|dq g,some<|.int (lo:Nat),some<|.int (hi:Nat),o6]/\S'=S/\m=hi-lo/\lo<=hi/\hi<=A.length,{_,0,A.length,none,rfl,rfl,rfl,yh _,zl _},?_};rintro m aq S' ⟨lo,hi,o6,rfl,rfl,rfl,h1,h2⟩;refine !!!⟨bD (λh=>?_) λh=>fo {_,_,_,rfl,rfl}⟩;have h:lo<hi:=by have:=zo h;omega
 have hm:(lo+hi)/2<A.length:=by omega
 have em:=zh hm;generalize A[(lo+hi)/2]=r at em;have Fj:=zI em;have ed:(((lo:Nat):Int)+((hi:Nat):Int))/2=(((lo+hi)/2:Nat):Int):=by omega
 refine !!⟨{by decide,by decide},?_⟩;rw[ed];exact !!!!!{_,aJ r,hl,eS<|by rw[zu,em];rfl,cs,ps,wy,r,rfl,hg,hp,h8,hA.rg.1 r Fj,_,rfl,cs,ps,wy,r,g,rfl,hg,hp,hA.rg.1 r Fj,hA.ky r Fj,hv,λb=>!⟨bD (λz=>!{hi-((lo+hi)/2+1),by omega,(lo+hi)/2+1,hi,_,rfl,rfl,rfl,by omega,h2}) λz=>!{(lo+hi)/2-lo,by omega,lo,(lo+hi)/2,_,rfl,rfl,rfl,by omega,by omega}⟩};rintro aq S' ⟨lo,o5,o6,rfl,rfl⟩;exact{_,rfl,fo<|q _}
def Vm(rows:List Row):Prop:=∀r∈rows,r.1∈KS
theorem DV(hr:Rg cs rows)(hk:Vm rows)(sl:fu.Sublist rows)(pm:A.Perm fu):An cs A:={(hr.sub sl).perm pm,λr h=>hk r<|sl.subset<|pm.mem_iff.mp h}
inductive eB (ds:List D) (S:ax) (R:KD) (Z:KX):Prop where
 |mk (l:Addr) (A:List D) (b e:Int) (h0:ds=[.ref l,.int b,.int e]) (h1:S l=some (.lst A)) (h4:∀v S',Sub S S'->R v S')
theorem i_(T:Txt w K mg t):Ok P w base T.fw 1 eB:=by refine T.fw.F.dQ pL ?_;rintro _ _ _ _ _ _ _ S R Z hr ⟨l,A,b,e,e0,hl,q⟩;subst e0;refine{_,(s1<|sr<|a_<|ac (M0 (dv 0) (o1<|dv 1)<|o1<|dv 2)<|al 1<|ac (bo xx hr.u (cb bj T.aZ aM<|al 0 an)<|dv 2) an),?_};exact !!!!!{_,hl,λp hp=>!!!⟨.inl {_,(Sub.new hp) _ _ hl,_,rfl,rK,fo<|q _ _<|.new hp}⟩}
theorem wF(T:Txt w K mg t):Ok P w base T.nY 2 eB:=by refine T.nY.F.dQ we ?_;rintro _ _ _ _ _ _ _ S R Z hr ⟨l,A,b,n,e0,hl,q⟩;subst e0;refine{_,(s1<|sr<|aY T.fw (i_ T) hr<|al 0<|al 1<|ac (cb MJ T.M6 G4<|ac (bo ba hr.u (dv 1)<|dv 2)<|ac (cb bj T.aZ aM<|al 0 an) an) an),?_};exact !!!!!!⟨.inl {_,hl,_,_,rfl,l,A,_,_,rfl,hl,λv S' sb=>fo<|q v S' sb}⟩
theorem tO(T:Txt w K mg t):Ok P w base T.lL 2 eB:=by refine T.lL.F.dQ tD ?_;rintro _ _ _ _ _ _ _ S R Z hr ⟨l,A,e,n,e0,hl,q⟩;subst e0;refine{_,(s1<|sr<|aY T.fw (i_ T) hr<|al 0<|ac (cb TR T.U4 PB<|ac (bo xx hr.u (dv 1)<|dv 2)<|ac di an)<|al 1 an),?_};exact !!!{_,_,rfl,_,rfl,l,A,_,_,rfl,hl,λv S' sb=>fo<|q v S' sb}
inductive IT (ds:List D) (S:ax) (R:KD) (Z:KX):Prop where
 |mk (cs:List<|Str×Str) (ps:List Part) (wy:Str) (l:Addr) (A:List Row) (n:Int) (g:Cw) (h0:ds=[.tup<|cs.map aC,bO ps wy,.ref l,.int n,dq g]) (h1:Gd cs) (h2:Pin cs ps) (h3:ps.length<=8) (h4:S l=some (.lst<|A.map aJ)) (h5:An cs A) (h6:Gp cs ps g) (h7:∀v S',Sub S S'->R v S')
theorem tP(T:Txt w K mg t):Ok P w base T.lK 6 IT:=by refine T.lK.F.dQ kY ?_;rintro _ _ _ _ _ _ _ S R Z hr ⟨cs,ps,wy,l,A,n,g,e0,hg,hp,h8,hl,hA,hb,q⟩;subst e0;refine{_,(sc (bX (i:=5) kY.nd<|ME (bH kE hr.u (dv 4) dn) di<|aY T.dM (ee T) hr<|al 0<|al 1<|al 2<|al 4 an)<|s1<|sr<|aY T.nY (wF T) hr<|al 2<|al 5<|al 3 an),?_};exact !!⟨bY !!!!{cs,ps,wy,A,l,g,rfl,hg,hp,h8,hl,hA,hb,λn=>!!!{l,_,_,_,rfl,hl,λv S' sb=>fo<|q v S' sb}}⟩
theorem pS(T:Txt w K mg t):Ok P w base T.iJ 6 IT:=by refine T.iJ.F.dQ i4 ?_;rintro _ _ _ _ _ _ _ S R Z hr ⟨cs,ps,wy,l,A,n,g,e0,hg,hp,h8,hl,hA,hb,q⟩;subst e0;refine{_,(sc (bX (i:=5) i4.nd<|ME (bH kE hr.u (dv 4) dn) (cb bj T.aZ aM<|al 2 an)<|aY T.dM (ee T) hr<|al 0<|al 1<|al 2<|al 4 an)<|s1<|sr<|aY T.lL (tO T) hr<|al 2<|al 5<|al 3 an),?_};exact !!⟨bY !!!!{cs,ps,wy,A,l,g,rfl,hg,hp,h8,hl,hA,hb,λn=>!!!{l,_,_,_,rfl,hl,λv S' sb=>fo<|q v S' sb}}⟩
inductive DX (ds:List D) (S:ax) (R:KD) (Z:KX):Prop where
 |mk (cs:List<|Str×Str) (ps:List Part) (wy:Str) (c:Int) (h0:ds=[.tup<|cs.map aC,bO ps wy,.int c]) (h1:Gd cs) (h2:Og cs ps wy) (h3:∀g,Gp cs ps g->R (dq g) S)
theorem LU(hd:d∈[D.str "ahead",.str "behind"]):∃sd:Str,d=.str sd/\j7 sd=true:=by simp only[zg,zG,or_false]at hd;rcases hd with h|h;exact{_,h,by trivial};exact{_,h,by trivial}
theorem LV(T:Txt w K mg t):Ok P w base T.HS 2 DX:=by
 refine T.HS.F.dQ mK ?_;obtain⟨cs,ps,wy,c0,e,hg,ho,q⟩;have h8:=ho.len;have eE:(ps.map p3).length=ps.length:=zc _;refine{_,(sc (bX (i:=3) mK.nd<|aY T.iL (jW T) hr<|al 2<|ac di an)<|sc (bX (i:=4) mK.nd<|ct BE T.BP u9<|al 0 an)<|sc (Pd (i:=5) (N:=["_law_k","_law_kinds","_law_xs","_law_order_here"]) (src:=[none,some 4,some 3,some 1]) mK.nd (lU (ae Lq) ["_law_columns_here","_law_order_here","_law_cell","_law_xs","_law_kinds","_law_values"] rfl rfl<|by trivial) (Hj T.dR<|ac (cb bj T.aZ aM<|ac (ix hr.u (dv 1) di) an) an) (qY<|show(["_law_k","_law_kinds","_law_xs","_law_order_here"]:List Str).Nodup by trivial) (aW rfl) aX (λ_ _ _ _ _=>ur) λ_ _ _ _ _=>(aY T.qg (y6 T) hr<|ac (ix hr.u (dv 1)<|ix hr.u (ix hr.u (ix hr.u (dv 3) di)<|dv 0) di)<|ac (ix hr.u (dv 2)<|bo ba hr.u di<|dv 0) an))<|s1<|sr<|a_<|ac (a_<|ac (ct mn T.bL bp<|al 5 an)<|ac (aY T.Dw (Ia T) hr<|ac (ix hr.u (dv 3) di) an) an)<|ac (BD<|ix hr.u (bV<|ac ds<|ac ds an)<|bo cn hr.u (ix hr.u (dv 3) di) di) an),?_};refine !{c0,10,rfl,by decide,λxs lx Na hx qH=>?_};have s1:=Sub.new (c:=.lst<|xs.map D.int) qH;have hX:(S.set lx<|.lst<|xs.map D.int) lx=some (.lst<|xs.map D.int):=aa;generalize S.set lx (.lst<|xs.map D.int)=S1 at s1 hX⊢;have at_:∀k:Nat,k<10->∃x:Int,j9 (xs.map D.int) ((k:Nat):Int)=some (.int x)/\0<=x:=λk hk=>mS (by lia) (by rw[zc];lia) hx;obtain⟨x0,e0,_⟩:=at_ 0 (by decide);obtain⟨x1,e1,_⟩:=at_ 1 (by decide);have ek:cs.map aC=(cs.map λc=>(c.1,D.str c.2)).map xJ:=by rw[zB];rfl
 refine !{(cs.map λc=>(c.1,D.str c.2)),by rw[ek],λpd Vn=>?_};have g1:=s1.trans<|Sub.new (c:=.cB<|fe<|cs.map λc=>(c.1,D.str c.2)) Vn;have Cb:=(Sub.new (c:=.cB<|fe<|cs.map λc=>(c.1,D.str c.2)) Vn) _ _ hX;have d1:(S1.set pd<|.cB<|fe<|cs.map λc=>(c.1,D.str c.2)) pd=some (.cB<|fe<|cs.map λc=>(c.1,D.str c.2)):=aa;generalize S1.set pd (.cB<|fe<|cs.map λc=>(c.1,D.str c.2))=S2 at g1 Cb d1⊢;refine !!!!{by rw[eE];lia,by rw[eE];lia,?_};rw[eE];refine ic (λd v=>∃(j:Nat)(p:Part),d=.int (0+(j:Nat))/\ps[j]?=some p/\Vg (nj cs p.1) v) trivial (by show(eI 0 _).length<=_;rw[cH];lia) (λd hd Q hQ=>?_) λout sZ p lO=>?_;obtain⟨j,hj⟩:=yB hd;have hj:(eI 0 ((ps.length:Nat):Int).toNat)[j]?=some d:=hj;obtain⟨hjn,rfl⟩:=cI hj;have Zz:j<ps.length:=by lia
 have ec:=zh Zz;generalize ps[j]=pt at ec;obtain⟨c,hc,ZP⟩:=ho.pin pt<|zI ec;obtain⟨xj,ZT,_⟩:=at_ (2+j) (by lia);have ZT:j9 (xs.map D.int) (2+(0+((j:Nat):Int)))=some (.int xj):=by rw[show(2:Int)+(0+((j:Nat):Int))=((2+j:Nat):Int) by lia];exact ZT
 have ez:(0:Int)+((j:Nat):Int)=((j:Nat):Int):=Int.zero_add _;have h1:=nK (cs.map λc=>(c.1,D.str c.2)) pt.1;rw[show(cs.map λc=>(c.1,D.str c.2)).any (λq=>decide<|q.1=pt.1)=true from List.any_eq_true.mpr {_,ze.mpr ⟨c,hc,rfl⟩,zA ZP}]at h1;cases q3:bW (fe<|cs.map λc=>(c.1,D.str c.2)) (.inr pt.1) with|none=>(rw[q3]at h1;cases h1)|some d=>obtain⟨p',U6,e1,rfl⟩:=iT _ _ q3;obtain⟨c',FI,rfl⟩:=ze.mp U6;have e1:c'.1=pt.1:=e1;have Nb:nj cs pt.1=c'.2:=(by unfold nj;rw[<-e1,(oo hg FI).1];rfl);exact !!!!{p3 pt,by rw[ez];exact eS<|by rw[zu,ec];rfl,_,rfl,_,_,d1,q3,_,rfl,_,rfl,_,_,Cb,ZT,c'.2,xj,rfl,λv hv=>hQ v {j,pt,rfl,ec,by rw[Nb];exact hv}}
 have hv:Paired (λk x=>Vg k x) (ps.map λp=>nj cs p.1) out:=by have hlen:=yS sZ;rw[show({eI 0 ((ps.length:Nat):Int).toNat,λ_=>True}:sY).xs=eI 0 ((ps.length:Nat):Int).toNat from rfl,cH]at hlen;refine oj (by rw[zc];lia) λj k v ek ev=>?_;obtain⟨d,hd,j',p',e1,e2,hv⟩:=dN sZ ev;have hd:(eI 0 ((ps.length:Nat):Int).toNat)[j]?=some d:=hd;obtain⟨_,e3⟩:=cI hd;rw[e3]at e1;have e1:(0:Int)+((j:Nat):Int)=0+((j':Nat):Int):=D.int.inj e1;obtain rfl:j=j':=(by lia);rw[zu,e2]at ek;cases ek;exact hv
 have g2:=g1.trans<|Sub.new (c:=.lst out) lO;have ZU:=(Sub.new (c:=.lst out) lO) _ _ Cb;have VZ:(S2.set p<|.lst out) p=some (.lst out):=aa;generalize S2.set p (.lst out)=S3 at g2 ZU VZ⊢;refine !{_,_,rfl,.inl VZ,_,rfl,_,_,ZU,e0,x0,rfl,λz hz=>{ib,ib,λp hp=>!{_,_,(Sub.new hp) _ _ ZU,e1,by decide,dF (yc _<|by decide) (zY _<|by decide) hp λd hd=>?_}}};obtain⟨sd,rfl,hsd⟩:=LU hd;exact{ib,S,g2,q (out,z,sd) ⟨hv,hz,hsd⟩}
theorem IU(h:xs.length=10):(cW xs (some 2) none).length=8:=by unfold cW;rw[yf,yK,show HT.sIx xs.length 0 (some 2)=min 2 xs.length from HT.sIx_nat ..,show HT.sIx xs.length xs.length none=xs.length from rfl,h];rfl
inductive Ah (ds:List D) (S:ax) (R:KD) (Z:KX):Prop where
 |mk (cs:List<|Str×Str) (lk:Addr) (kn:Kn) (c:Int) (h0:ds=[.tup<|cs.map aC,.ref lk,.int c]) (h1:Gd cs) (h2:S lk=some (.cB<|gP kn)) (h3:KI cs kn) (h4:∀d qj,GD KS cs kn d->ZA kn d qj->KI cs qj->R d (S.set lk<|.cB<|gP qj))
theorem IV(T:Txt w K mg t):Ok P w base T.BR 3 Ah:=by
 refine T.BR.F.dQ h_ ?_;obtain⟨cs,lk,kn,c0,e,hg,hk,hI,q⟩;have Vj:=hg.1;have hkl:=hI.len;refine{_,(sc (bX (i:=3) h_.nd<|aY T.iL (jW T) hr<|al 2<|ac di an)<|sc (bX (i:=4) h_.nd<|aY T.Dw (Ia T) hr<|ac (ix hr.u (dv 3) di) an)<|sc (bX (i:=5) h_.nd<|aY T.rE (Fm T) hr<|al 0<|ac (M0 (dv 3) (o1 di) o0) an)<|sc (si (twd<|twand (bH Bx hr.u (dv 4)<|dv 1)<|tw1<|bH bP hr.u (bo cn hr.u (ix hr.u (dv 3) di) di) di) (sc (se<|mp1 (dv 1)<|dv 4)<|s1<|sr<|a_<|ac ds<|al 4 an) s0)<|sc (bX (i:=6) h_.nd<|BD<|ix hr.u (bV<|ac ds<|ac ds an)<|ct MI T.HM A7<|ac (cm Bx hr.u (dv 4)<|dv 1) an)<|sc (sd hr.u (dv 1) (dv 4)<|dv 5)<|s1<|sr<|a_<|al 6<|al 4<|al 5 an),?_};refine !{c0,10,rfl,by decide,λxs lx Na hx qH=>?_};have s1:=Sub.new (c:=.lst<|xs.map D.int) qH;have hX:(S.set lx<|.lst<|xs.map D.int) lx=some (.lst<|xs.map D.int):=aa;generalize S.set lx (.lst<|xs.map D.int)=S1 at s1 hX⊢;have at_:∀k:Nat,k<10->∃x:Int,j9 (xs.map D.int) ((k:Nat):Int)=some (.int x)/\0<=x:=λk hk=>mS (by lia) (by rw[zc];lia) hx;obtain⟨x0,e0,_⟩:=at_ 0 (by decide);obtain⟨x1,e1,_⟩:=at_ 1 (by decide);refine !{_,_,hX,e0,x0,rfl,λz hz=>?_};refine !!!{_,hX,λp2 lT=>{cs,p2,cW xs (some 2) none,rfl,hg,by rw[mY];exact aa,by rw[IU Na];lia,λws hw=>?_}};have s2:=s1.trans<|Sub.new (c:=.lst<|cW (xs.map D.int) (some 2) none) lT;have Cb:=(Sub.new (c:=.lst<|cW (xs.map D.int) (some 2) none) lT) _ _ hX;generalize S1.set p2 (.lst<|cW (xs.map D.int) (some 2) none)=S2 at s2 Cb⊢;have cK:=s2 _ _ hk;have isS:(bW (gP kn)<|.inr z).isSome=(iR kn z).isSome:=by rw[rW];cases iR kn z<;>rfl
 have hl:(gP kn).length<sizeLine:=bg (by unfold gP;rw[zc];lia);have n2:=ib;have n3:=rK;have fin:∀{d:D}{qj:Kn},GD KS cs kn d->ZA kn d qj->KI cs qj->Fo (S2.set lk<|.cB<|gP qj) (R d):=λh1 h2 h3=>{_,eU s2,q _ _ h1 h2 h3};refine !!⟨.inr {gP kn,.inr z,cK,rfl,_,rfl,bD (λh=>?_) λh=>?_}⟩;have h:(bW (gP kn)<|.inr z).isSome=true:=h;have Wy:(iR kn z).isSome=true:=isS ▸ h;obtain⟨vs,hvs⟩:=Option.isSome_iff_exists.mp Wy;refine !{_,_,Cb,e1,by decide,_,rfl,bD (λ_=>?_) λ_=>?_};refine !{lk,gP kn,rfl,cK,_,rfl,gP kn,.inr z,.tup vs,cK,rfl,by rw[rW,hvs];rfl,?_};rw[P9];exact !{n2,fin (.inr<|.inr ⟨z,hz,Wy,rfl⟩) (.inr ⟨z,Wy,rfl,rfl⟩)<|hI.del z};refine{n2,λp hp=>!!⟨.inr {gP kn,.inr z,(Sub.new hp) _ _ cK,rfl,?_}⟩};rw[h];refine .inr !{_,_,aa,(show j9 _ 1=some _ from rfl),S2,.new hp,?_};refine !!!{lk,gP kn,.inr z,rfl,cK,rfl,hl,?_};rw[Ie];exact !!!{n3,fin (.inr<|.inl ⟨z,ws,hz,hw,Wy,rfl⟩) (.inl {_,z,ws,.inr rfl,rfl,rfl})<|hI.put hz hw};have h:(bW (gP kn)<|.inr z).isSome=false:=h;have R9:iR kn z=none:=by cases e:iR kn z with|none=>rfl|some _=>rw[isS,e]at h;cases h
 refine bY {n2,λp hp=>!!⟨.inr {gP kn,.inr z,(Sub.new hp) _ _ cK,rfl,?_}⟩};rw[h];refine .inr !{_,_,aa,(show j9 _ 0=some _ from rfl),S2,.new hp,?_};refine !!!{lk,gP kn,.inr z,rfl,cK,rfl,hl,?_};rw[Ie];exact !!!{n3,fin (.inl ⟨z,ws,hz,hw,R9,rfl⟩) (.inl {_,z,ws,.inl rfl,rfl,rfl})<|hI.put hz hw}
inductive Ai (ds:List D) (S:ax) (R:KD) (Z:KX):Prop where
 |mk (cs:List<|Str×Str) (lk:Addr) (kn:Kn) (h0:ds=[.ref lk]) (h1:S lk=some (.cB<|gP kn)) (h2:KI cs kn) (h3:∀ss p,ss.Perm (kn.map (·.1))->PyProof.Rows.sortedS ss=true->S p=none->R (.ref p) (S.set p<|.lst<|(i9 kn ss).map aJ))
theorem Aj(T:Txt w K mg t):Ok P w base T.vY 1 Ai:=by
 refine T.vY.F.dQ Fe ?_;obtain⟨cs,lk,kn,e,hk,hI,q⟩;have hkl:=hI.len;refine{_,(s1<|sr<|vp (N:=["_law_key_here","_law_standing"]) (src:=[none,some 0]) (lU (ae HH) ["_law_standing"] rfl rfl<|by trivial) (il<|cb xI T.hG fB<|al 0 an) (qY<|show(["_law_key_here","_law_standing"]:List Str).Nodup by trivial) (aW rfl) aX (λ_ _ _ _ _=>ur) λ_ _ _ _ _=>(a_<|al 0<|ac (ix hr.u (dv 1)<|dv 0) an)),?_};refine !{lk,gP kn,kn.map (·.1),rfl,hk,by unfold gP;rw[zB,zB];rfl,by unfold gP;rw[zc];lia,λss hp hs p lO=>?_};have hlen:ss.length<=60:=by rw[hp.length_eq,zc];exact hkl
 refine{_,aa,?_};refine comp_map (λd=>match d with|.str z=>.tup [.str z,pR kn z]|_=>.av) aa (by show(ss.map D.str).length<=1000;rw[zc];lia) (λd hd Q hQ=>?_) λp2 lT=>?_;obtain⟨z,hz,rfl⟩:=ze.mp hd;obtain⟨ws,tM⟩:=jY<|hp.mem_iff.mp hz;have hQ:Q (.tup [.str z,pR kn z]) (S.set p<|.lst<|ss.map D.str):=hQ;have e1:bW (gP kn) (.inr z)=some (pR kn z):=by rw[rW];unfold pR;rw[tM];rfl
 exact !!!{gP kn,_,(Sub.new lO) _ _ hk,e1,ib,hQ};have em:(ss.map D.str).map (λd=>match d with|.str z=>D.tup [.str z,pR kn z]|_=>.av)=(i9 kn ss).map aJ:=by rw[kz hp,zB];rfl
 rw[show({ss.map D.str,λS=>vk S (.ref p)<|ss.map D.str}:sY).xs=ss.map D.str from rfl,em];exact{_,eU<|.new lO,q ss p2 hp hs<|dy (.new lO) lT}
structure ZV(t:gm)(ds:List D)(S:ax)(R:KD)(Z:KX):Prop where
 of:Nd t ds S R Z
noncomputable def Fs(lk lm:Addr)(kn:Kn)(ce:Vl):List (Addr×Ce):=(lk,.cB<|gP kn)::(lm,.lst<|ce.map λx=>D.ref x.1)::ce.map ZS
structure Bt(t:gm)(S0:ax)(a lk lm:Addr)(cs:List (Str×Str))(kn:Kn)(ce:Vl)(F:List Addr)(dl:List D)(rs:lW)(S:ax):Prop where
 st:St t S0 a (Fs lk lm kn ce) F cs dl rs S
 ki:KI cs kn
 ri:RI rs dl.length kn
 hi:HI rs cs dl.length (ce.map Prod.snd)
 le:dl.length<=89
inductive uN (t:gm) (ds:List D) (S:ax) (R:KD) (Z:KX):Prop where
 |mk (cs:List<|Str×Str) (l:Addr) (ms:List Int) (h0:ds=[.tup<|cs.map aC,.ref l]) (h1:Gd cs) (h2:S l=some (.lst<|ms.map D.int)) (h3:ms.length<=30) (h4:∀S' a lk lm kn ce F dl rs,Bt t S a lk lm cs kn ce F dl rs S'->R (.tup [.ref a,.ref lm,.ref lk]) S')
theorem IW(T:Txt w K mg t):Ok P w base T.vZ 8 (uN t):=by
 have IX:Ok P w base T.vX 7 (ZV t):=(LG T).Ue λds S R Z h=>h.of;refine T.vZ.F.dQ cU ?_;obtain⟨cs,l,ms,e,hg,hl,h30,q⟩;refine{_,(sc (bX (i:=2) cU.nd<|mk T.HR (LA T) (hr.mono<|by decide) T.HQ T.fR.b d0<|al 0 an)<|sc (bX (i:=3) cU.nd Tq)<|sc (bX (i:=4) cU.nd<|bV<|ac (bV an) an)<|sc (bX (i:=5) cU.nd<|bV an)<|sc (nJ<|BC (il<|M0 (dv 1) o0<|o1 di) (gn (i:=6) cU.nd)<|s1<|si (bH bP hr.u (bo cn hr.u (dv 6) di) di) (s1<|Pd (i:=5) (N:=["_law_k","_law_cell"]) (src:=[none,some 6]) cU.nd (lU (ae EY) ["_law_columns_here","_law_cells","_law_shelf","_law_standing","_law_moments","_law_more","_law_cell"] rfl rfl<|by trivial) (Hj T.dR<|ac (bo ba hr.u di<|bo cn hr.u (bo fc hr.u (dv 6) di) di) an) (qY<|show(["_law_k","_law_cell"]:List Str).Nodup by trivial) (aW rfl) aX (λ_ _ _ _ _=>ur) λ_ _ _ _ _=>(bo ba hr.u (bo fc hr.u (dv 1) di)<|bo qS hr.u di<|dv 0)) s0)<|sc (nJ<|BC (il<|bo ba hr.u (dv 5)<|dv 1) (gn (i:=6) cU.nd)<|sc (se<|aY T.vX IX hr<|al 2<|ac (aY T.BR (IV T) hr<|al 0<|al 3<|al 6 an) an)<|s1<|se<|bm zH zL zM bq (dv 4)<|ac (aY T.vY (Aj T) hr<|al 3 an) an)<|s1<|sr<|a_<|al 2<|al 4<|al 3 an),?_};refine{_,rfl,λa ha=>{a,cs,rfl,hg,aa,λS1 F1 DB U_=>{rfl,?_}}};have ZW:Wv S F1 S1:=λb c hb=>by have h2:b≠a:=iu hb ha;exact U_ b c (λm=>h2<|zr.mp m)<|(ag h2).trans hb
 have ZX:St t S a [] F1 cs [] [] S1:={DB,λ_ h=>(nomatch h),.nil,ZW};refine λlk YO=>?_;have Rw:=ZX.new YO<|.cB [];generalize S1.set lk (.cB [])=SA at Rw⊢;refine{pN,λq0 hq0=>{gN,λlm hlm=>?_}};have Ga:=(Rw.new hq0<|.lst []).new hlm<|.lst [.ref q0];generalize (SA.set q0<|.lst []).set lm (.lst [.ref q0])=SB at Ga⊢;have Mm:St t S a (Fs lk lm [] [(q0,[])]) F1 cs [] [] SB:=Ga.perm<|.cons _<|.swap _ _ _;refine{pN,λle hle=>?_};have ZY:=Sub.new (c:=.lst []) hle;have Vo:(SB.set le<|.lst []) le=some (.lst []):=aa;have Rl:=ZY _ _<|Mm.FR.sub _ _ hl;generalize SB.set le (.lst [])=SC at ZY Vo Rl⊢;refine{λaq S'=>∃(lx:Addr)(ys:List Int)(o6:Option D),aq=[some<|.tup<|cs.map aC,some<|.ref l,some<|.ref a,some<|.ref lk,some<|.ref lm,some<|.ref lx,o6]/\Sub SC S'/\S' lx=some (.lst<|ys.map D.int)/\ys.length<=59,?_,?_};refine !!{_,Rl,λp1 y_=>{_,aa,?_}};have Qn:=Sub.new (c:=.lst<|cW (ms.map D.int) none<|some 1) y_;have LW:(SC.set p1<|.lst<|cW (ms.map D.int) none<|some 1) p1=some (.lst<|cW (ms.map D.int) none<|some 1):=aa;generalize SC.set p1 (.lst<|cW (ms.map D.int) none<|some 1)=SD at Qn LW⊢;rw[mY]at LW⊢;generalize cW ms none (some 1)=m1 at LW⊢;refine{λi aq S'=>∃(lx:Addr)(ys:List Int)(o6:Option D),aq=[some<|.tup<|cs.map aC,some<|.ref l,some<|.ref a,some<|.ref lk,some<|.ref lm,some<|.ref lx,o6]/\Sub SD S'/\S' lx=some (.lst<|ys.map D.int)/\ys.length<=59,{le,[],none,rfl,.refl _,Qn _ _ Vo,yh _},?_,?_,?_};rintro i aq S' ⟨_,_,_,_,sb,_⟩;exact sb _ _ LW;rintro i d aq S' hd ⟨lx,ys,o6,rfl,sb,hx,hy⟩;have hd:(m1.map D.int)[i]?=some d:=hd;obtain⟨c,_,rfl⟩:=ze.mp<|zI hd;refine !{by decide,_,rfl,bD (λ_=>?_) λ_=>{lx,ys,_,rfl,sb,hx,hy}};have b0:0<=c/8%40:=yc _ (by decide);have b1:c/8%40<40:=zY _ (by decide);refine{_,rfl,{by decide,by trivial},by decide,_,rfl,by lia,by lia,?_};refine ic (λ_ v=>∃x:Int,v=.int x) trivial (by show(eI 0 _).length<=_;rw[cH];lia) (λd hd Q hQ=>?_) λout sZ p lO=>?_;obtain⟨j,hj⟩:=yB hd;obtain⟨_,rfl⟩:=cI hj;exact{_,rfl,{by decide,by trivial},_,rfl,.inl<|by decide,hQ _ {_,rfl}};have hlen:=yS sZ;have:∀{L out:List D},Paired (λ_ v=>∃x:Int,v=D.int x) L out->∃xs:List Int,out=xs.map D.int:=λ{L out} h=>by induction h with|nil=>exact{[],rfl}|cons r _ ih=>obtain⟨x,rfl⟩:=r;obtain⟨xs,rfl⟩:=ih;exact{x::xs,rfl}
 obtain⟨zs,rfl⟩:=this sZ;rw[zc]at hlen;have hlen:(eI 0 (20+c/8%40).toNat).length=zs.length:=hlen;rw[cH]at hlen;exact{p,zs,_,rfl,sb.trans<|.new lO,aa,by lia};rintro aq S' ⟨lx,ys,o6,rfl,sb,r⟩;exact fo {lx,ys,o6,rfl,Qn.trans sb,r};rintro aq S2 ⟨lx,ys,o6,rfl,C5,hx,hy⟩;have st4:=(Mm.sub ZY).sub C5;refine{λaq S'=>∃(kn:Kn)(ce:Vl)(F:List Addr)(dl:List D)(rs:lW)(o6:Option D),aq=[some<|.tup<|cs.map aC,some<|.ref l,some<|.ref a,some<|.ref lk,some<|.ref lm,some<|.ref lx,o6]/\Bt t S a lk lm cs kn ce F dl rs S',?_,?_};refine !!{_,_,hx,C5 _ _ Rl,sm<|by rw[zc,zc];lia,λlz hlz=>{_,aa,?_}};rw[<-zE];have YY:(ys++ms).length<=89:=by rw[zp];lia
 generalize ys++ms=zs at YY⊢;have Jy:St t S a ((lz,.lst<|zs.map D.int)::Fs lk lm [] [(q0,[])]) F1 cs [] [] (S2.set lz<|.lst<|zs.map D.int):=(st4.new hlz _).perm (List.perm_append_singleton _ _).symm;generalize S2.set lz (.lst<|zs.map D.int)=S3 at Jy⊢;refine{λi aq S'=>∃(kn:Kn)(ce:Vl)(F:List Addr)(dl:List D)(rs:lW)(o6:Option D),aq=[some<|.tup<|cs.map aC,some<|.ref l,some<|.ref a,some<|.ref lk,some<|.ref lm,some<|.ref lx,o6]/\dl.length=i/\St t S a ((lz,.lst<|zs.map D.int)::Fs lk lm kn ce) F cs dl rs S'/\KI cs kn/\RI rs dl.length kn/\HI rs cs dl.length (ce.map Prod.snd),?_,?_,?_,?_};refine{[],[(q0,[])],F1,[],[],_,rfl,rfl,Jy,KI.nil cs,RI.nil,rfl,λm rows e=>?_};cases m with|zero=>(cases e;exact{[],[],rfl,KI.nil cs,.refl _,rfl,λz=>rfl})|succ m=>simp at e
 rintro i aq S' ⟨_,_,_,_,_,_,_,_,st,_⟩;exact st.at 0 rfl;rintro i d aq S' hd ⟨kn,ce,F,dl,rs,o6,rfl,Kt,st,hI,hR,hH⟩;have hd:(zs.map D.int)[i]?=some d:=hd;have hi:=(zt.mp hd).1;rw[zc]at hi;obtain⟨c,_,rfl⟩:=ze.mp<|zI hd;refine !!!!{cs,lk,kn,c,rfl,hg,st.at 1 rfl,hI,λde qj hde Nb ZZ=>?_};have Rx:St t S a ((lz,.lst<|zs.map D.int)::Fs lk lm qj ce) F cs dl rs _:=st.put 1 rfl<|.cB<|gP qj;generalize S'.set lk (.cB<|gP qj)=S6 at Rx⊢;refine⟨(FC Rx.sh hg hI hR (by lia) hde Nb λS7 F7 rs7 hS7 hK7 hR7 hold=>?_).of⟩;have IY:=Rx.ZR hS7 hK7;have hM:=IY.at 2 rfl;have A5:(ce.map λx=>D.ref x.1).length<sizeLine:=bg (by have:=hH.1;rw[zc]at this⊢;lia);refine{_,rfl,{rfl,_,hM},_,rfl,cs,lk,qj,rfl,IY.at 1 rfl,ZZ,λss p hp ho lO=>?_};refine{lm,_,_,rfl,rfl,(Sub.new lO) _ _ hM,A5,?_};have Nn:=(IY.new lO<|.lst<|(i9 qj ss).map aJ).put 2 rfl<|.lst<|(ce.map λx=>D.ref x.1)++[.ref p];refine{qj,ce++[(p,i9 qj ss)],F7,dl++[de],rs7,_,rfl,by rw[zp,Kt];rfl,?_,ZZ,by rw[zp];exact hR7,?_};unfold Fs;rw[zE,zE];exact Nn;rw[zp,zE];exact hH.step hold ZZ hR7 hp ho;rintro aq S' ⟨kn,ce,F,dl,rs,o6,rfl,Kt,st,hI,hR,hH⟩;have Kt:dl.length=(zs.map D.int).length:=Kt;rw[zc]at Kt;exact fo {kn,ce,F,dl,rs,o6,rfl,st.less (yt.mp st.nd).2 λx hx=>zj _ hx,hI,hR,hH,by lia};rintro aq S' ⟨kn,ce,F,dl,rs,o6,rfl,hb⟩;exact !!!{rK,fo<|q _ _ _ _ _ _ _ _ _ hb}
theorem ck(h:z.cps.size<=1000):QA S (.str z):=uI (ku h) λ_=>nofun
theorem CA:QA S .av:=uI oh λ_=>nofun
theorem j8:QA S (.int i):=uI gt_int λ_=>nofun
theorem Vp:QA S (.bl i):=uI DL λ_=>nofun
theorem CB(h:S p=some (.lst L)):QA S (.ref p):=uI (Cs h) λ_=>nofun
theorem pw(h:QA S a):QA S (.tup [a]):=dZ (by simp) λv hv=>by rw[zr.mp hv];exact h
theorem fZ(h:QA S a)(h2:QA S b):QA S (.tup [a,b]):=dZ (by simp) λv hv=>by simp only[zg,zG,or_false]at hv;rcases hv with rfl|rfl;exact h;exact h2
theorem IZ(h:QA S a)(h2:QA S b)(h3:QA S c):QA S (.tup [a,b,c]):=dZ (by simp) λv hv=>by simp only[zg,zG,or_false]at hv;rcases hv with rfl|rfl|rfl;exact h;exact h2;exact h3
theorem Qw(hn:n<=1000)(h:QA S a):QA S (.tup<|List.replicate n a):=dZ (by rw[yi];exact hn) λv hv=>by rw[List.eq_of_mem_replicate hv];exact h
theorem LX{x w:D}(h:ofStr eZ w=false):jt cs (.tup [x,w])=false:=by unfold jt;split;rename_i e;cases e;rw[h];simp;rfl
theorem I_{x w:D}(hx:x∈ps)(h:cu cs x=false):jt cs (.tup [.tup ps,w])=false:=by
 show(decide (ps.length<=8)&&(ps.all (cu cs)&&(decide ((ps.map Rp).Nodup)&&ofStr eZ w)))=false;have:ps.all (cu cs)=false:=by rw[List.all_eq_false];exact{x,hx,by rw[h];exact zd}
 rw[this];simp
theorem Ja(hN:∀c∈cs,c.1∈uG)(h:z∉uG):uj cs (.str z)=.av:=ql λm=>by obtain⟨c,hc,rfl⟩:=ze.mp m;exact h<|hN c hc
theorem wG:qm cs (n+1) p [d]=(decide (p+1<=200)&&(jg cs d&&qm cs n (p+1) (subs d))):=by show(if (1:Nat)=0 then true else decide (p+1<=200)&&((jg cs d&&true)&&qm cs n (p+1) (subs d++[])))=_;rw[if_neg<|by decide,Bool.and_true,ye]
theorem gE(h:jg cs d=false):qm cs 8 0 [d]=false:=by rw[wG,h];rfl
theorem LY(h:uj cs x=.av):Ir cs o x v=false:=by unfold Ir;rw[h]
noncomputable def iU:Nat->D|0=>.tup [.str "every"]|n+1=>.tup [.str "not",iU n]
theorem wH(S:ax):∀n,QA S (iU n)|0=>pw (ck<|by decide)|n+1=>fZ (ck<|by decide)<|wH S n
theorem DY(cs:List<|Str×Str):∀(m n p:Nat),m<=n->qm cs m p [iU n]=false:=by intro m;induction m with|zero=>intro n p _;rfl|succ m ih=>intro n p h;obtain⟨k,rfl⟩:∃k,n=k+1:={n-1,by lia};rw[wG,show subs (iU<|k+1)=[iU k] from r_ _,ih k _<|by lia];simp
theorem Jb(h:subs x=List.replicate m y):∀k,(List.replicate k x).flatMap subs=List.replicate (k*m) y:=by intro k;induction k with|zero=>rw[Nat.zero_mul];rfl|succ k ih=>rw[List.replicate_succ,List.flatMap_cons,ih,h,List.replicate_append_replicate,Nat.succ_mul,Nat.add_comm]
theorem wI(hk:0<k)(hs:subs x=List.replicate m y)(h:qm cs n (p+k) (List.replicate (k*m) y)=false):qm cs (n+1) p (List.replicate k x)=false:=by unfold qm;rw[if_neg<|by rw[yi];lia,Jb hs,yi,h];simp
theorem Qx(hk:0<k)(h:200<p+k):qm cs (n+1) p (List.replicate k x)=false:=by unfold qm;rw[if_neg<|by rw[yi];lia,zw<|by rw[yi];lia];rfl
noncomputable def FT:Nat->D|0=>.tup [.str "every"]|n+1=>.tup [.str "and",.tup<|List.replicate 8<|FT n]
theorem Jc(S:ax):∀n,QA S (FT n)|0=>pw (ck<|by decide)|n+1=>fZ (ck<|by decide)<|Qw (by decide)<|Jc S n
theorem Qy(cs:List<|Str×Str):qm cs 8 0 [FT 3]=false:=by have hs:∀n,subs (FT<|n+1)=List.replicate 8 (FT n):=λn=>mU (.inl rfl) _;exact wI (k:=1) (by decide) (hs 2)<|wI (k:=8) (by decide) (hs 1)<|wI (k:=64) (by decide) (hs 0)<|Qx (by decide)<|by decide
theorem Jd(ho:Og cs ps wy):QA S (.tup<|ps.map p3)/\QA S (.str wy)/\QA S (bO ps wy):=by
 have w1:∀z:Str,eZ z=true->z.cps.size<=1000:=λz h=>by unfold eZ at h;rw[Bool.or_eq_true]at h;rcases h with q|q<;>rw[zo q]<;>decide
 have hp:QA S (.tup<|ps.map p3):=dZ (by rw[zc];have:=ho.len;lia) λv hv=>by obtain⟨p,hp,rfl⟩:=ze.mp hv;have:=ho.tx p hp;exact IZ (ck this.1) (ck this.2.1)<|ck this.2.2
 have hw:QA S (.str wy):=ck<|w1 wy ho.way;exact{hp,hw,fZ hp hw}
noncomputable def ev:D:=.tup [.str "every"]
theorem Vq(cs:List<|Str×Str):qm cs 8 0 [ev]=true:=by unfold ev;rw[wG,r9];rfl
theorem px:Sq cs ev:={.inl<|.inl rfl,by trivial}
def Bd(S:ax)(cs:List<|Str×Str)(ps:List Part)(n:Nat):Nat->D->Prop|0,d=>QA S d/\jt cs d=false|1,d=>QA S d/\qm cs 8 0 [d]=false|2,d=>Gt S d/\Wx d=false|3,d=>QA S d/\wC cs ps d=false/\ay d=false|_,d=>Gt S d/\oa n d=none
theorem Bd.sub(b:Sub S S'):∀{k:Nat}{d:D},Bd S cs ps n k d->Bd S' cs ps n k d|0,_,h=>{h.1.sub b,h.2}|1,_,h=>{h.1.sub b,h.2}|2,_,h=>{h.1.sub b,h.2}|3,_,h=>{h.1.sub b,h.2}|_+4,_,h=>{h.1.sub b,h.2}
structure Aq(S:ax)(cs:List (Str×Str))(ps:List Part)(wy:Str)(g:Cw)(m:Int)(n:Nat)(wf:Nat->Bool)(af:Nat->D):Prop where
 bad:∀j,wf j=true->Bd S cs ps n j (af j)
 g0:wf 0=false->af 0=bO ps wy
 g1:wf 1=false->af 1=ev
 g2:wf 2=false->af 2=.int 2
 g3:wf 3=false->af 3=dq g
 g4:wf 4=false->af 4=.int m
theorem Aq.sub{S S':ax}{cs:List<|Str×Str}{ps:List Part}{wy:Str}{g:Cw}{m:Int}{n:Nat}{wf:Nat->Bool}{af:Nat->D}(h:Aq S cs ps wy g m n wf af)(b:Sub S S'):Aq S' cs ps wy g m n wf af:={λj e=>(h.bad j e).sub b,h.g0,h.g1,h.g2,h.g3,h.g4}
theorem Je:∀{ps:List Part}{xs:List D},Paired (λk x=>Vg k x) (ps.map λp=>nj cs p.1) xs->(List.zipWith (λ(p:Part) x=>cF (nj cs p.1) x) ps xs).all id=true/\∀x∈xs,QA S x|[],_,.nil=>{rfl,λ_ h=>(nomatch h)}|p::ps,_,.cons r h=>by obtain⟨a,b⟩:=Je h;refine{?_,λx hx=>?_};show(id (cF _ _)&&_)=true;rw[show id (cF (nj cs p.1) _)=true from r.1,a];rfl;rcases zg.mp hx with rfl|hx;exact uI (Ab r.2)<|Ng r;exact b x hx
theorem Jf(h8:ps.length<=8)(h:Gp cs ps g):QA S (.tup g.1)/\QA S (Cv g.1 g.2.1)/\QA S (dq g)/\wC cs ps (dq g)=true:=by
 obtain⟨a,b⟩:=Je (S:=S) h.pv;have hl:=h.len;have hs:g.2.2.cps.size<=1000:=by have:=h.side;unfold j7 at this;rw[Bool.or_eq_true]at this;rcases this with q|q<;>rw[zo q]<;>decide
 have q1:QA S (.tup g.1):=dZ (by lia) b;have q2:QA S (Cv g.1 g.2.1):=fZ q1<|ck<|zK (lP _ h.key).2.1 (by decide);refine{q1,q2,fZ q2<|ck hs,?_};show(((decide (g.1.length=ps.length)&&(List.zipWith (λ(p:Part) x=>cF (nj cs p.1) x) ps g.1).all id)&&fz g.2.1)&&j7 g.2.2)=true;rw[zA hl,a,show fz g.2.1=true from(lP _ h.key).1,h.side];rfl
theorem Aq.of{S:ax}{cs:List<|Str×Str}(hg:Gd cs){ps:List Part}{wy:Str}(ho:Og cs ps wy){g:Cw}(hp:Gp cs ps g){m:Int}{n:Nat}{wf:Nat->Bool}{af:Nat->D}(h:Aq S cs ps wy g m n wf af):(QA S (af 0)/\jt cs (af 0)=!wf 0)/\(QA S (af 1)/\qm cs 8 0 [af 1]=!wf 1)/\(Gt S (af 2)/\Wx (af 2)=!wf 2)/\(QA S (af 3)/\wC cs ps (af 3)=(!wf 3)/\ay (af 3)=false):=by
 refine{?_,?_,?_,?_};cases e:wf 0 with|true=>exact h.bad 0 e|false=>rw[h.g0 e];exact{(Jd ho).2.2,(Fn hg ps wy).trans ho.ok}
 cases e:wf 1 with|true=>exact h.bad 1 e|false=>rw[h.g1 e];exact{pw<|ck<|by decide,Vq cs}
 cases e:wf 2 with|true=>exact h.bad 2 e|false=>rw[h.g2 e];exact{gt_int,by trivial}
 cases e:wf 3 with|true=>exact h.bad 3 e|false=>rw[h.g3 e];obtain⟨_,_,a,b⟩:=Jf (S:=S) ho.len hp;exact⟨a,b,rfl⟩
inductive k_ (t:gm) (ds:List D) (S:ax) (R:KD) (Z:KX):Prop where
 |mk (cs ps wy d) (h0:ds=[.tup<|cs.map aC,bO ps wy,d]) (h1:Gd cs) (h2:Pin cs ps) (h3:ps.length<=8) (h4:d=.av/\R .av S\/ay d=false/\QA S d/\(wC cs ps d=true->R .av S)/\(wC cs ps d=false->Z t.az S))
theorem f_(T:Txt w K mg t):Ok P w base T.eW 7 (k_ t):=by refine T.eW.F.dQ rG ?_;obtain⟨cs,ps,wy,d,e,hg,hp,h8,hd⟩;refine{_,(s1<|si (bH nE hr.u (dv 2) dn) (s1<|se<|aY T.nW (wD T) hr<|al 0<|al 1<|al 2 an) s0),?_};rcases hd with⟨rfl,q⟩|⟨hn,hd,q1,q2⟩;exact !!⟨bY<|fo q⟩;refine !!⟨rS (by show(!ay d)=true;rw[hn];rfl) !!!{cs,ps,wy,d,rfl,hg,hp,h8,hd 3,λb=>fo<|q1 b,λb=>fo<|q2 b}⟩
inductive m6 (t:gm) (ds:List D) (S:ax) (R:KD) (Z:KX):Prop where
 |mk (cs:List<|Str×Str) (ps:List Part) (wy:Str) (g:Cw) (m:Int) (n:Nat) (wf:Nat->Bool) (af:Nat->D) (h0:ds=[.tup<|cs.map aC,af 0,af 1,af 2,af 3]) (h1:Gd cs) (h2:Og cs ps wy) (h3:Gp cs ps g) (h4:Aq S cs ps wy g m n wf af)
  (z0:wf 0=true->Z t.aE S) (z1:wf 0=false->wf 1=true->Z t.aF S) (z2:wf 0=false->wf 1=false->wf 2=true->Z t.aN S) (z3:wf 0=false->wf 1=false->wf 2=false->wf 3=true->Z t.az S) (h5:wf 0=false->wf 1=false->wf 2=false->wf 3=false->R .av S):m6 t ds S R Z
theorem lh(T:Txt w K mg t):Ok P w base T.iK 8 (m6 t):=by refine T.iK.F.dQ tE ?_;obtain⟨cs,ps,wy,g,m,n,wf,af,e,hg,ho,ou,hq,z0,z1,z2,z3,r⟩;obtain⟨⟨a0,o0⟩,⟨a1,o1⟩,⟨a2,o2⟩,⟨a3,o3,o3'⟩⟩:=hq.of hg ho ou;refine{_,(sc (se<|aY T.gz (j0 T) hr<|al 0<|al 1 an)<|sc (se<|aY T.gA (j5 T) hr<|al 0<|al 2 an)<|sc (se<|aY T.lM (tN T) hr<|al 3 an)<|s1<|se<|aY T.eW (f_ T) hr<|al 0<|al 1<|al 4 an),?_};refine !!{cs,af 0,rfl,hg,a0 3,λb0=>?_,λb0=>fo<|z0<|nf<|o0.symm.trans b0};have b0:=nt<|o0.symm.trans b0;refine !!{cs,af 1,rfl,hg,a1,λb1=>?_,λb1=>fo<|z1 b0<|nf<|o1.symm.trans b1};have b1:=nt<|o1.symm.trans b1;refine !{af 2,rfl,a2,λb2=>?_,λb2=>fo<|z2 b0 b1<|nf<|o2.symm.trans b2};have b2:=nt<|o2.symm.trans b2;exact !!!{cs,ps,wy,af 3,by rw[hq.g0 b0];rfl,hg,ho.pin,ho.len,.inr {o3',a3,λb3=>fo<|r b0 b1 b2<|nt<|o3.symm.trans b3,λb3=>fo<|z3 b0 b1 b2<|nf<|o3.symm.trans b3}}
inductive Jg (t:gm) (ds:List D) (S:ax) (R:KD) (Z:KX):Prop where
 |mk (a:Addr) (cs:List<|Str×Str) (ps:List Part) (wy:Str) (g:Cw) (m:Int) (F:List Addr) (dl:List D) (rs:lW) (rows:List Row) (wf:Nat->Bool) (af:Nat->D) (h0:ds=[.ref a,af 0,af 1,af 2,af 3,af 4]) (h1:Gd cs) (h2:Og cs ps wy) (h3:Gp cs ps g) (h4:bR t.aj S a F cs dl rs) (h5:rs.length<64) (h6:Vw t.aj S a cs (.int m) rows) (h7:Vm rows) (h8:Tb t S) (h9:Aq S cs ps wy g m dl.length wf af)
  (z0:wf 0=true->Z t.aE S) (z1:wf 0=false->wf 1=true->Z t.aF S) (z2:wf 0=false->wf 1=false->wf 2=true->Z t.aN S) (z3:wf 0=false->wf 1=false->wf 2=false->wf 3=true->Z t.az S) (z4:wf 0=false->wf 1=false->wf 2=false->wf 3=false->wf 4=true->Z t.aA S)
  (h10:wf 0=false->wf 1=false->wf 2=false->wf 3=false->wf 4=false->∀v S',Sub S S'->R v S'):Jg t ds S R Z
theorem CC(T:Txt w K mg t)(B:Bm mg base):Ok P w base T.vJ 13 (Jg t):=by refine T.vJ.F.dQ BY ?_;obtain⟨a,cs,ps,wy,g,m,F,dl,rs,rows,wf,af,e,hg,ho,ou,hS,hn,hv,hk,ht,hq,z0,z1,z2,z3,z4,r⟩;obtain⟨ld,lr,ra,h,_⟩:=id hS;refine{_,(sc (se<|aY T.iK (lh T) hr<|ac (nN (dv 0) T.ah T.aI (br T) hr)<|al 1<|al 2<|al 3<|al 4 an)<|s1<|sr<|aY T.lK (tP T) hr<|ac (nN (dv 0) T.ah T.aI (br T) hr)<|al 1<|ac (aY T.cS (d_ T B) hr<|al 0<|al 1<|al 2<|al 5 an)<|al 3<|al 4 an),?_};refine !{a,_,rfl,h.ins,rfl,a,F,cs,dl,rs,rfl,hS,_,rfl,_,rfl,_,rfl,_,rfl,cs,ps,wy,g,m,dl.length,wf,af,rfl,hg,ho,ou,hq,λb0=>fo<|z0 b0,λb0 b1=>fo<|z1 b0 b1,λb0 b1 b2=>fo<|z2 b0 b1 b2,λb0 b1 b2 b3=>fo<|z3 b0 b1 b2 b3,λb0 b1 b2 b3=>?_};refine !{a,_,rfl,h.ins,rfl,a,F,cs,dl,rs,rfl,hS,_,rfl,_,rfl,_,rfl,_,rfl,_,rfl,?_};cases b4:wf 4 with|true=>exact{a,cs,ps,wy,ev,_,by rw[hq.g0 b0,hq.g1 b1];rfl,hg,ho,px,.inr {{F,dl,rs,hS,hn,(hq.bad 4 b4).2,(hq.bad 4 b4).1},fo<|z4 b0 b1 b2 b3 b4}}|false=>refine{a,cs,ps,wy,ev,.int m,by rw[hq.g0 b0,hq.g1 b1,hq.g4 b4];rfl,hg,ho,px,.inl {rows,hv,ht,λfu A l sl pm hl=>?_}};have an:=DV hv.rg hk sl pm;exact !!{cs,ps,wy,l,A,2,g,by rw[hq.g0 b0,hq.g2 b2,hq.g3 b3];rfl,hg,ho.pin,ho.len,aa,an,ou,λv S' sb=>fo<|r b0 b1 b2 b3 b4 _ _<|(Sub.new hl).trans sb}
theorem wJ(T:Txt w K mg t)(B:Bm mg base):Ok P w base T.nR 13 (Jg t):=by refine T.nR.F.dQ wc ?_;obtain⟨a,cs,ps,wy,g,m,F,dl,rs,rows,wf,af,e,hg,ho,ou,hS,hn,hv,hk,ht,hq,z0,z1,z2,z3,z4,r⟩;obtain⟨ld,lr,ra,h,_⟩:=id hS;refine{_,(sc (se<|aY T.iK (lh T) hr<|ac (nN (dv 0) T.ah T.aI (br T) hr)<|al 1<|al 2<|al 3<|al 4 an)<|s1<|sr<|aY T.iJ (pS T) hr<|ac (nN (dv 0) T.ah T.aI (br T) hr)<|al 1<|ac (aY T.cS (d_ T B) hr<|al 0<|al 1<|al 2<|al 5 an)<|al 3<|al 4 an),?_};refine !{a,_,rfl,h.ins,rfl,a,F,cs,dl,rs,rfl,hS,_,rfl,_,rfl,_,rfl,_,rfl,cs,ps,wy,g,m,dl.length,wf,af,rfl,hg,ho,ou,hq,λb0=>fo<|z0 b0,λb0 b1=>fo<|z1 b0 b1,λb0 b1 b2=>fo<|z2 b0 b1 b2,λb0 b1 b2 b3=>fo<|z3 b0 b1 b2 b3,λb0 b1 b2 b3=>?_};refine !{a,_,rfl,h.ins,rfl,a,F,cs,dl,rs,rfl,hS,_,rfl,_,rfl,_,rfl,_,rfl,_,rfl,?_};cases b4:wf 4 with|true=>exact{a,cs,ps,wy,ev,_,by rw[hq.g0 b0,hq.g1 b1];rfl,hg,ho,px,.inr {{F,dl,rs,hS,hn,(hq.bad 4 b4).2,(hq.bad 4 b4).1},fo<|z4 b0 b1 b2 b3 b4}}|false=>refine{a,cs,ps,wy,ev,.int m,by rw[hq.g0 b0,hq.g1 b1,hq.g4 b4];rfl,hg,ho,px,.inl {rows,hv,ht,λfu A l sl pm hl=>?_}};have an:=DV hv.rg hk sl pm;exact !!{cs,ps,wy,l,A,2,g,by rw[hq.g0 b0,hq.g2 b2,hq.g3 b3];rfl,hg,ho.pin,ho.len,aa,an,ou,λv S' sb=>fo<|r b0 b1 b2 b3 b4 _ _<|(Sub.new hl).trans sb}
inductive Np (t:gm) (ds:List D) (S:ax) (R:KD) (Z:KX):Prop where
 |mk (v:Bool) (a:Addr) (cs:List<|Str×Str) (ps:List Part) (wy:Str) (g:Cw) (m:Int) (F:List Addr) (dl:List D) (rs:lW) (rows:List Row) (wf:Nat->Bool) (af:Nat->D) (h0:ds=[.ref a,af 0,af 1,if v then af 3 else .av,if v then .av else af 3,af 4]) (h1:Gd cs) (h2:Og cs ps wy) (h3:Gp cs ps g) (h4:bR t.aj S a F cs dl rs) (h5:rs.length<64) (h6:Vw t.aj S a cs (.int m) rows) (h7:Vm rows) (h8:Tb t S) (h9:Aq S cs ps wy g m dl.length wf af)
  (z0:wf 0=true->Z t.aE S) (z1:wf 0=false->wf 1=true->Z t.aF S) (z3:wf 0=false->wf 1=false->wf 3=true->Z t.az S) (z4:wf 0=false->wf 1=false->wf 3=false->wf 4=true->Z t.aA S)
  (h10:wf 0=false->wf 1=false->wf 3=false->wf 4=false->∀v S',Sub S S'->R v S'):Np t ds S R Z
theorem sD(T:Txt w K mg t)(B:Bm mg base):Ok P w base T.qd 13 (Np t):=by refine T.qd.F.dQ fT ?_;obtain⟨v,a,cs,ps,wy,g,m,F,dl,rs,rows,wf,af,e,hg,ho,ou,hS,hn,hv,hk,ht,hq,z0,z1,z3,z4,r⟩;obtain⟨ld,lr,ra,h,_⟩:=id hS;obtain⟨⟨a0,u0⟩,⟨a1,u1⟩,_,⟨a3,u3,Wz⟩⟩:=hq.of hg ho ou;refine{_,(sc (bX (i:=6) fT.nd<|nN (dv 0) T.ah T.aI (br T) hr)<|sc (se<|aY T.gz (j0 T) hr<|al 6<|al 1 an)<|sc (se<|aY T.gA (j5 T) hr<|al 6<|al 2 an)<|sc (se<|aY T.eW (f_ T) hr<|al 6<|al 1<|al 3 an)<|sc (se<|aY T.eW (f_ T) hr<|al 6<|al 1<|al 4 an)<|sc (bX (i:=7) fT.nd<|aY T.cS (d_ T B) hr<|al 0<|al 1<|al 2<|al 5 an)<|sc (bX (i:=8) fT.nd<|ME (bH kE hr.u (dv 3) dn) di<|aY T.dM (ee T) hr<|al 6<|al 1<|al 7<|al 3 an)<|sc (bX (i:=9) fT.nd<|ME (bH kE hr.u (dv 4) dn) (cb bj T.aZ aM<|al 7 an)<|aY T.dM (ee T) hr<|al 6<|al 1<|al 7<|al 4 an)<|s1<|sr<|M0 (dv 7) (o1<|dv 8)<|o1<|dv 9),?_};refine !{a,_,rfl,h.ins,rfl,a,F,cs,dl,rs,rfl,hS,?_};refine !!{cs,af 0,rfl,hg,a0 3,λb0=>?_,λb0=>fo<|z0<|nf<|u0.symm.trans b0};have b0:=nt<|u0.symm.trans b0;refine !!{cs,af 1,rfl,hg,a1,λb1=>?_,λb1=>fo<|z1 b0<|nf<|u1.symm.trans b1};have b1:=nt<|u1.symm.trans b1;have e0:=hq.g0 b0;cases v with|true=>(refine !!!{cs,ps,wy,af 3,by rw[e0];rfl,hg,ho.pin,ho.len,.inr {Wz,a3,λb3=>?_,λb3=>fo<|z3 b0 b1<|nf<|u3.symm.trans b3}};have b3:=nt<|u3.symm.trans b3;refine !!!{cs,ps,wy,.av,by rw[e0];rfl,hg,ho.pin,ho.len,.inl {rfl,?_}};refine !!!!⟨?_⟩;cases b4:wf 4 with|true=>exact{a,cs,ps,wy,ev,_,by rw[e0,hq.g1 b1];rfl,hg,ho,px,.inr {{F,dl,rs,hS,hn,(hq.bad 4 b4).2,(hq.bad 4 b4).1},fo<|z4 b0 b1 b3 b4}}|false=>refine{a,cs,ps,wy,ev,.int m,by rw[e0,hq.g1 b1,hq.g4 b4];rfl,hg,ho,px,.inl {rows,hv,ht,λfu A l sl pm hl=>?_}};have an:=DV hv.rg hk sl pm;refine !!⟨fW Wz !!!!{cs,ps,wy,A,l,g,by rw[e0];exact congrArg (λx=>[_,_,_,x])<|hq.g3 b3,hg,ho.pin,ho.len,aa,an,ou,λn=>!!⟨bU !!⟨.inl {_,aa,_,rfl,_,rfl,_,rfl,_,rfl,_,rfl,_,aa,λp hp=>fo<|r b0 b1 b3 b4 _ _<|(Sub.new hl).trans<|.new hp}⟩⟩}⟩)|false=>refine !!!{cs,ps,wy,.av,by rw[e0];rfl,hg,ho.pin,ho.len,.inl {rfl,?_}};refine !!!{cs,ps,wy,af 3,by rw[e0];rfl,hg,ho.pin,ho.len,.inr {Wz,a3,λb3=>?_,λb3=>fo<|z3 b0 b1<|nf<|u3.symm.trans b3}};have b3:=nt<|u3.symm.trans b3;refine !!!!⟨?_⟩;cases b4:wf 4 with|true=>exact{a,cs,ps,wy,ev,_,by rw[e0,hq.g1 b1];rfl,hg,ho,px,.inr {{F,dl,rs,hS,hn,(hq.bad 4 b4).2,(hq.bad 4 b4).1},fo<|z4 b0 b1 b3 b4}}|false=>refine{a,cs,ps,wy,ev,.int m,by rw[e0,hq.g1 b1,hq.g4 b4];rfl,hg,ho,px,.inl {rows,hv,ht,λfu A l sl pm hl=>?_}};have an:=DV hv.rg hk sl pm;refine !!⟨bU !!⟨fW Wz !!!!{cs,ps,wy,A,l,g,by rw[e0];exact congrArg (λx=>[_,_,_,x])<|hq.g3 b3,hg,ho.pin,ho.len,aa,an,ou,λn=>!!!!!{_,aa,λp hp=>fo<|r b0 b1 b3 b4 _ _<|(Sub.new hl).trans<|.new hp}}⟩⟩
theorem Qz(he:e∈es)(h:jg cs e=false):qm cs (n+1) p es=false:=by unfold qm;rw[if_neg λz=>by rw[List.eq_nil_of_length_eq_zero z]at he;cases he];rw[show es.all (jg cs)=false from List.all_eq_false.mpr {e,he,by rw[h];exact zd}];simp
theorem QB(he:e∈subs d)(h:jg cs e=false):qm cs 8 0 [d]=false:=by rw[wG,Qz he h];simp
theorem LZ{S:ax}{ds:List D}{R:KD}(h:∀d∈ds,Ly S 60 d)(q:R (.bl<|!ds.isEmpty) S):KR true (.tup ds) (.tup []) S R:=by obtain⟨ps,k1,k2,k3,k4⟩:=Ly.all h;refine{.tuple ps,.tuple [],by simp only[Dl,Dp];exact⟨ps,rfl,k1⟩,by simp only[Dl,Dp];exact{[],rfl,by simp only[DpAll]},by simp only[PyData.canLay0];exact k2,by simp only[PyData.canLay0,PyData.canLayAll0],.inl<|by simp only[PyData.depth];lia,?_};rw[if_pos rfl,Ig,show ps.isEmpty=ds.isEmpty by cases ps<;>cases ds<;>first|rfl|cases k4];exact q
theorem QC(hN:∀c∈cs,c.1∈uG)(ho:Og cs ps wy)(h:S lo=some (.lst X)):∀d∈([.av,.tup [],.tup [.tup (ps.map p3),.str "left"],.tup [.tup (ps.map p3++[.tup [.str "nosuch",.str "up",.str "first"]]),.str wy],.ref lo,.int 7]:List D),Bd S cs ps n 0 d:=λd hd=>by obtain⟨hp,hw,_⟩:=Jd (S:=S) ho;simp only[zg,zG,or_false]at hd;rcases hd with rfl|rfl|rfl|rfl|rfl|rfl;exact⟨CA,rfl⟩;exact{dZ (by simp) λv hv=>(nomatch hv),rfl};exact{fZ hp<|ck<|by decide,LX<|by trivial};refine{fZ (dZ ?_ λv hv=>?_) hw,I_ (zC _<|zr.mpr rfl) ?_};rw[zp,zc];have:=ho.len;show ps.length+1<=_;lia;rcases zO.mp hv with hv|hv;exact hp.in hv;rw[zr.mp hv];exact IZ (ck<|by decide) (ck<|by decide)<|ck (by decide);show((!ay (uj cs<|.str "nosuch"))&&_)=false;rw[Ja hN<|by trivial];rfl;exact{CB h,rfl};exact⟨j8,rfl⟩
theorem Jh(hN:∀c∈cs,c.1∈uG)(h1:S a1=some (.lst X)):∀d∈([.av,.tup [],.tup [.str "any"],.tup [.str "is",.str "nosuch",.int 1],.ref a1,.str "every",.tup [.str "every",.int 1],.tup [.str "not"],.tup [.str "and",.tup [.str "every"]]]:List D)++[iU 8,FT 3,iU 2008],Bd S cs ps n 1 d:=λd hd=>by have s1:∀z:Str,z.cps.size<=1000->QA S (.str z):=λz h=>ck h;rcases zO.mp hd with hd|hd;simp only[zg,zG,or_false]at hd;rcases hd with rfl|rfl|rfl|rfl|rfl|rfl|rfl|rfl|rfl;exact{CA,gE rfl};exact{dZ (by simp) λv hv=>(nomatch hv),gE rfl};exact{pw<|s1 _<|by decide,gE<|Co (by trivial) _};exact{IZ (s1 _<|by decide) (s1 _<|by decide) j8,gE<|(Iw (.inl rfl) _).trans<|LY<|Ja hN<|by trivial};exact{CB h1,gE rfl};exact{s1 _<|by decide,gE rfl};exact{fZ (s1 _<|by decide) j8,gE<|r9 cs _};exact{pw<|s1 _<|by decide,gE<|Ck cs _};exact{fZ (s1 _<|by decide)<|pw<|s1 _<|by decide,QB (e:=.str "every") (by rw[mU<|.inl rfl];exact zr.mpr rfl) rfl};simp only[zg,zG,or_false]at hd;rcases hd with rfl|rfl|rfl;exact{wH S 8,DY cs 8 8 0<|zl _};exact{Jc S 3,Qy cs};exact{wH S 2008,DY cs 8 2008 0<|by decide}
theorem L3(h:S a3=some (.lst X)):∀d∈([.int 0,.int (-1),.int 1001,.bl true,.av,.str "3",.tup [.int 2],.int (10^(59:Int).toNat),.ref a3]:List D),Bd S cs ps n 2 d:=λd hd=>by simp only[zg,zG,or_false]at hd;rcases hd with rfl|rfl|rfl|rfl|rfl|rfl|rfl|rfl|rfl;exact{gt_int,by trivial};exact{gt_int,by trivial};exact{gt_int,by trivial};exact⟨DL,rfl⟩;exact⟨oh,rfl⟩;exact{ku<|by decide,rfl};exact{pw j8 0,rfl};exact{gt_int,by trivial};exact{Cs h,rfl}
theorem L4(h:∀x∈xs,∀ws,x≠.tup ws):IS cs ps (.tup xs)=false:=by
 unfold IS;split;rename_i x k e;cases e;have hx:=h x zy;have:LS cs ps x=false:=by unfold LS;split;exact absurd rfl<|hx _;rfl
 rw[this];rfl;rfl
theorem Vr(h:Paired (λk x=>Vg k x) ks xs):∀x∈xs,∀ws,x≠.tup ws:=λx hx=>by obtain⟨i,ei⟩:=yB hx;obtain⟨k,_,hv⟩:=dN h ei;exact Ng hv
theorem Ji(h8:ps.length<=8)(hp:Gp cs ps g)(h:S lg=some (.lst X)):∀d∈([Cv g.1 g.2.1,.tup [Cv g.1 g.2.1,.str "up"],.tup [.tup [.tup (g.1++[.av]),.str g.2.1],.str g.2.2],.ref lg,.str "start",.int 5,.tup [.tup [],.int 7],.tup []]:List D),Bd S cs ps n 3 d:=λd hd=>by obtain⟨q1,q2,q3,_⟩:=Jf (S:=S) h8 hp;have qs:QA S (.str g.2.2):=q3.in<|zj _<|zr.mpr rfl;have qk:QA S (.str g.2.1):=q2.in<|zj _<|zr.mpr rfl;have hl:=hp.len;simp only[zg,zG,or_false]at hd;rcases hd with rfl|rfl|rfl|rfl|rfl|rfl|rfl|rfl;refine{q2,?_,rfl};show(IS cs ps (.tup g.1)&&j7 g.2.1)=false;rw[L4<|Vr hp.pv];rfl;refine{fZ q2<|ck<|by decide,?_,rfl};show(IS cs ps (Cv g.1 g.2.1)&&j7 "up")=false;rw[show j7 "up"= false by trivial,Bool.and_false];refine{fZ (fZ (dZ (by rw[zp];show g.1.length+1<=_;lia) λv hv=>?_) qk) qs,?_,rfl};rcases zO.mp hv with hv|hv;exact q1.in hv;rw[zr.mp hv];exact CA;show(((decide ((g.1++[D.av]).length=ps.length)&&_)&&_)&&_)=false;rw[zw<|by rw[zp];show ¬g.1.length+1=_;lia];rfl;exact{CB h,rfl,rfl};exact{ck<|by decide,rfl,rfl};exact⟨j8,rfl,rfl⟩;exact{fZ (dZ (by simp) λv hv=>(nomatch hv)) j8,rfl,rfl};exact{dZ (by simp) λv hv=>(nomatch hv),rfl,rfl}
theorem a41:PySem.Txt.mul "a" 41 ="aaaaaaaaaaaaaaaaaaaaaaaaaaaaaaaaaaaaaaaaa":=by trivial
theorem Z1:MulOk "a" 41:={by decide,by decide,by trivial}
noncomputable def AA(g:Cw)(x:D):D:=.tup [Cv (x::g.1.drop 1) g.2.1,.str g.2.2]
theorem CD(h8:(p::ps).length<=8)(hp:Gp cs (p::ps) g)(hx:QA S x)(hv:cF (nj cs p.1) x=false):Bd S cs (p::ps) n 3 (AA g x):=by obtain⟨q1,q2,q3,_⟩:=Jf (S:=S) h8 hp;have qs:QA S (.str g.2.2):=q3.in<|zj _<|zr.mpr rfl;have qk:QA S (.str g.2.1):=q2.in<|zj _<|zr.mpr rfl;have hl:=hp.len;refine{fZ (fZ (dZ (by rw[zD,yK];lia) λv hv=>?_) qk) qs,?_,rfl};rcases zg.mp hv with rfl|hv;exact hx;exact q1.in<|List.mem_of_mem_drop hv;show(((_&&(id (cF (nj cs p.1) x)&&_))&&_)&&_)=false;rw[show id (cF (nj cs p.1) x)=false from hv,zW,Bool.and_false];rfl
theorem QD(hn:n<=1000)(h:S a4=some (.lst X)):∀d∈([.int ((n:Nat)+1),.int (-1),.bl true,.bl false,.str "0",.tup [.int 0],.int (10^(50:Int).toNat),.ref a4,.tup []]:List D),Bd S cs ps n 4 d:=λd hd=>by
 have no:∀i:Int,¬(0<=i/\i<=((n:Nat):Int))->oa n (.int i)=none:=λi h=>if_neg h;simp only[zg,zG,or_false]at hd;rcases hd with rfl|rfl|rfl|rfl|rfl|rfl|rfl|rfl|rfl;exact{gt_int,no _<|by lia};exact{gt_int,no _<|by lia};exact⟨DL,rfl⟩;exact⟨DL,rfl⟩;exact{ku<|by decide,rfl};exact{pw j8 0,rfl};refine{gt_int,no _ ?_};have:(1000:Int)<10^(50:Int).toNat:=by trivial
 lia;exact{Cs h,rfl};exact{(dZ (ws:=[]) (by simp) λv hv=>(nomatch hv)) 0,rfl}
inductive DZ (ds:List D) (S:ax) (R:KD) (Z:KX):Prop where
 |mk (h0:ds=[]) (h1:∀p,S p=none->R (.ref p) (S.set p<|.lst [iU 8,FT 3,iU 2008]))
theorem QE(T:Txt w K mg t):Ok P w base T.dX 1 DZ:=by refine T.dX.F.dQ aO ?_;obtain⟨e,q⟩;have n1:=gN;have n2:=ib;refine{_,(sc (bX (i:=0) aO.nd<|a_<|ac ds an)<|sc (nJ<|BC (Hj T.dR<|ac di an) (gn (i:=1) aO.nd)<|s1<|bX (i:=0) aO.nd<|a_<|ac ds<|al 0 an)<|sc (bX (i:=2) aO.nd<|a_<|ac ds an)<|sc (nJ<|BC (Hj T.dR<|ac di an) (gn (i:=1) aO.nd)<|s1<|bX (i:=2) aO.nd<|a_<|ac ds<|ac (bo Ph hr.u (a_<|al 2 an) di) an)<|sc (bX (i:=3) aO.nd<|dv 0)<|sc (nJ<|BC (Hj T.dR<|ac di an) (gn (i:=1) aO.nd)<|s1<|bX (i:=3) aO.nd<|a_<|ac ds<|al 3 an)<|s1<|sr<|bV<|al 0<|al 2<|al 3 an),?_};refine{n1,λaq S'=>∃o1:Option D,aq=[some<|iU 8,o1,none,none]/\S'=S,?_,?_};refine{8,rfl,by decide,by decide,?_};refine{λi aq S'=>∃o1:Option D,aq=[some<|iU i,o1,none,none]/\S'=S,!⟨rfl⟩,λ_ _ _ _=>trivial,?_,?_};rintro i y aq S' hy ⟨o1,rfl,rfl⟩;exact !{n2,_,rfl,rfl};rintro aq S' ⟨o1,rfl,rfl⟩;exact fo !⟨rfl⟩;rintro aq S' ⟨o1,rfl,rfl⟩;refine{n1,λaq S2=>∃o1:Option D,aq=[some<|iU 8,o1,some<|FT 3,none]/\S2=S',?_,?_};refine{3,rfl,by decide,by decide,?_};refine{λi aq S2=>∃o1:Option D,aq=[some<|iU 8,o1,some<|FT i,none]/\S2=S',!⟨rfl⟩,λ_ _ _ _=>trivial,?_,?_};rintro i y aq S2 hy ⟨o1,rfl,rfl⟩;exact !{n1,_,_,rfl,rfl,by decide,by decide,n2,_,rfl,rfl};rintro aq S2 ⟨o1,rfl,rfl⟩;exact fo !⟨rfl⟩;rintro aq S2 ⟨o1,rfl,rfl⟩;refine !{λaq S3=>∃o1:Option D,aq=[some<|iU 8,o1,some<|FT 3,some<|iU 2008]/\S3=S2,?_,?_};refine{2000,rfl,by decide,by decide,?_};refine{λi aq S3=>∃o1:Option D,aq=[some<|iU 8,o1,some<|FT 3,some<|iU<|8+i]/\S3=S2,!⟨rfl⟩,λ_ _ _ _=>trivial,?_,?_};rintro i y aq S3 hy ⟨o1,rfl,rfl⟩;exact !{n2,_,rfl,rfl};rintro aq S3 ⟨o1,e,rfl⟩;rw[show({eI 0 (2000:Int).toNat,λ_=>True}:sY).xs.length=2000 from cH]at e;subst e;exact fo !⟨rfl⟩;rintro aq S3 ⟨o1,rfl,rfl⟩;exact !!!{rK,λp hp=>fo<|q p hp}
theorem FD(hA:S.set p c=SA)(hp:S p=none)(hB:SA.set q e=SB)(hq:SA q=none):Sub S SB/\SB p=some c/\SB q=some e:=by subst hA hB;exact{(Sub.new hp).trans<|.new hq,(Sub.new hq) _ _ aa,aa}
theorem Jj(h:j<=l.length):cW l (some ((j:Nat):Int)) none=l.drop j:=by unfold cW;rw[HT.sIx_nat,Nat.min_eq_left h,show HT.sIx l.length l.length none=l.length from rfl,List.take_of_length_le<|by rw[yK];lia]
theorem QF{pe:Addr}{S S':ax}{a b:D}{c:Bool}{R:KD}(h:S' pe=some (.lst [a,b]))(sb:Sub S S')(q:R (if c=true then b else a) S):Tv pe (if c=true then 1 else 0) S' λd S''=>Fo S'' (R d):=by cases c with|true=>exact{_,_,h,rfl,S,sb,q}|false=>exact{_,_,h,rfl,S,sb,q}
theorem Jl(hN:∀c∈cs,c.1∈uG)(ho:Og cs ps wy):∀d∈ps.map p3,Ly S 60 d:=λd hd=>by obtain⟨p,hp,rfl⟩:=ze.mp hd;obtain⟨c,hc,ec⟩:=ho.pin p hp;have hb:=ho.ok;unfold Il at hb;simp only[zR,yk]at hb;have hb:=hb.2.1 p hp;unfold y8 eZ tL at hb;simp only[zR,Bool.or_eq_true,yo]at hb;refine(Ly.tup (n:=0) λx hx=>?_).le (by decide);simp only[zg,zG,or_false]at hx;rcases hx with rfl|rfl|rfl;exact .str (by rw[<-ec];exact(H_ _<|hN c hc).2);rcases hb.2.1 with q|q<;>rw[q]<;>exact .str (by trivial);rcases hb.2.2 with q|q<;>rw[q]<;>exact .str (by trivial)
inductive D0 (ds:List D) (S:ax) (R:KD) (Z:KX):Prop where
 |mk (cs:List<|Str×Str) (ps:List Part) (wy:Str) (g:Cw) (m:Int) (n:Nat) (lr:Addr) (k:Nat) (x:Int) (h0:ds=[.tup<|cs.map aC,.ref lr,.int (k:Nat),.int x,.int (n:Nat)]) (h1:S lr=some (.lst [bO ps wy,ev,.int 2,dq g,.int m])) (h2:Cg cs) (h3:Og cs ps wy) (h4:Gp cs ps g) (h5:n<=1000) (h6:k<5) (h7:∀d S',Sub S S'->Bd S' cs ps n k d->R d S')
theorem QG(T:Txt w K mg t):Ok P w base T.HU 2 D0:=by
 refine T.HU.F.dQ bz ?_;obtain⟨cs,ps,wy,g,m,n,lr,k,x,e,nh,Nq,ho,ou,hn,hk,q⟩;have h8:=ho.len;have hgl:=ou.len;have n0:=pN;have n1:=gN;have n2:=ib;have n3:=rK;have sx:=Sub.refl S;refine{_,(sc (sa (dv 1)<|gtl (n:=5)<|gc (gn (i:=5) bz.nd)<|gc (gn (i:=6) bz.nd)<|gc (gn (i:=7) bz.nd)<|gc (gn (i:=8) bz.nd)<|gc (gn (i:=9) bz.nd) g0)<|sc (bX (i:=10) bz.nd<|bV<|ac dn<|ac (a_ an)<|ac (a_<|ac (ix hr.u (dv 5) di)<|ac ds an)<|ac (a_<|ac (bo G9 hr.u (ix hr.u (dv 5) di)<|a_<|ac (a_<|ac ds<|ac ds<|ac ds an) an)<|ac (ix hr.u (dv 5) di) an)<|ac (ct By T.BO u7<|al 5 an)<|ac di an)<|sc (bX (i:=11) bz.nd<|bV<|ac dn<|ac (a_ an)<|ac (a_<|ac ds an)<|ac (a_<|ac ds<|ac ds<|ac di an)<|ac (bV<|ac ds an)<|ac ds<|ac (a_<|ac ds<|ac di an)<|ac (a_<|ac ds an)<|ac (a_<|ac ds<|ac (a_<|ac ds an) an) an)<|sc (bX (i:=12) bz.nd<|bV<|ac di<|ac (EF di)<|ac di<|ac db<|ac dn<|ac ds<|ac (a_<|ac di an)<|ac (bo js hr.u di di)<|ac (bV<|ac di an) an)<|sc (bX (i:=13) bz.nd<|bV<|ac (ix hr.u (dv 8) di)<|ac (a_<|ac (ix hr.u (dv 8) di)<|ac ds an)<|ac (a_<|ac (a_<|ac (bo G9 hr.u (ix hr.u (ix hr.u (dv 8) di) di)<|a_<|ac dn an)<|ac (ix hr.u (ix hr.u (dv 8) di) di) an)<|ac (ix hr.u (dv 8) di) an)<|ac (ct By T.BO u7<|al 8 an)<|ac ds<|ac di<|ac (a_<|ac (a_ an)<|ac di an)<|ac (a_ an) an)<|sc (nJ<|bX (i:=11) bz.nd<|bo ba hr.u (dv 11)<|cf0 ((QE T).mono<|by decide) hr T.dX.m T.dX.k T.dX.b d0)<|sc (nJ<|si (bH jv hr.u (ix hr.u (dv 5) di)<|a_ an) (sc (bX (i:=14) bz.nd<|slw (ix hr.u (ix hr.u (dv 8) di) di) (o1 di) o0)<|sc (bX (i:=15) bz.nd<|BD<|ix hr.u (bV<|ac ds<|ac di an)<|ct MI T.HM A7<|ac (cm bP hr.u (ix hr.u (ct BE T.BP u9<|al 0 an)<|ix hr.u (ix hr.u (ix hr.u (dv 5) di) di) di) ds) an)<|s1<|bX (i:=13) bz.nd<|bo ba hr.u (dv 13)<|vp (N:=["_law_one","_law_gap_here","_law_values"]) (src:=[none,some 8,some 14]) (lU (ae Ls) ["_law_columns_here","_law_asked","_law_k","_law_x","_law_past","_law_order_here","_law_sieve","_law_size","_law_gap_here","_law_moment","_law_orders","_law_sieves","_law_sizes","_law_gaps","_law_values","_law_other","_law_moments","_law_some"] rfl rfl<|by trivial) (K1<|a_<|al 15<|ac db<|ac (bo qS hr.u ds di) an) (qY<|show(["_law_one","_law_gap_here","_law_values"]:List Str).Nodup by trivial) (aW rfl) aX (λ_ _ _ _ _=>ur) λ_ _ _ _ _=>(a_<|ac (a_<|ac (bo G9 hr.u (a_<|al 0 an)<|dv 2)<|ac (ix hr.u (ix hr.u (dv 1) di) di) an)<|ac (ix hr.u (dv 1) di) an)) s0)<|sc (bX (i:=16) bz.nd<|bV<|ac (bo ba hr.u (dv 4) di)<|ac (EF di)<|ac db<|ac db<|ac ds<|ac (a_<|ac di an)<|ac (bo js hr.u di di)<|ac (bV<|al 4 an)<|ac (a_ an) an)<|sc (bX (i:=17) bz.nd<|BD<|ix hr.u (bV<|al 10<|al 11<|al 12<|al 13<|al 16 an)<|dv 2)<|s1<|sr<|ix hr.u (dv 17)<|bo cn hr.u (dv 3)<|cb bj T.aZ aM<|al 17 an),?_};refine !{lr,_,rfl,nh,rfl,_,_,rfl,_,_,rfl,_,_,rfl,_,_,rfl,_,_,rfl,rfl,?_};refine{n0,_,rfl,_,rfl,n2,_,rfl,_,rfl,n3,n1,sm<|by rw[zc];show ps.length+1<=1000;lia,_,rfl,_,rfl,n2,_,rfl,_,_,rfl,.inr rfl,λlo Xp=>{Zm,λl1 Nj=>?_}};generalize hA:S.set lo _=SA at Nj⊢;generalize hB:SA.set l1 _=S1;obtain⟨tq,ox,m7⟩:=FD hA Xp hB Nj;have nh:=tq _ _ nh;have sx:=sx.trans tq;clear tq hA hB Xp Nj;refine{n0,n1,n3,n1,λa1 Pr=>{n2,n1,n1,n2,PR,λl2 Gz=>?_}};generalize hA:S1.set a1 _=SA at Gz⊢;generalize hB:SA.set l2 _=S2;obtain⟨tq,sE,Jm⟩:=FD hA Pr hB Gz;have nh:=tq _ _ nh;have ox:=tq _ _ ox;have m7:=tq _ _ m7;have sx:=sx.trans tq;clear tq hA hB Pr Gz;refine !{n1,{by decide,by decide,by decide},n1,λa3 ha3=>{PR,λl3 OF=>?_}};generalize hA:S2.set a3 _=SA at OF⊢;generalize hB:SA.set l3 _=S3;obtain⟨tq,wK,tQ⟩:=FD hA ha3 hB OF;have nh:=tq _ _ nh;have ox:=tq _ _ ox;have m7:=tq _ _ m7;have sE:=tq _ _ sE;have Jm:=tq _ _ Jm;have sx:=sx.trans tq;clear tq hA hB ha3 OF;refine !!!!{n2,_,rfl,_,rfl,_,rfl,n1,sm<|show g.1.length+1<=1000 by lia,_,rfl,_,rfl,_,rfl,n2,_,rfl,_,rfl,n2,_,rfl,_,_,rfl,.inr rfl,λlg hlg=>{n0,n2,n0,BZ,λl4 Z2=>?_}};generalize hA:S3.set lg _=SA at Z2⊢;generalize hB:SA.set l4 _=S4;obtain⟨tq,L5,L6⟩:=FD hA hlg hB Z2;have nh:=tq _ _ nh;have ox:=tq _ _ ox;have m7:=tq _ _ m7;have sE:=tq _ _ sE;have Jm:=tq _ _ Jm;have wK:=tq _ _ wK;have tQ:=tq _ _ tQ;have sx:=sx.trans tq;clear tq hA hB hlg Z2;refine{λaq S'=>∃pc:Addr,aq=[some<|.tup<|cs.map aC,some<|.ref lr,some<|.int (k:Nat),some<|.int x,some<|.int (n:Nat),some<|bO ps wy,some ev,some<|.int 2,some<|dq g,some<|.int m,some<|.ref l1,some<|.ref pc,some<|.ref l3,some<|.ref l4,none,none,none,none]/\Sub S4 S'/\S' pc=some (.lst<|[.av,.tup [],.tup [.str "any"],.tup [.str "is",.str "nosuch",.int 1],.ref a1,.str "every",.tup [.str "every",.int 1],.tup [.str "not"],.tup [.str "and",.tup [.str "every"]]]++[iU 8,FT 3,iU 2008]),?_,?_};exact !{rfl,λpf WA=>{_,_,(Sub.new WA) _ _ Jm,aa,M7,λpc Z3=>fo {pc,rfl,(Sub.new WA).trans<|.new Z3,aa}}};rintro aq S5 ⟨pc,rfl,s5,FE⟩;have sx:=sx.trans s5;have ox:=s5 _ _ ox;have m7:=s5 _ _ m7;have sE:=s5 _ _ sE;have wK:=s5 _ _ wK;have tQ:=s5 _ _ tQ;have L5:=s5 _ _ L5;have L6:=s5 _ _ L6;refine{λaq S'=>∃(lx:Addr) (L:List D) (wL Al:Option D),aq=[some<|.tup<|cs.map aC,some<|.ref lr,some<|.int (k:Nat),some<|.int x,some<|.int (n:Nat),some<|bO ps wy,some ev,some<|.int 2,some<|dq g,some<|.int m,some<|.ref l1,some<|.ref pc,some<|.ref l3,some<|.ref lx,wL,Al,none,none]/\Sub S5 S'/\S' lx=some (.lst L)/\0<L.length/\∀d∈L,Bd S' cs ps n 3 d,?_,?_};refine !!{n0,LZ (Jl Nq.2 ho) !⟨bD (λh=>?_) λh=>fo {l4,_,none,none,rfl,.refl _,L6,Nat.succ_pos _,Ji h8 ou L5}⟩};have h:(!(ps.map p3).isEmpty)=true:=h;cases ps with|nil=>(cases h)|cons p0 ps=>have hgl:g.1.length=ps.length+1:=hgl;obtain⟨c,hc,ec⟩:=ho.pin p0 zy;refine !!!!!⟨?_⟩;rw[show cW g.1 (some 1) none=g.1.drop 1 from Jj (j:=1) (by lia)];refine{n2,λpe UD=>?_};have ek:cs.map aC=(cs.map λc=>(c.1,D.str c.2)).map xJ:=(by rw[zB];rfl);refine !{(cs.map λc=>(c.1,D.str c.2)),by rw[ek],λpd Vn=>?_};have h1:=nK (cs.map λc=>(c.1,D.str c.2)) p0.1;rw[show(cs.map λc=>(c.1,D.str c.2)).any (λq=>decide<|q.1=p0.1)=true from List.any_eq_true.mpr {_,ze.mpr ⟨c,hc,rfl⟩,zA ec}]at h1;cases q3:bW (fe<|cs.map λc=>(c.1,D.str c.2)) (.inr p0.1) with|none=>(rw[q3]at h1;cases h1)|some d=>obtain⟨p',U6,e1,rfl⟩:=iT _ _ q3;obtain⟨c',FI,rfl⟩:=ze.mp U6;have e1:c'.1=p0.1:=e1;have Nb:nj cs p0.1=c'.2:=(by unfold nj;rw[<-e1,(oo Nq.1 FI).1];rfl);have cK:=(Nq.1.2.2 c' FI).2;refine !{.tup<|p3 p0::ps.map p3,rfl,p3 p0,wV _ _,.str p0.1,rfl,_,_,aa,q3,.inr !⟨?_⟩};refine QF (c:=decide<|c'.2=("word": Str)) ((Sub.new Vn) _ _ aa) ((Sub.new UD).trans<|.new Vn) ?_;have hv:QA S5 (if decide (c'.2=("word": Str))=true then D.int 5 else .str "x")/\cF (nj cs p0.1) (if decide (c'.2=("word": Str))=true then D.int 5 else .str "x")=false:=(by rw[Nb];rcases cK with e|e<;>rw[e];exact{ck<|by decide,by trivial};exact{j8,by trivial});generalize (if decide (c'.2=("word": Str))=true then D.int 5 else .str "x")=v at hv⊢;have vb:cF (nj cs p0.1) (.bl true)=false/\cF (nj cs p0.1) (.str<|PySem.Txt.mul "a" 41)=false:=(by rw[Nb,a41];rcases cK with e|e<;>rw[e]<;>decide +kernel);have qz:QA S5 (.str<|PySem.Txt.mul "a" 41):=(by rw[a41];exact ck<|by decide);refine !!{Z1,n3,?_};generalize PySem.Txt.mul "a" 41=z at vb qz⊢;refine{_,.inl rfl,?_};refine comp_map (AA g) trivial (by show 3<=1000;decide) (λd hd Q hQ=>?_) λpq hpq=>?_;exact !{n1,_,rfl,sm<|by rw[yK];show 1+_<=1000;lia,_,rfl,_,rfl,_,rfl,n2,_,rfl,_,rfl,n2,hQ};rw[show({[v,D.bl true,.str z],λ_=>True}:sY).xs.map (AA g)=[AA g v,AA g<|.bl true,AA g<|.str z] from rfl];refine{_,_,(Sub.new hpq) _ _ L6,aa,U5,λlx qH=>?_};generalize hA:S5.set pq _=SA at qH⊢;generalize hB:SA.set lx _=SZ;obtain⟨tz,-,hz⟩:=FD hA hpq hB qH;refine fo {lx,_,_,_,rfl,tz,hz,Nat.succ_pos _,λd hd=>?_};rcases zO.mp hd with hd|hd;exact(Ji h8 ou L5 d hd).sub tz;refine Bd.sub tz ?_;simp only[zg,zG,or_false]at hd;rcases hd with rfl|rfl|rfl;exact CD h8 ou hv.1 hv.2;exact CD h8 ou Vp vb.1;exact CD h8 ou qz vb.2
 rintro aq S6 ⟨lx,L,wL,Al,rfl,s6,qH,hL,P1⟩;have sx:=sx.trans s6;have ox:=s6 _ _ ox;have m7:=s6 _ _ m7;have sE:=s6 _ _ sE;have FE:=s6 _ _ FE;have wK:=s6 _ _ wK;have tQ:=s6 _ _ tQ;refine !!{n1,{by decide,by decide,by decide},_,rfl,n1,λa4 ha4=>{n0,PR,λl5 hl5=>?_}};generalize hA:S6.set a4 _=SA at hl5⊢;generalize hB:SA.set l5 _=S7;obtain⟨tq,Z4,Vs⟩:=FD hA ha4 hB hl5;have ox:=tq _ _ ox;have m7:=tq _ _ m7;have sE:=tq _ _ sE;have FE:=tq _ _ FE;have wK:=tq _ _ wK;have tQ:=tq _ _ tQ;have qH:=tq _ _ qH;have sx:=sx.trans tq;have P1:=λd hd=>(P1 d hd).sub tq;clear tq;refine !!!!!{Lu,λpm Rq=>!⟨?_⟩};have last:∀(l:Addr)(L:List D),S7 l=some (.lst L)->0<L.length->(∀d∈L,Bd S7 cs ps n k d)->Tv l (x%((L.length:Nat):Int)) S7 λd S'=>Fo S' (R d):=λl L hl hL hb=>by obtain⟨d,e1,e2⟩:=u_ (l:=L) (i:=x%((L.length:Nat):Int)) (yc _<|by lia)<|zY _ (by lia);exact{_,_,hl,e1,fo<|q d S7 sx<|hb d<|zI e2}
 rcases k with _|_|_|_|_|k;refine{_,_,aa,(show j9 _ 0=some _ from rfl),S7,.new Rq,?_};exact !!!!⟨.inl {_,m7,(show(0:Int)<((6:Nat):Int) by decide),last l1 _ m7 (Nat.succ_pos _)<|QC Nq.2 ho ox}⟩;refine{_,_,aa,(show j9 _ 1=some _ from rfl),S7,.new Rq,?_};exact !!!!⟨.inl {_,FE,(show(0:Int)<((12:Nat):Int) by decide),last pc _ FE (Nat.succ_pos _)<|Jh Nq.2 sE}⟩;refine{_,_,aa,(show j9 _ 2=some _ from rfl),S7,.new Rq,?_};exact !!!!⟨.inl {_,tQ,(show(0:Int)<((9:Nat):Int) by decide),last l3 _ tQ (Nat.succ_pos _)<|L3 wK}⟩;refine{_,_,aa,(show j9 _ 3=some _ from rfl),S7,.new Rq,?_};exact !!!!⟨.inl {_,qH,by lia,last lx _ qH hL P1}⟩;refine{_,_,aa,(show j9 _ 4=some _ from rfl),S7,.new Rq,?_};exact !!!!⟨.inl {_,Vs,(show(0:Int)<((9:Nat):Int) by decide),last l5 _ Vs (Nat.succ_pos _)<|QD hn Z4}⟩;lia
structure Xk(K:Frag)(t:gm)(C:Addr)(b0 b1 b2 b3 b4:Bool):Prop where
 xc:XC K C
 xa:XA K C
 m:mroIn K C (.ref t.cq)=some true
 k0:kitOne K (.ref C) (.ref t.aE)=some b0
 k1:kitOne K (.ref C) (.ref t.aF)=some b1
 k2:kitOne K (.ref C) (.ref t.aN)=some b2
 k3:kitOne K (.ref C) (.ref t.az)=some b3
 k4:kitOne K (.ref C) (.ref t.aA)=some b4
noncomputable def nmL(b0 b1 b2 b3 b4:Bool):List D:=(if b0=true then[D.str "BadOrder"] else[])++(if b1=true then[D.str "BadSieve"] else[])++(if b2=true then[D.str "BadSize"] else[])++(if b3=true then[D.str "BadPlace"] else[])++(if b4=true then[D.str "NoMoment"] else[])
noncomputable def tR(b0 b1 b2 b3 b4:Bool):List D:=if b0=true then[.str "BadOrder"] else if b1=true then[.str "BadSieve"] else if b2=true then[.str "BadSize"] else if b3=true then[.str "BadPlace"] else if b4=true then[.str "NoMoment"] else[]
theorem Am(T:Txt w K mg t):Xk K t t.aE true false false false false:={⟨T.cL⟩,T.jF,T.cN,T.k_BadOrder_BadOrder,T.k_BadOrder_BadSieve,T.k_BadOrder_BadSize,T.k_BadOrder_BadPlace,T.k_BadOrder_NoMoment}
theorem Ao(T:Txt w K mg t):Xk K t t.aF false true false false false:={⟨T.fO⟩,T.jG,T.cO,T.k_BadSieve_BadOrder,T.k_BadSieve_BadSieve,T.k_BadSieve_BadSize,T.k_BadSieve_BadPlace,T.k_BadSieve_NoMoment}
theorem L7(T:Txt w K mg t):Xk K t t.aN false false true false false:={⟨T.kj⟩,T.lH,T.dk,T.k_BadSize_BadOrder,T.k_BadSize_BadSieve,T.k_BadSize_BadSize,T.k_BadSize_BadPlace,T.k_BadSize_NoMoment}
theorem Ap(T:Txt w K mg t):Xk K t t.az false false false true false:={⟨T.cM⟩,T.jH,T.cP,T.k_BadPlace_BadOrder,T.k_BadPlace_BadSieve,T.k_BadPlace_BadSize,T.k_BadPlace_BadPlace,T.k_BadPlace_NoMoment}
theorem Ar(T:Txt w K mg t):Xk K t t.aA false false false false true:={⟨T.iG⟩,T.jI,T.cQ,T.k_NoMoment_BadOrder,T.k_NoMoment_BadSieve,T.k_NoMoment_BadSize,T.k_NoMoment_BadPlace,T.k_NoMoment_NoMoment}
inductive oy (K:Frag) (t:gm) (ds:List D) (S:ax) (R:KD) (Z:KX):Prop where
 |mk (x C:Addr) (b0 b1 b2 b3 b4:Bool) (h0:ds=[.ref x]) (h1:S x=some (.exc C)) (h2:Xk K t C b0 b1 b2 b3 b4) (h3:∀p,S p=none->R (.ref p) (S.set p<|.lst<|nmL b0 b1 b2 b3 b4))
theorem Jn(T:Txt w K mg t):Wc P w K mg base 1 (t.f 101) (t.d 101) (pH<|top 101) (oy K t):=by
 refine T.qh.F.okH rJ (by rintro ds S R Z ⟨_,_,_,_,_,_,_,e,_,_,_⟩;exact by rw[e];rfl) λeV A outer s H ds S R Z hr ⟨x,C,b0,b1,b2,b3,b4,e,he,X,q⟩=>?_;subst e;refine{_,(sc (bX (i:=1) rJ.nd<|bV an)<|sc (nJ<|si (tv<|Uh xG T.ak ai<|al 0<|ac (dg (v:=.ref t.aE) T.dI rfl λ_=>dG _) an) (s1<|se<|bm zH zL zM bq (dv 1)<|ac ds an) s0)<|sc (nJ<|si (tv<|Uh xG T.ak ai<|al 0<|ac (dg (v:=.ref t.aF) T.jE rfl λ_=>dG _) an) (s1<|se<|bm zH zL zM bq (dv 1)<|ac ds an) s0)<|sc (nJ<|si (tv<|Uh xG T.ak ai<|al 0<|ac (dg (v:=.ref t.aN) T.rq rfl λ_=>dG _) an) (s1<|se<|bm zH zL zM bq (dv 1)<|ac ds an) s0)<|sc (nJ<|si (tv<|Uh xG T.ak ai<|al 0<|ac (dg (v:=.ref t.az) T.dJ rfl λ_=>dG _) an) (s1<|se<|bm zH zL zM bq (dv 1)<|ac ds an) s0)<|sc (nJ<|si (tv<|Uh xG T.ak ai<|al 0<|ac (dg (v:=.ref t.aA) T.oO rfl λ_=>dG _) an) (s1<|se<|bm zH zL zM bq (dv 1)<|ac ds an) s0)<|s1<|sr<|dv 1),?_};refine{pN,λp hp=>?_};have len:∀(b:Bool)(z:Str),((if b=true then[D.str z] else[]):List D).length<=1:=λb z=>by cases b<;>simp
 refine{λaq S'=>aq=[some<|.ref x,some<|.ref p]/\S'=S.set p (.lst<|(if b0=true then[D.str "BadOrder"] else[])),?_,?_};refine !{x,C,_,b0,rfl,(Sub.new hp) _ _ he,X.xc,X.xa,.inl !⟨X.k0⟩,_,rfl,?_};cases b0 with|true=>refine bU !⟨{rfl,_,aa},p,_,_,rfl,rfl,aa,bg ?_,fo {rfl,?_}⟩;exact yh _;rw[b_];rfl|false=>exact bY<|fo ⟨rfl,rfl⟩
 rintro aq S' ⟨rfl,rfl⟩;refine{λaq S'=>aq=[some<|.ref x,some<|.ref p]/\S'=S.set p (.lst<|(if b0=true then[D.str "BadOrder"] else[])++(if b1=true then[D.str "BadSieve"] else[])),?_,?_};refine !{x,C,_,b1,rfl,(Sub.new hp) _ _ he,X.xc,X.xa,.inl !⟨X.k1⟩,_,rfl,?_};cases b1 with|true=>(refine bU !⟨{rfl,_,aa},p,_,_,rfl,rfl,aa,bg ?_,fo {rfl,?_}⟩;have:=len b0 "BadOrder";show((if b0=true then[D.str "BadOrder"] else[])).length<=100000;lia;rw[b_];rfl)|false=>exact bY<|fo {rfl,by rw[show(if false=true then[D.str "BadSieve"] else[])=[] from rfl,ye]}
 rintro aq S' ⟨rfl,rfl⟩;refine{λaq S'=>aq=[some<|.ref x,some<|.ref p]/\S'=S.set p (.lst<|(if b0=true then[D.str "BadOrder"] else[])++(if b1=true then[D.str "BadSieve"] else[])++(if b2=true then[D.str "BadSize"] else[])),?_,?_};refine !{x,C,_,b2,rfl,(Sub.new hp) _ _ he,X.xc,X.xa,.inl !⟨X.k2⟩,_,rfl,?_};cases b2 with|true=>(refine bU !⟨{rfl,_,aa},p,_,_,rfl,rfl,aa,bg ?_,fo {rfl,?_}⟩;have:=len b0 "BadOrder";have:=len b1 "BadSieve";show((if b0=true then[D.str "BadOrder"] else[])++(if b1=true then[D.str "BadSieve"] else[])).length<=100000;rw[zp];lia;rw[b_];rfl)|false=>exact bY<|fo {rfl,by rw[show(if false=true then[D.str "BadSize"] else[])=[] from rfl,ye]}
 rintro aq S' ⟨rfl,rfl⟩;refine{λaq S'=>aq=[some<|.ref x,some<|.ref p]/\S'=S.set p (.lst<|(if b0=true then[D.str "BadOrder"] else[])++(if b1=true then[D.str "BadSieve"] else[])++(if b2=true then[D.str "BadSize"] else[])++(if b3=true then[D.str "BadPlace"] else[])),?_,?_};refine !{x,C,_,b3,rfl,(Sub.new hp) _ _ he,X.xc,X.xa,.inl !⟨X.k3⟩,_,rfl,?_};cases b3 with|true=>(refine bU !⟨{rfl,_,aa},p,_,_,rfl,rfl,aa,bg ?_,fo {rfl,?_}⟩;have:=len b0 "BadOrder";have:=len b1 "BadSieve";have:=len b2 "BadSize";show((if b0=true then[D.str "BadOrder"] else[])++(if b1=true then[D.str "BadSieve"] else[])++(if b2=true then[D.str "BadSize"] else[])).length<=100000;rw[zp,zp];lia;rw[b_];rfl)|false=>exact bY<|fo {rfl,by rw[show(if false=true then[D.str "BadPlace"] else[])=[] from rfl,ye]}
 rintro aq S' ⟨rfl,rfl⟩;refine{λaq S'=>aq=[some<|.ref x,some<|.ref p]/\S'=S.set p (.lst<|(if b0=true then[D.str "BadOrder"] else[])++(if b1=true then[D.str "BadSieve"] else[])++(if b2=true then[D.str "BadSize"] else[])++(if b3=true then[D.str "BadPlace"] else[])++(if b4=true then[D.str "NoMoment"] else[])),?_,?_};refine !{x,C,_,b4,rfl,(Sub.new hp) _ _ he,X.xc,X.xa,.inl !⟨X.k4⟩,_,rfl,?_};cases b4 with|true=>(refine bU !⟨{rfl,_,aa},p,_,_,rfl,rfl,aa,bg ?_,fo {rfl,?_}⟩;have:=len b0 "BadOrder";have:=len b1 "BadSieve";have:=len b2 "BadSize";have:=len b3 "BadPlace";show((if b0=true then[D.str "BadOrder"] else[])++(if b1=true then[D.str "BadSieve"] else[])++(if b2=true then[D.str "BadSize"] else[])++(if b3=true then[D.str "BadPlace"] else[])).length<=100000;rw[zp,zp,zp];lia;rw[b_];rfl)|false=>exact bY<|fo {rfl,by rw[show(if false=true then[D.str "NoMoment"] else[])=[] from rfl,ye]}
 rintro aq S' ⟨rfl,rfl⟩;exact{_,rfl,fo<|q p hp}
inductive As (t:gm) (ds:List D) (S:ax) (R:KD) (Z:KX):Prop where
 |mk (a la:Addr) (way:Nat) (cs:List<|Str×Str) (ps:List Part) (wy:Str) (g:Cw) (m:Int) (F:List Addr) (dl:List D) (rs:lW) (rows:List Row) (wf:Nat->Bool) (af:Nat->D) (h0:ds=[.ref a,.int (way:Nat),.ref la]) (h1:S la=some (.lst [af 0,af 1,af 2,af 3,af 4])) (h2:way<4) (h3:Gd cs) (h4:Og cs ps wy) (h5:Gp cs ps g) (h6:bR t.aj S a F cs dl rs) (h7:rs.length<64) (h8:Vw t.aj S a cs (.int m) rows) (h9:Vm rows) (h10:Tb t S) (h11:Aq S cs ps wy g m dl.length wf af)
  (h12:∀p S',Sub S S'->S' p=some (.lst<|tR (wf 0) (wf 1) (wf 2&&decide (way<2)) (wf 3)<|wf 4)->R (.ref p) S'):As t ds S R Z
theorem D1(T:Txt w K mg t)(B:Bm mg base):Ok P w base T.v5 14 (As t):=by
 have FF:Wc P w K mg base 1 (t.f 101) (t.d 101) (pH<|top 101) (oy K t):=Jn T;refine T.v5.F.dQ df ?_;obtain⟨a,la,way,cs,ps,wy,g,m,F,dl,rs,rows,wf,af,e,Z5,hw,hg,ho,ou,hS,hn,hv,hk,ht,hq,q⟩;refine{_,(sc (sa (dv 2)<|gtl (n:=5)<|gc (gn (i:=3) df.nd)<|gc (gn (i:=4) df.nd)<|gc (gn (i:=5) df.nd)<|gc (gn (i:=6) df.nd)<|gc (gn (i:=7) df.nd) g0)<|sc (bX (i:=8) df.nd<|bV an)<|sc (nJ<|YB (i:=9) df.nd T.vP ⟨T.jD⟩ (s1<|si (bH bP hr.u (dv 1) di) (s1<|se<|aY T.vJ (CC T B) hr<|al 0<|al 3<|al 4<|al 5<|al 6<|al 7 an)<|s1<|si (bH bP hr.u (dv 1) di) (s1<|se<|aY T.nR (wJ T B) hr<|al 0<|al 3<|al 4<|al 5<|al 6<|al 7 an)<|s1<|si (bH bP hr.u (dv 1) di) (s1<|se<|aY T.qd (sD T B) hr<|al 0<|al 3<|al 4<|al 6<|ac dn<|al 7 an)<|s1<|se<|aY T.qd (sD T B) hr<|al 0<|al 3<|al 4<|ac dn<|al 6<|al 7 an) λ_=>(s1<|bX (i:=8) df.nd<|cfh FF (bB.h hr<|by decide) T.qh.m T.qh.k T.qh.b<|al 9 an))<|s1<|sr<|dv 8),?_};refine !{la,_,rfl,Z5,rfl,_,_,rfl,_,_,rfl,_,_,rfl,_,_,rfl,_,_,rfl,rfl,?_};refine{pN,λp0 Zw=>?_};have s0:=Sub.new (c:=.lst []) Zw;have y_:(S.set p0<|.lst []) p0=some (.lst []):=aa;generalize S.set p0 (.lst [])=S1 at s0 y_⊢;have hS:=hS.sub s0;have hv:=hv.sub s0;have ht:=ht.sub s0;have hq:=hq.sub s0;refine{λaq S'=>∃(pf:Addr)(o9:Option D),aq=[some<|.ref a,some<|.int (way:Nat),some<|.ref la,some<|af 0,some<|af 1,some<|af 2,some<|af 3,some<|af 4,some<|.ref pf,o9]/\Sub S1 S'/\S' pf=some (.lst<|tR (wf 0) (wf 1) (wf 2&&decide (way<2)) (wf 3)<|wf 4),?_,?_};rcases way with _|_|_|_|way;exact !!⟨rS rfl !!!!!!{a,cs,ps,wy,g,m,F,dl,rs,rows,wf,af,rfl,hg,ho,ou,hS,hn,hv,hk,ht,hq,λb0=>{(Am T).m,λx hx=>!{x,_,_,_,_,_,_,rfl,aa,Am T,λp hp=>fo {p,_,rfl,(Sub.new hx).trans<|.new hp,by rw[b0];exact aa}}},λb0 b1=>{(Ao T).m,λx hx=>!{x,_,_,_,_,_,_,rfl,aa,Ao T,λp hp=>fo {p,_,rfl,(Sub.new hx).trans<|.new hp,by rw[b0,b1];exact aa}}},λb0 b1 b2=>{(L7 T).m,λx hx=>!{x,_,_,_,_,_,_,rfl,aa,L7 T,λp hp=>fo {p,_,rfl,(Sub.new hx).trans<|.new hp,by rw[b0,b1,b2];exact aa}}},λb0 b1 b2 b3=>{(Ap T).m,λx hx=>!{x,_,_,_,_,_,_,rfl,aa,Ap T,λp hp=>fo {p,_,rfl,(Sub.new hx).trans<|.new hp,by rw[b0,b1,b2,b3];exact aa}}},λb0 b1 b2 b3 b4=>{(Ar T).m,λx hx=>!{x,_,_,_,_,_,_,rfl,aa,Ar T,λp hp=>fo {p,_,rfl,(Sub.new hx).trans<|.new hp,by rw[b0,b1,b2,b3,b4];exact aa}}},λb0 b1 b2 b3 b4 v S' sb=>fo {p0,_,rfl,sb,by rw[b0,b1,b2,b3,b4];exact sb _ _ y_}}⟩;exact !!⟨fW rfl !!⟨rS rfl !!!!!!{a,cs,ps,wy,g,m,F,dl,rs,rows,wf,af,rfl,hg,ho,ou,hS,hn,hv,hk,ht,hq,λb0=>{(Am T).m,λx hx=>!{x,_,_,_,_,_,_,rfl,aa,Am T,λp hp=>fo {p,_,rfl,(Sub.new hx).trans<|.new hp,by rw[b0];exact aa}}},λb0 b1=>{(Ao T).m,λx hx=>!{x,_,_,_,_,_,_,rfl,aa,Ao T,λp hp=>fo {p,_,rfl,(Sub.new hx).trans<|.new hp,by rw[b0,b1];exact aa}}},λb0 b1 b2=>{(L7 T).m,λx hx=>!{x,_,_,_,_,_,_,rfl,aa,L7 T,λp hp=>fo {p,_,rfl,(Sub.new hx).trans<|.new hp,by rw[b0,b1,b2];exact aa}}},λb0 b1 b2 b3=>{(Ap T).m,λx hx=>!{x,_,_,_,_,_,_,rfl,aa,Ap T,λp hp=>fo {p,_,rfl,(Sub.new hx).trans<|.new hp,by rw[b0,b1,b2,b3];exact aa}}},λb0 b1 b2 b3 b4=>{(Ar T).m,λx hx=>!{x,_,_,_,_,_,_,rfl,aa,Ar T,λp hp=>fo {p,_,rfl,(Sub.new hx).trans<|.new hp,by rw[b0,b1,b2,b3,b4];exact aa}}},λb0 b1 b2 b3 b4 v S' sb=>fo {p0,_,rfl,sb,by rw[b0,b1,b2,b3,b4];exact sb _ _ y_}}⟩⟩;have n2:(wf 2&&decide (0+1+1<2))=false:=by simp
 exact !!⟨fW rfl !!⟨fW rfl !!⟨rS rfl !!!!!{true,a,cs,ps,wy,g,m,F,dl,rs,rows,wf,af,rfl,hg,ho,ou,hS,hn,hv,hk,ht,hq,λb0=>{(Am T).m,λx hx=>!{x,_,_,_,_,_,_,rfl,aa,Am T,λp hp=>fo {p,_,rfl,(Sub.new hx).trans<|.new hp,by rw[b0];exact aa}}},λb0 b1=>{(Ao T).m,λx hx=>!{x,_,_,_,_,_,_,rfl,aa,Ao T,λp hp=>fo {p,_,rfl,(Sub.new hx).trans<|.new hp,by rw[b0,b1];exact aa}}},λb0 b1 b3=>{(Ap T).m,λx hx=>!{x,_,_,_,_,_,_,rfl,aa,Ap T,λp hp=>fo {p,_,rfl,(Sub.new hx).trans<|.new hp,by rw[b0,b1,b3,n2];exact aa}}},λb0 b1 b3 b4=>{(Ar T).m,λx hx=>!{x,_,_,_,_,_,_,rfl,aa,Ar T,λp hp=>fo {p,_,rfl,(Sub.new hx).trans<|.new hp,by rw[b0,b1,b3,b4,n2];exact aa}}},λb0 b1 b3 b4 v S' sb=>fo {p0,_,rfl,sb,by rw[b0,b1,n2,b3,b4];exact sb _ _ y_}}⟩⟩⟩;have n2:(wf 2&&decide (0+1+1+1<2))=false:=by simp
 exact !!⟨fW rfl !!⟨fW rfl !!⟨fW rfl !!!!!{false,a,cs,ps,wy,g,m,F,dl,rs,rows,wf,af,rfl,hg,ho,ou,hS,hn,hv,hk,ht,hq,λb0=>{(Am T).m,λx hx=>!{x,_,_,_,_,_,_,rfl,aa,Am T,λp hp=>fo {p,_,rfl,(Sub.new hx).trans<|.new hp,by rw[b0];exact aa}}},λb0 b1=>{(Ao T).m,λx hx=>!{x,_,_,_,_,_,_,rfl,aa,Ao T,λp hp=>fo {p,_,rfl,(Sub.new hx).trans<|.new hp,by rw[b0,b1];exact aa}}},λb0 b1 b3=>{(Ap T).m,λx hx=>!{x,_,_,_,_,_,_,rfl,aa,Ap T,λp hp=>fo {p,_,rfl,(Sub.new hx).trans<|.new hp,by rw[b0,b1,b3,n2];exact aa}}},λb0 b1 b3 b4=>{(Ar T).m,λx hx=>!{x,_,_,_,_,_,_,rfl,aa,Ar T,λp hp=>fo {p,_,rfl,(Sub.new hx).trans<|.new hp,by rw[b0,b1,b3,b4,n2];exact aa}}},λb0 b1 b3 b4 v S' sb=>fo {p0,_,rfl,sb,by rw[b0,b1,n2,b3,b4];exact sb _ _ y_}}⟩⟩⟩;lia;rintro aq S' ⟨pf,o9,rfl,sb,WA⟩;exact{_,rfl,fo<|q pf S' (s0.trans sb) WA}
section
variable{t:gm}{S0:ax}{a lk lm:Addr}{cs:List (Str×Str)}{kn:Kn}{ce:Vl}{F:List Addr}{dl:List D}{rs:lW}{S:ax}
theorem Bt.ml(h:Bt t S0 a lk lm cs kn ce F dl rs S):S lm=some (.lst<|ce.map λx=>D.ref x.1):=h.st.at 1 rfl
theorem Bt.len(h:Bt t S0 a lk lm cs kn ce F dl rs S):ce.length=dl.length+1:=by have:=h.hi.1;rwa [zc]at this
theorem Bt.snap(h:Bt t S0 a lk lm cs kn ce F dl rs S)(e:ce[k]?=some x):Snap rs cs k x.2:=h.hi.2 k x.2<|by rw[zu,e];rfl
theorem Bt.at(h:Bt t S0 a lk lm cs kn ce F dl rs S)(hk:k<ce.length):∃x,ce[k]?=some x:={_,zh hk}
end
noncomputable def wd:Nat->Str|0=>"BadOrder"|1=>"BadSieve"|2=>"BadSize"|3=>"BadPlace"|_=>"NoMoment"
noncomputable def sM(wf:Nat->Bool)(n:Nat):List D:=((List.range n).filter wf).map λj=>.int ((j:Nat):Int)
theorem Jo(wf:Nat->Bool)(n:Nat):(sM wf n).length<=n:=by unfold sM;rw[zc];exact zK (List.length_filter_le _ _)<|by rw[List.length_range];exact zl _
theorem Vt(h:wf n=false):sM wf (n+1)=sM wf n:=by unfold sM;rw[List.range_succ,List.filter_append,List.filter_cons_of_neg<|by rw[h];decide,List.filter_nil,ye]
theorem QH:sM (λj=>if j=n then true else wf j) (n+1)=sM wf n++[.int ((n:Nat):Int)]:=by unfold sM;rw[List.range_succ,List.filter_append,zE];congr 1;congr 1;exact List.filter_congr λj hj=>if_neg (by have:=zT.mp hj;lia);rw[List.filter_cons_of_pos<|by simp];rfl
theorem Z6{p G:Prop}(k:p->G)(h:p):G:=k h
theorem wM(h:S la=some (.lst X))(g:Gt S d):Gt (S.set la<|.lst Y) d:=by obtain⟨⟨k,hk⟩,g2⟩:=g;refine{{k,?_},g2};cases d with|ref a=>(by_cases e:a=la;subst e;rcases hk with⟨rfl,ds,e⟩|⟨rfl,ds,e⟩;exact .inl ⟨rfl,Y,aa⟩;rw[h]at e;cases e;rcases hk with⟨rfl,ds,e1⟩|⟨rfl,ds,e1⟩;exact .inl {rfl,ds,(ag e).trans e1};exact .inr {rfl,ds,(ag e).trans e1})|_=>exact hk
theorem wN(h:S la=some (.lst X)):∀{n:Nat}{d:D},Qd S n d->Qd (S.set la<|.lst Y) n d|0,_,g=>wM h g|n+1,_,g=>{wM h g.1,λws e=>{(g.2 ws e).1,λv hv=>wN h<|(g.2 ws e).2 v hv}}
theorem QI(h:S la=some (.lst X)):∀{k:Nat}{d:D},Bd S cs ps n k d->Bd (S.set la<|.lst Y) cs ps n k d|0,_,g=>{λn=>wN h<|g.1 n,g.2}|1,_,g=>{λn=>wN h<|g.1 n,g.2}|2,_,g=>{wM h g.1,g.2}|3,_,g=>{λn=>wN h<|g.1 n,g.2}|_+4,_,g=>{wM h g.1,g.2}
theorem Aq.cell{S:ax}{la:Addr}{X Y:List D}(h:S la=some (.lst X)){cs:List<|Str×Str}{ps:List Part}{wy:Str}{g:Cw}{m:Int}{n:Nat}{wf:Nat->Bool}{af:Nat->D}(q:Aq S cs ps wy g m n wf af):Aq (S.set la<|.lst Y) cs ps wy g m n wf af:={λj e=>QI h<|q.bad j e,q.g0,q.g1,q.g2,q.g3,q.g4}
theorem Aq.put{S:ax}{cs:List<|Str×Str}{ps:List Part}{wy:Str}{g:Cw}{m:Int}{n:Nat}{wf:Nat->Bool}{af:Nat->D}(h:Aq S cs ps wy g m n wf af){k:Nat}{d:D}(hd:Bd S cs ps n k d):Aq S cs ps wy g m n (λj=>if j=k then true else wf j) λj=>if j=k then d else af j:=by refine{λj e=>?_,λe=>?_,λe=>?_,λe=>?_,λe=>?_,λe=>?_};by_cases q:j=k;subst q;rw[if_pos rfl];exact hd;rw[if_neg q]at e⊢;exact h.bad j e;by_cases q:0=k;rw[if_pos q]at e;cases e;rw[if_neg q]at e⊢;exact h.g0 e;by_cases q:1=k;rw[if_pos q]at e;cases e;rw[if_neg q]at e⊢;exact h.g1 e;by_cases q:2=k;rw[if_pos q]at e;cases e;rw[if_neg q]at e⊢;exact h.g2 e;by_cases q:3=k;rw[if_pos q]at e;cases e;rw[if_neg q]at e⊢;exact h.g3 e;by_cases q:4=k;rw[if_pos q]at e;cases e;rw[if_neg q]at e⊢;exact h.g4 e
theorem Vu(af:Nat->D)(d:D):∀i,i<5->[af 0,af 1,af 2,af 3,af 4].set i d=[if 0=i then d else af 0,if 1=i then d else af 1,if 2=i then d else af 2,if 3=i then d else af 3,if 4=i then d else af 4]/\Gq 5 ((i:Nat):Int)=some i|0,_=>⟨rfl,rfl⟩|1,_=>⟨rfl,rfl⟩|2,_=>⟨rfl,rfl⟩|3,_=>⟨rfl,rfl⟩|4,_=>⟨rfl,rfl⟩|_+5,h=>absurd h<|by lia
theorem Z7(l:List α):cW l none (some 1)=l.take 1:=by unfold cW;rw[show HT.sIx l.length l.length (some 1)=min 1 l.length from HT.sIx_nat ..,show HT.sIx l.length 0 none=0 from rfl,List.drop_zero,Nat.sub_zero];cases l<;>rfl
noncomputable def Vv:D->D|.int j=>.str (wd j.toNat)|_=>.av
theorem Nr:∀{j:Nat},j<5->j9 [D.str "BadOrder",.str "BadSieve",.str "BadSize",.str "BadPlace",.str "NoMoment"] ((j:Nat):Int)=some (.str<|wd j)|0,_=>rfl|1,_=>rfl|2,_=>rfl|3,_=>rfl|4,_=>rfl|_+5,h=>absurd h<|by lia
noncomputable def QJ(v:Bool):D->Bool|.int j=>v || !decide (j=2)|_=>false
theorem L8:∀b0 b1 b2 b3 b4 v:Bool,(([0,1,2,3,4].filter λj=>[b0,b1,b2,b3,b4].getD j false).filter λj=>v || !decide (j=2)).take 1=if b0=true then[0] else if b1=true then[1] else if (b2&&v)=true then[2] else if b3=true then[3] else if b4=true then[4] else[]:=by decide
theorem QK(wf:Nat->Bool)(v:Bool):(((sM wf 5).filter<|QJ v).map Vv).take 1=tR (wf 0) (wf 1) (wf 2&&v) (wf 3) (wf 4):=by
 have e1:(List.range 5).filter wf=[0,1,2,3,4].filter λj=>[wf 0,wf 1,wf 2,wf 3,wf 4].getD j false:=by rw[show List.range 5=[0,1,2,3,4] from rfl];refine List.filter_congr λj hj=>?_;simp only[zg,zG,or_false]at hj;rcases hj with rfl|rfl|rfl|rfl|rfl<;>rfl
 have e2:(sM wf 5).filter (QJ v)=(((List.range 5).filter wf).filter λj=>v || !decide (j=2)).map λj=>.int ((j:Nat):Int):=by unfold sM;rw[List.filter_map];congr 1;refine List.filter_congr λj _=>?_;show(v || !decide (((j:Nat):Int)=2))=(v || !decide (j=2));congr 2;exact yH.mpr<|by lia
 rw[e2,e1,<-List.map_take,<-List.map_take,L8];unfold tR;cases wf 0;cases wf 1;cases (wf 2&&v);cases wf 3;cases wf 4<;>rfl;rfl;rfl;rfl;rfl
theorem L9(b0 b1 b2 b3 b4:Bool):∀d∈tR b0 b1 b2 b3 b4,Ly S 60 d:=λd hd=>by
 have:∃z:Str,d=.str z/\PyData.strOk z=true:=by unfold tR at hd;cases b0<;>cases b1<;>cases b2<;>cases b3<;>cases b4<;>simp at hd<;>exact{_,hd,by trivial}
 obtain⟨z,rfl,h⟩:=this;exact(Ly.str h).le<|by decide
theorem Z8(ns:List Int):(cW ns (some 23)<|some 30).length<=30:=by unfold cW;rw[show HT.sIx ns.length 0 (some 23)=min 23 ns.length from HT.sIx_nat ..,show HT.sIx ns.length ns.length (some 30)=min 30 ns.length from HT.sIx_nat ..];exact zK (List.length_take_le _ _)<|by lia
inductive Jp (t:gm) (ds:List D) (S:ax) (R:KD) (Z:KX):Prop where
 |mk (ns:List Int) (h0:ds=[.jd<|ns.map D.int]) (h1:ns.length<=63) (h2:Tb t S) (h3:R (.bl true) S)
structure Alw(t:gm)(ds:List D)(S:ax)(R:KD)(Z:KX):Prop where
 of:M_ t.aj t.aA ds S R Z
theorem L_(T:Txt w K mg t)(B:Bm mg base):Ok P w base T.Zk 20 (Jp t):=by
 have sF:AE P w mg base T.cX 3 (Alw t):=(oi T).Ue λds S R Z h=>h.of;refine T.Zk.F.dQ cV ?_;obtain⟨ns,e,Pn,htb,q⟩;refine{_,(sc (bX (i:=1) cV.nd<|aY T.nZ (Ca T) hr<|ac (aY T.fC (iQ T) hr<|al 0<|ac di an) an)<|sc (bX (i:=2) cV.nd<|aY T.vW (IH T) hr<|al 1<|ac (aY T.fC (iQ T) hr<|al 0<|ac di an) an)<|sc (bX (i:=3) cV.nd<|aY T.HS (LV T) hr<|al 1<|al 2<|ac (aY T.fC (iQ T) hr<|al 0<|ac di an) an)<|sc (sa (aY T.vZ (IW T) hr<|al 1<|ac (M0 (dv 0) (o1 di)<|o1 di) an)<|gt (n:=3)<|gc (gn (i:=4) cV.nd)<|gc (gn (i:=5) cV.nd)<|gc (gn (i:=6) cV.nd) g0)<|sc (nJ<|bX (i:=7) cV.nd<|bo xx hr.u (cb bj T.aZ aM<|al 5 an) di)<|sc (bX (i:=8) cV.nd<|bV<|al 2<|ac (a_<|ac ds an)<|ac di<|al 3<|ac (bo cn hr.u (aY T.fC (iQ T) hr<|al 0<|ac di an)<|bo ba hr.u (dv 7) di) an)<|sc (bX (i:=9) cV.nd<|bV<|ac ds<|ac ds<|ac ds<|ac ds<|ac ds an)<|sc (nJ<|BC (il<|M0 (dv 0) (o1 di)<|o1 di) (gn (i:=10) cV.nd)<|sc (bX (i:=11) cV.nd<|aY T.iL (jW T) hr<|al 10<|ac di an)<|sc (bX (i:=12) cV.nd<|ct By T.BO u7<|al 8 an)<|sc (bX (i:=13) cV.nd<|bV an)<|sc (nJ<|BC (Hj T.dR<|ac di an) (gn (i:=14) cV.nd)<|s1<|si (twd<|twor (bH bP hr.u (bo cn hr.u (ix hr.u (dv 11) di) di)<|dv 14)<|tw1<|bH bP hr.u (bo cn hr.u (bo fc hr.u (ix hr.u (dv 11) di)<|BD<|ix hr.u (bV<|ac di<|ac di<|ac di<|ac di<|ac di an)<|dv 14) di) di) (sc (sls (dv 12) (dv 14)<|aY T.HU (QG T) hr<|al 1<|al 8<|al 14<|ac (ix hr.u (dv 11)<|bo ba hr.u di<|dv 14)<|al 7 an)<|s1<|se<|bm zH zL zM bq (dv 13)<|al 14 an) s0)<|s1<|BC (Hj T.dR<|ac di an) (gn (i:=15) cV.nd)<|sc (bX (i:=16) cV.nd<|M0 (vp (N:=["_law_k","_law_words","_law_way"]) (src:=[none,some 9,some 15]) (lU (ae U0) ["_law_script","_law_columns_here","_law_order_here","_law_gap_here","_law_shelf","_law_moments","_law_standing","_law_past","_law_right","_law_words","_law_cell","_law_xs","_law_asked","_law_wrong","_law_k","_law_way","_law_due"] rfl rfl<|by trivial) (il<|dv 13) (qY<|show(["_law_k","_law_words","_law_way"]:List Str).Nodup by trivial) (aW rfl) aX (λ_ _ _ _ _=>(if1<|twd<|twor (bH Bu hr.u (dv 2) di)<|tw1<|bH jv hr.u (dv 0) di)) λ_ _ _ _ _=>(ix hr.u (dv 1)<|dv 0)) o0<|o1 di)<|s1<|si (twd<|twor (bH jv hr.u (aY T.v5 (D1 T B) hr<|al 4<|al 15<|al 12 an)<|dv 16)<|tw1<|bH jv hr.u (aY T.v5 (D1 T B) hr<|al 4<|al 15<|al 8 an)<|bV an) (s1<|sr db) s0)<|s1<|sr<|qR (cm bP hr.u (nN (dv 4) T.ah T.eN (rQ T) hr)<|dv 7)<|G8<|cm bP hr.u (TU (dv 4) T.ah T.cX.e (sF.mono<|by decide) hr T.nS d1)<|aY T.vY (Aj T) hr<|al 6 an),?_};refine !{ns,0,rfl,λc0=>{c0,rfl,λcs Nq=>?_}};have hg:=Nq.1;refine !!{ns,1,rfl,λc1=>{cs,c1,rfl,hg,λps wy ho=>?_}};refine !!!{ns,2,rfl,λc2=>{cs,ps,wy,c2,rfl,hg,ho,λg ou=>?_}};refine !!!!⟨λp1 y_=>{cs,p1,cW ns (some 23)<|some 30,rfl,hg,by rw[mY];exact aa,Z8 ns,λS3 a lk lm kn ce F dl rs hb=>?_}⟩;have s2:=Sub.new (c:=.lst<|cW (ns.map D.int) (some 23)<|some 30) y_;generalize S.set p1 (.lst<|cW (ns.map D.int) (some 23)<|some 30)=S2 at s2 hb;have tb2:=htb.sub s2;have hle:=hb.le;have A5:=hb.len;have ml:(ce.map λx=>D.ref x.1).length=ce.length:=zc _;have ZX:St t S2 a [(lk,.cB<|gP kn)] F cs dl rs S3:=hb.st.less (by simp) λx hx=>by rw[zr.mp hx];exact zy
 refine !{rfl,_,_,rfl,_,_,rfl,_,_,rfl,rfl,?_};refine{λaq S'=>aq=[some<|.jd<|ns.map D.int,some<|.tup<|cs.map aC,some<|bO ps wy,some<|dq g,some<|.ref a,some<|.ref lm,some<|.ref lk,some<|.int (dl.length:Nat),none,none,none,none,none,none,none,none,none]/\S'=S3,!!⟨.inl {_,hb.ml,fo {by rw[ml,show((ce.length:Nat):Int)-1=((dl.length:Nat):Int) by lia];rfl,rfl}}⟩,?_};rintro aq S' ⟨rfl,rfl⟩;refine !{gN,_,rfl,_,rfl,ns,2,rfl,λc3=>!{by lia,?_}};obtain⟨k,ek⟩:=Int.eq_ofNat_of_zero_le<|show 0<=c3%(((dl.length:Nat):Int)+1) from yc _ (by lia);have hk:k<ce.length:=by have:=zY c3 (show(0:Int)<((dl.length:Nat):Int)+1 by lia);lia
 rw[ek];obtain⟨y,ey⟩:=hb.at hk;have sn:=hb.snap ey;have hky:Vm y.2:=sn.key;refine{Lu,λlr EN=>?_};have Rw:=ZX.new EN<|.lst [bO ps wy,ev,.int 2,dq g,.int (k:Nat)];change St t S2 a _ F cs dl rs (S'.set lr<|.lst [bO ps wy,.tup [.str "every"],.int 2,dq g,.int (k:Nat)]) at Rw;generalize S'.set lr (.lst [bO ps wy,.tup [.str "every"],.int 2,dq g,.int (k:Nat)])=S4 at Rw⊢;refine{Lu,λCF Z9=>?_};have Ga:St t S2 a ([(lk,.cB<|gP kn),(lr,.lst [bO ps wy,ev,.int 2,dq g,.int (k:Nat)]),(CF,.lst [D.str "BadOrder",.str "BadSieve",.str "BadSize",.str "BadPlace",.str "NoMoment"])]) F cs dl rs _:=Rw.new Z9<|.lst [D.str "BadOrder",.str "BadSieve",.str "BadSize",.str "BadPlace",.str "NoMoment"];generalize S4.set CF (.lst [D.str "BadOrder",.str "BadSieve",.str "BadSize",.str "BadPlace",.str "NoMoment"])=S5 at Ga⊢;have vw:∀{fs:List (Addr×Ce)}{S':ax},St t S2 a fs F cs dl rs S'->Vw t.aj S' a cs (.int (k:Nat)) y.2/\rs.length<64/\Tb t S':=λst=>{sn.vw st.sh hb.ri (by show(if 0<=((k:Nat):Int)/\((k:Nat):Int)<=((dl.length:Nat):Int) then some ((k:Nat):Int) else none)=_;rw[if_pos<|by lia]) gt_int,by have:=hb.ri.len st.sh;lia,tb2.sub st.FR.sub};have right:∀S',Aq S' cs ps wy g ((k:Nat):Int) dl.length (λ_=>false) λj=>if j=0 then bO ps wy else if j=1 then ev else if j=2 then .int 2 else if j=3 then dq g else .int (k:Nat):=λS'=>{λj z=>(nomatch z),λ_=>rfl,λ_=>rfl,λ_=>rfl,λ_=>rfl,λ_=>rfl};refine{λaq S'=>∃Ry Rz RA RB wL Al D2:Option D,aq=[some<|.jd<|ns.map D.int,some<|.tup<|cs.map aC,some<|bO ps wy,some<|dq g,some<|.ref a,some<|.ref lm,some<|.ref lk,some<|.int (dl.length:Nat),some<|.ref lr,some<|.ref CF,Ry,Rz,RA,RB,wL,Al,D2]/\St t S2 a ([(lk,.cB<|gP kn),(lr,.lst [bO ps wy,ev,.int 2,dq g,.int (k:Nat)]),(CF,.lst [D.str "BadOrder",.str "BadSieve",.str "BadSize",.str "BadPlace",.str "NoMoment"])]) F cs dl rs S',?_,?_};{refine !!!⟨λp2 lT=>{_,aa,?_}⟩;rw[mY];generalize cW ns (some 3) (some 23)=ls;have Rx:St t S2 a ([(lk,.cB<|gP kn),(lr,.lst [bO ps wy,ev,.int 2,dq g,.int (k:Nat)]),(CF,.lst [D.str "BadOrder",.str "BadSieve",.str "BadSize",.str "BadPlace",.str "NoMoment"])]++[(p2,.lst<|ls.map D.int)]) F cs dl rs _:=Ga.new lT<|.lst<|ls.map D.int;generalize S5.set p2 (.lst<|ls.map D.int)=S9 at Rx⊢;refine{λi aq S'=>∃Ry Rz RA RB wL Al D2:Option D,aq=[some<|.jd<|ns.map D.int,some<|.tup<|cs.map aC,some<|bO ps wy,some<|dq g,some<|.ref a,some<|.ref lm,some<|.ref lk,some<|.int (dl.length:Nat),some<|.ref lr,some<|.ref CF,Ry,Rz,RA,RB,wL,Al,D2]/\St t S2 a ([(lk,.cB<|gP kn),(lr,.lst [bO ps wy,ev,.int 2,dq g,.int (k:Nat)]),(CF,.lst [D.str "BadOrder",.str "BadSieve",.str "BadSize",.str "BadPlace",.str "NoMoment"])]++[(p2,.lst<|ls.map D.int)]) F cs dl rs S',{_,_,_,_,_,_,_,rfl,Rx},by rintro i aq S' ⟨_,_,_,_,_,_,_,_,st⟩;exact st.at 3 rfl,?_,?_};{rintro i x aq SA hx ⟨Ry,Rz,RA,RB,wL,Al,D2,rfl,IY⟩;have hx:(ls.map D.int)[i]?=some x:=hx;obtain⟨c,_,rfl⟩:=ze.mp<|zI hx;refine !{c,8,rfl,by decide,λxs lx Na hx qH=>?_};have Nn:=IY.new qH<|.lst<|xs.map D.int;generalize SA.set lx (.lst<|xs.map D.int)=SB at Nn⊢;have at_:∀j:Nat,j<8->∃x:Int,j9 (xs.map D.int) ((j:Nat):Int)=some (.int x)/\0<=x:=λj hj=>mS (by lia) (by rw[zc];lia) hx;obtain⟨x0,e0,_⟩:=at_ 0 (by decide);obtain⟨x1,e1,_⟩:=at_ 1 (by decide);refine !{_,_,rfl,.inl<|Nn.at 1 rfl,λla Z5=>?_};have st9:=Nn.new Z5<|.lst [bO ps wy,ev,.int 2,dq g,.int (k:Nat)];generalize SB.set la (.lst [bO ps wy,ev,.int 2,dq g,.int (k:Nat)])=SC at st9⊢;refine{pN,λlw hlw=>?_};have stA:=st9.new hlw<|.lst [];generalize SC.set lw (.lst [])=SD at stA⊢;refine{λaq S'=>∃(wf:Nat->Bool) (af:Nat->D) (wL:Option D),aq=[some<|.jd<|ns.map D.int,some<|.tup<|cs.map aC,some<|bO ps wy,some<|dq g,some<|.ref a,some<|.ref lm,some<|.ref lk,some<|.int (dl.length:Nat),some<|.ref lr,some<|.ref CF,some<|.int c,some<|.ref lx,some<|.ref la,some<|.ref lw,wL,Al,D2]/\St t S2 a ([(lk,.cB<|gP kn),(lr,.lst [bO ps wy,ev,.int 2,dq g,.int (k:Nat)]),(CF,.lst [D.str "BadOrder",.str "BadSieve",.str "BadSize",.str "BadPlace",.str "NoMoment"])]++[(p2,.lst<|ls.map D.int)]++[(lx,.lst<|xs.map D.int)]++[(la,.lst [af 0,af 1,af 2,af 3,af 4])]++[(lw,.lst<|sM wf 5)]) F cs dl rs S'/\Aq S' cs ps wy g ((k:Nat):Int) dl.length wf af,?_,?_};{refine{5,rfl,by decide,by decide,?_};refine{λi aq S'=>∃(wf:Nat->Bool) (af:Nat->D) (wL:Option D),aq=[some<|.jd<|ns.map D.int,some<|.tup<|cs.map aC,some<|bO ps wy,some<|dq g,some<|.ref a,some<|.ref lm,some<|.ref lk,some<|.int (dl.length:Nat),some<|.ref lr,some<|.ref CF,some<|.int c,some<|.ref lx,some<|.ref la,some<|.ref lw,wL,Al,D2]/\St t S2 a ([(lk,.cB<|gP kn),(lr,.lst [bO ps wy,ev,.int 2,dq g,.int (k:Nat)]),(CF,.lst [D.str "BadOrder",.str "BadSieve",.str "BadSize",.str "BadPlace",.str "NoMoment"])]++[(p2,.lst<|ls.map D.int)]++[(lx,.lst<|xs.map D.int)]++[(la,.lst [af 0,af 1,af 2,af 3,af 4])]++[(lw,.lst<|sM wf i)]) F cs dl rs S'/\Aq S' cs ps wy g ((k:Nat):Int) dl.length wf af/\∀j,i<=j->wf j=false,?_,λ_ _ _ _=>trivial,?_,?_};exact{_,_,_,rfl,stA,right _,λ_ _=>rfl};{rintro i x aq SE hy ⟨wf,af,wL,rfl,Ma,hq,hw⟩;have hy:(eI 0 (5:Int).toNat)[i]?=some x:=hy;obtain⟨hi,rfl⟩:=cI hy;have hi:i<5:=hi;have hX:=Ma.at 4 rfl;obtain⟨xj,ej,_⟩:=at_ (2+i) (by lia);rw[Int.zero_add];have next:∀{S'},Sub SE S'->∃(wf:Nat->Bool) (af:Nat->D) (wL:Option D),[some<|.jd<|ns.map D.int,some<|.tup<|cs.map aC,some<|bO ps wy,some<|dq g,some<|.ref a,some<|.ref lm,some<|.ref lk,some<|.int (dl.length:Nat),some<|.ref lr,some<|.ref CF,some<|.int c,some<|.ref lx,some<|.ref la,some<|.ref lw,some<|.int ((i:Nat):Int),Al,D2]=[some<|.jd<|ns.map D.int,some<|.tup<|cs.map aC,some<|bO ps wy,some<|dq g,some<|.ref a,some<|.ref lm,some<|.ref lk,some<|.int (dl.length:Nat),some<|.ref lr,some<|.ref CF,some<|.int c,some<|.ref lx,some<|.ref la,some<|.ref lw,wL,Al,D2]/\St t S2 a ([(lk,.cB<|gP kn),(lr,.lst [bO ps wy,ev,.int 2,dq g,.int (k:Nat)]),(CF,.lst [D.str "BadOrder",.str "BadSieve",.str "BadSize",.str "BadPlace",.str "NoMoment"])]++[(p2,.lst<|ls.map D.int)]++[(lx,.lst<|xs.map D.int)]++[(la,.lst [af 0,af 1,af 2,af 3,af 4])]++[(lw,.lst<|sM wf<|i+1)]) F cs dl rs S'/\Aq S' cs ps wy g ((k:Nat):Int) dl.length wf af/\∀j,i+1<=j->wf j=false:=λsb=>{wf,af,_,rfl,by rw[Vt<|hw i<|zl _];exact Ma.sub sb,hq.sub sb,λj hj=>hw j<|by lia};have cb:∀d∈[D.int 1,.int 3,.int 9,.int 27,.int 81],∃m:Int,d=.int m/\GJ x1 m:=λd hd=>(by simp only[zg,zG,or_false]at hd;rcases hd with h|h|h|h|h;exact{1,h,by decide,by trivial};exact{3,h,by decide,by trivial};exact{9,h,by decide,by trivial};exact{27,h,by decide,by trivial};exact{81,h,by decide,by trivial});refine' Z6 (λbody=>?_) ?_;rotate_left;{refine !{_,_,hX,e0,by decide,_,rfl,_,rfl,bD (λ_=>body) λ_=>?_};refine !{_,_,hX,e1,Lu,λpz Z_=>!⟨dF (by lia) (by show((i:Nat):Int)<5;lia) Z_ λd hd=>?_⟩};obtain⟨m,rfl,hm⟩:=cb d hd;exact{hm,by decide,_,rfl,bD (λ_=>body) λ_=>next (.refl _)}};refine !!!!!{_,_,hX,by rw[show(2:Int)+((i:Nat):Int)=((2+i:Nat):Int) by lia];exact ej,_,rfl,cs,ps,wy,g,((k:Nat):Int),dl.length,lr,i,xj,rfl,Ma.at 1 rfl,Nq,ho,ou,by lia,hi,λd SF sb hbd=>?_};have stC:=Ma.sub sb;have hLa:=stC.at 5 rfl;refine !!{la,_,_,i,rfl,rfl,hLa,(Vu af d i hi).2,?_};rw[(Vu af d i hi).1];have QL:=stC.put 5 rfl<|.lst [if 0=i then d else af 0,if 1=i then d else af 1,if 2=i then d else af 2,if 3=i then d else af 3,if 4=i then d else af 4];have hLw:=QL.at 6 rfl;refine{_,rfl,{rfl,_,hLw},_,rfl,lw,_,_,rfl,rfl,hLw,bg<|zK (Jo wf i)<|by lia,?_};refine{λj=>if j=i then true else wf j,λj=>if j=i then d else af j,_,rfl,?_,Aq.cell hLw<|Aq.cell hLa<|(hq.sub sb).put hbd,λj hj=>?_};rw[QH];exact QL.put 6 rfl<|.lst<|sM wf i++[.int ((i:Nat):Int)];show(if j=i then true else wf j)=false;rw[if_neg<|by lia];exact hw j<|by lia};rintro aq S' ⟨wf,af,wL,rfl,Ma,hq,_⟩;exact fo {wf,af,_,rfl,Ma,hq}};rintro aq SE ⟨wf,af,wL,rfl,Ma,hq⟩;refine{4,rfl,by decide,by decide,?_};refine{λi aq S'=>∃Al D2:Option D,aq=[some<|.jd<|ns.map D.int,some<|.tup<|cs.map aC,some<|bO ps wy,some<|dq g,some<|.ref a,some<|.ref lm,some<|.ref lk,some<|.int (dl.length:Nat),some<|.ref lr,some<|.ref CF,some<|.int c,some<|.ref lx,some<|.ref la,some<|.ref lw,wL,Al,D2]/\Sub SE S',{_,_,rfl,.refl _},λ_ _ _ _=>trivial,?_,?_};rintro i x aq SF hy ⟨Al,D2,rfl,sb⟩;have hy:(eI 0 (4:Int).toNat)[i]?=some x:=hy;obtain⟨hi,rfl⟩:=cI hy;have hi:i<4:=hi;rw[Int.zero_add];have stC:=Ma.sub sb;refine !{_,stC.at 6 rfl,?_};refine km (QJ<|decide<|i<2) Vv (stC.at 6 rfl) (by show(sM wf 5).length<=_;exact zK (Jo wf 5)<|by decide) (λd hd Q Q' hQ JE=>?_) λpc Z3=>?_;obtain⟨j,hj,rfl⟩:=ze.mp hd;have hj:=zT.mp (List.mem_filter.mp hj).1;refine !!⟨bD (λh=>?_) λh=>?_⟩;have h:((i:Nat):Int)<2:=zo h;exact bU !!{_,_,stC.at 2 rfl,Nr hj,hQ<|by show(decide (i<2)||_)=true;rw[zA<|by lia];rfl};have h:¬((i:Nat):Int)<2:=zN h;have e:QJ (decide<|i<2) (.int ((j:Nat):Int))=!decide (((j:Nat):Int)=2):=(by show(decide (i<2)||_)=_;rw[zw<|by lia];rfl);rw[e]at hQ JE;exact !!⟨bD (λh2=>!!{_,_,stC.at 2 rfl,Nr hj,hQ h2}) λh2=>JE h2⟩;rw[show({sM wf 5,λS=>vk S (.ref lw)<|sM wf 5}:sY).xs=sM wf 5 from rfl];refine !{_,aa,λpz Z_=>?_};rw[Z7,QK];have tz:=(Sub.new (c:=.lst<|((sM wf 5).filter<|QJ<|decide<|i<2).map Vv) Z3).trans<|Sub.new (c:=.lst<|tR (wf 0) (wf 1) (wf 2&&decide (i<2)) (wf 3)<|wf 4) Z_;have hz:((SF.set pc<|.lst<|((sM wf 5).filter<|QJ<|decide<|i<2).map Vv).set pz<|.lst<|tR (wf 0) (wf 1) (wf 2&&decide (i<2)) (wf 3)<|wf 4) pz=some (.lst<|tR (wf 0) (wf 1) (wf 2&&decide (i<2)) (wf 3)<|wf 4):=aa;generalize (SF.set pc<|.lst<|((sM wf 5).filter<|QJ<|decide<|i<2).map Vv).set pz (.lst<|tR (wf 0) (wf 1) (wf 2&&decide (i<2)) (wf 3)<|wf 4)=SG at tz hz⊢;have QL:=stC.sub tz;obtain⟨v1,v2,v3⟩:=vw QL;refine !!!{a,la,i,cs,ps,wy,g,((k:Nat):Int),F,dl,rs,y.2,wf,af,rfl,QL.at 5 rfl,hi,hg,ho,ou,QL.sh,v2,v1,hky,v3,hq.sub<|sb.trans tz,λp SH C5 hp=>!⟨rX hp (C5 _ _ hz) (L9 _ _ _ _ _) !⟨bY ?_⟩⟩};have stE:=QL.sub C5;obtain⟨v1,v2,v3⟩:=vw stE;exact !!!{a,lr,i,cs,ps,wy,g,((k:Nat):Int),F,dl,rs,y.2,_,_,rfl,stE.at 1 rfl,hi,hg,ho,ou,stE.sh,v2,v1,hky,v3,right _,λp SI Qo hp=>{pN,λpz2 Vx=>rX (ds:=[]) ((Sub.new Vx) _ _ hp) aa (λd hd=>(nomatch hd)) !⟨bY {_,_,rfl,(((sb.trans tz).trans C5).trans Qo).trans<|.new Vx}⟩}};rintro aq S' ⟨Al,D2,rfl,sb⟩;have st:=Ma.sub sb;exact{_,_,_,_,_,_,_,rfl,st.less (st.nd.sublist<|((List.sublist_append_left _ _).trans<|(List.sublist_append_left _ _).trans<|List.sublist_append_left _ _).map _) λx hx=>zU _<|zU _<|zU _ hx}};rintro aq S' ⟨Ry,Rz,RA,RB,wL,Al,D2,rfl,st⟩;exact fo {_,_,_,_,_,_,_,rfl,st.less (st.nd.sublist<|(List.sublist_append_left _ _).map _) λx hx=>zU _ hx}};rintro aq S9 ⟨Ry,Rz,RA,RB,wL,Al,D2,rfl,IY⟩;obtain⟨ld,lr',ra,hhh,_,_⟩:=id IY.sh;have hrl:=hb.ri.len IY.sh;refine !{a,_,rfl,hhh.ins,rfl,a,F,cs,dl,rs,rfl,IY.sh,_,rfl,_,rfl,rS (zA rfl) ?_};refine !{a,_,rfl,hhh.ins,rfl,{a,F,cs,dl,rs,.av,rfl,IY.sh,by lia,oh,λi ss hi hp hs p6 hp6=>?_,λh=>by cases h}};cases hi;have sb8:=Sub.new (c:=.lst<|eQ rs ((dl.length:Nat):Int) ss) hp6;have hp8:(S9.set p6<|.lst<|eQ rs ((dl.length:Nat):Int) ss) p6=some (.lst<|eQ rs ((dl.length:Nat):Int) ss):=aa;generalize S9.set p6 (.lst<|eQ rs ((dl.length:Nat):Int) ss)=SA at sb8 hp8⊢;have Nn:=IY.sub sb8;refine !{cs,lk,kn,rfl,Nn.at 0 rfl,hb.ki,λs2' p9 lT uQ hp9=>?_};rw[IK hb.ri hb.st.sh hb.ki hp hs lT uQ,<-kz lT]at hp8;refine rX ((Sub.new hp9) _ _ hp8) aa ?_ {S,s2.trans<|(Nn.sub<|.new hp9).FR.sub,q};rw[kz lT];exact Qt hb.ki lT
def Jq(t:gm)(K:Frag):Sp:=λvs H Q _=>qW K (Jp t) vs H Q E0
theorem QM(T:Txt w K mg t)(B:Bm mg base):bK P w K mg base VW 20 t.M4 t.HJ ["_law_script"] (Jq t K):=bK.calm<|L_ T B
theorem Jr{w:World}{K:Frag}{mg:Str->Option Value}{t:gm}(T:Txt w K mg t){H:Hp}{a:Addr}{ns:List Int}(hl:ns.length<=63)(hO:xS t.ts H)(hS:ji K H a<|ns.map V.int):Jq t K [.ref a] H (λv _=>v=.bl true) λ_ _ _=>False:=by
 have hR:MB K H a (ns.map V.int):=by rcases hS with (h|h)|h;rcases hO.all a with q|⟨o,xs,q⟩|⟨_,q⟩;rw[q]at h;cases h;rw[q]at h;cases h;rw[q]at h;cases h;exact .inl h;exact .inr h
 have PY:t.aL≠t.aR:=λe=>by have:=T.np;rw[e]at this;simp at this
 have tok:∀q,C9 H q #[]:=λq=>{trivial,λ_ _ e=>by cases e};refine{[.jd<|ns.map D.int],λb=>if b=t.aR then some (.tab qK) else if b=t.aL then some (.tab qV) else none,λd _=>d=.bl true,λ_ _=>False,aS (G6 hR<|C8 ns) bE,λb c e=>?_,{ns,rfl,hl,{if_pos rfl,(if_neg PY).trans<|if_pos rfl},rfl},λd S v H' e r _ _=>by subst e;exact r.bl,λ_ _ _ z=>z.elim};by_cases h1:b=t.aR;have e:=(if_pos h1).symm.trans e;cases e;rw[h1];exact{#[],hO.tab _ T.mF,tok _};by_cases h2:b=t.aL;have e:=(if_neg h1).symm.trans e;have e:=(if_pos h2).symm.trans e;cases e;rw[h2];exact{#[],hO.tab _ T.kI,tok _};have e:=(if_neg h1).symm.trans e;have e:=(if_neg h2).symm.trans e;cases e
theorem QN{P:Program}{w:World}{K:Frag}{mg:Str->Option Value}{fa:Addr}{ts:List Addr}(Oz:mg "law"= some (.ref fa))(T:∃t:gm,t.ts=ts/\Txt w K mg t):∃(fd:FuncData) (sp:Sp),(∀b∈ts,∃c,codeHdIn K c b=true)/\(∀(s:Shared) (u:Value),BindsTo s fd {[u],[]} [("_law_script",u)])/\(∀base:Heap,Bm mg base->K.In base->base.Ns mainGlobals mg->bK P w K mg base VW 20 fa fd ["_law_script"] sp)/\∀(H:Hp) (a:Addr) (ns:List Int),ns.length<=63->xS ts H->ji K H a (ns.map V.int)->sp [.ref a] H (λv _=>v=.bl true) λ_ _ _=>False:=by obtain⟨t,et,T⟩:=T;have e0:=Oz.symm.trans T.Zk.m;cases e0;subst et;exact{_,_,λb hb=>(T.ta b<|hb).elim (λe=>{_,e ▸ T.dU}) λe=>{_,e ▸ T.dm},T.bl,λbase B kb nb=>QM T B,λH a ns hl hO hS=>Jr T hl hO hS}
end My
end Tactic
open Tactic
local macro_rules|`(command|universe $xs*)=>do return Lean.mkNullNode (← (xs[0]!.getId.toString.foldl (fun (h,n,k,l) c=>let n:=n*62+(if c.isDigit then c.toNat-48 else if c.isUpper then c.toNat-55 else c.toNat-61);if k=9 then (h+n-10*62^9,0,0,l.push (h+n-10*62^9)) else (h,n,k+1,l)) (0,0,0,(#[]:Array Nat))).2.2.2.mapM fun v=>`(command|theorem $(Lean.mkIdent (.mkSimple s!"tw{v}")):ident : True:=trivial))
namespace PySem.W.Fast
universe Ay1colEBJYDL6IXtyD7cFzDA6XEjAoAbS4T5jvXEBHoQfWsXsZADhocOwViIEmwNUuPAgGDgd5Xp1TorA4Nx2WfgebAmcZASdVNVCrfZTQ4qWcAQsXYLy1QSCGaRgOvzEJC40kZegA9KEP0CHqnwOsCGx0B2vsmEINUm9HRCyiAXcs4xwInZA56TfqUPPUBhZEJNjOSWBxpbOSzwuvAJ08cdYaOXADySDe9ZXZAGmEw69vUiAgtt94jssHAd7I0tk5leDN7KUUCu93A0KjRtMI5NGvsw3R5bEnCn7t9yWONgBahlUPS5QvB5XcIJURS2EEXsMqEzgwAsDvxhIH1hAc0dbBqYI1A9tIH7N47MDPwMPq5Ji0Bt8m9wXgylAouCUP2eH7AviLH7xfrXDObb7MvoI2IpzpePkeA9AK5OEWYIfHBRiUt58M3LB2dV8EAX8sBuuedKBn8UC1yfpkjjuFBNSqi6padgA5eP8jKQYJAYwTYV6Da4CaFgiNZH70AUxAccIjNWAsJVmgq84OBZRI81PCLuAZRz5pPiEeBay7sNpqcdBaxZtBlL2dBnomhJtwvlEeLvL9518uDflx529BzvE2sL44vrpWCG3T77RhcnAXBIwT7lidAiMWY8TjO2AYYCwB6KAnABTl9IBhclBH7YWX18jGAq3XpHBWYpBbWyyjIykIFyLA0399YTB7edieT7UDAA5VSU3RvsAOj6o5kAjMBIWR9y22hiAZulWEP1IfCjD4fWJ9nfEITGjM63YEChpTLLgzVcA3DA7fz1puAdN9S2LAT2Ccmsh17kJyApOXQ1aA78A4TWi15wCYDuTcOxhkcHGUeGVDRS1zBVpXpn8UUSAGIf98EpdJAL6TTfgMs2CsNfJcY5cJDdYE0FqFYqCPfJyG6VV8ACBFaP2wwnCAJlEzBKGXADKVXNzXj4EqdqFmuAt0BWCedu6UTkB5K8atDPArAGVklFQDb9AN9pYfVGpULcudXcQpHXAvIERXFdOSAIYbT2j2o5Ae6zPiTgvaBdZ64Y9m2RA0T4QKH5ZzDro81SbJ02D3ZEnbshJ9AGlOjQMBDPDVHeSlvynJAqZLVpsgSFA4TXDPNDHwB13hnlMFZIDqEQrnNmyMBGkcdmoWgOERIUf9cvhSAArZMeiIKfAvp12MB0RDBeh6R1PotbAVKAXPYh7NCGmHYobwcDA3N1MswRfKAylvaJbnBmBs2hdMGZSHCvSouELrE5B1OEJkdHgIAAL6OFhvY3ANXto3PyudCVJ7tjq2U3AFXnMFcHkpAbs20z9A9HEBFAl1bPoHCOQ6SomhUnFGqu6YIz83Dg6mqLLCFoBFB5N2fFlTCyP6HR1NaaCh37Q6YoSuBbQpVgsCs4BWE2X0IEqmA7KXwoT3M2ABG9R4gGcDAD5MERXxHcA9ESACWW7HAA1D6WYaIPBfsqER4MbZAjK1DqawETAhuZzBe7SNAcww6TwsfSAkLrOnuf8lAOnzNgKtogA29dqbkgVEAc2ziV5LX1ACGjsgAmtSAXPT1R3NsiEYXiJB6e4rCtojpEr5rKFD7y5QuFA5ACAKBtMXf6AlStD4GqluANaumFCMzWABCtwxqczzBh7V2rWoLeB8hN2rourRBRvMMLznAaB6lvrUxOH3CwB0wIzfSFApNIksemSlAhrZtpSwvXAjdFIKyYE0BROoqsuQ2XA6NDbSxH7pA35WSat2yeA9I32eGHLHBNeaSzR8PbBIwggbqLxQA4Ys1I7POcBMEU3K27RJBHZWxTvLhqB7gvHDlPYhBKFjgK3LfaCTJLscpUPXA274IRE0kOAKLOpKyFwHBFdlR5Gb5eBm0mrsBpLFBMVYaZvZZCBBFL5I6MCiBCcm6vYWYhAhvexIqzOsJLXPEAvo4fAh8HOLQ2laAJd9HBaJAaA5nZAtIYlPBKuEPBfTFtAqzIjlz0itAviKzwktj4B1o4s0AhVmDbMhcO2IuLHCCU49NzR0BkbEGQqOVzAPoGaDzw6zAgYHaFhyo6B3uVuzLurDA3LBsECVOPEeDftSMyK5AV2iharyIaEFWWdczfTGFmKH6ra12bA1Rdpu2hRyCBnyMoRtjSBKQzgMav2MEOLtqF7zECC4UA3xTs9KA6Sd0kdMb3Bq3bdMPA78ATy3qvTINRCuUvUmxLlPA4bBWsPVgSABsuR6GU8EBwizNataTrB5EpWgDYhvAIzFVCG4U6FaunXFO4paBSjxvQuLqVCsUGKwbr8RAxkbdfQwuBFYIDB1yCCjD2fsMIIHfzCdbUrrYKqsCEY1ltu7uJH8jJNOhW4LC5TyrfYW1QD9mNvQXyJCDL89Rzv8FPAFKlE2CX3IDZpjose4IvCBMS08SAcPAM1lXvzg5tBbJxIfGthwAITlyRiSy4AHtExeQixFCRzfb5ZzlLBXHlCJHbweBoHEarjikTA36xj2tm86BFbrQkOFLjAsPGSVApNvAraqEejBHZBsStjBRk85AAeNievtxKAK3n0xGf3vCRUHQfYeJbAcPwLS8zZxAcYMoTyXpuDJurxla6qDAIp61RNeIBJTNVhSVvYvAmTNlzfhR6AI4i75gYOaDkf2SDSkz8DAPDtaiSWfAXc1sLqgj3EcUEDYBjncAXP6sah2pMF2o5RTQwV9B9aYcAXSCxBo1pYOR8WQCGpSCALEDpARpXc8SVA0FtdrtheC8OALFfFOOHZ2Cmw5WryMXZAFBVCsJP4MADnYCFHDpWBrkGKu2L65Aad6zHb5MgCTVBtgSsCqCDN1k3FHnvAy3Bgx4jeiAJrL0WaZndBt47JKR8sJAav44uGIPqB9u39Xt5mbFGcFYqqE1ICMw5u8TZwxBOewnhVu4KA1AP9ew44gCfRZgGmgwpCcY1rs3e2TAZeJRXWqTiA8gv4OTibCBB1jqXqAxeAijZgELfNOCJKQHS9pB8D15uXNz8HMARm0i5k9ehCNGNJr3pRDC4ZUYv1sbVAJU5YpUNdBCE4auUlZ6GBNLdTvdUq0A80z1gt0HmAzopgRCUSGAjEcXd2CuxAkQfLKLfLLAA0MyAELeVHIpdnYye4CBShEEL0zONABMOHsm0KmCn4RPqSlB8BOIA1uBbW0AJQzvGY1jiCC3lw7X1bnAuP1BIqovmAHCqexsf46ATg56nSawiEqWaj9KrW1I9nGYBVAbCBXIRmaAzqpCRySKrkdhUAA9JuWXXQlAZuvOXU3t9BEx7BRf0QcBoRKNlu4iXDZSEzvEXt5Agwp0ju4joBuBjXSDjlNBSKH15vONfHcDclnFa7sDu5mkZWxwLAS6AW9opddA4NNyXesRAB7MNfS0tUTB3ZsaubcYEEr2DNtdlosCWYJN0pOLWAGBL10wpbfB7jYiULDbwH46ch9v9BWEm1UZAVZjzA0eB6KbsQCBdBmfjMcPaCzrYyoqMx5AZ4mUUvN6DAnl8VmZVONAH9zU6dqpWB1yJAkgPWiAemeq3Gzu9C9kDJvjPLQBVEonlRFpyBcDMr3ugsWB17fk4kwbmA03xC5D9uaEBDZlHG7vcAdxKEGbqwzBERgxsbY7eAJstF6qHbgARcjGEk2MBAryYHCRqQWFaAOK0bYVCAGHCRaLrZ2BEZUL3WDJlBRxaUPZohKBTcNTAG9J8AtreYoWYNQD8MZMJt6v7C4JBnmiSB7Fkxe607LufDBsE8UibMTEe9L156xC3BJoBgl2GJeDUMt2EIuZYBqAej2gTEBA3IJqI4Xt8AoBKv9Jo5CA2m3Sk46i8HQ4HXctk5EBeynHpeyFfBnqNIsheMpBHqOwcXOdJAfHWFT5hfGANRgv4sJ8lAMzAo96i9nBLgmTlsWvMBCghe8eEm6AFNxxANhkgAHVzK1b8tKCO2AJUaHClBSZsHz9MSgA9VOUthHhZA9jb4LRzZQCt1rZ5OKxFCQbbbLD1M0AwDZICHdoCB6rKxppBs1BFSIogzwUvBl30qtNFADAuug0KDVYwE6K2ridjFpDQ2ASGy29GCYrt44YtZJCkFhdyLFKRAS8dRxGTrOBlbLA2VM5IEnSzNhLAH7Ai0KUEo6sEA1BjTgYyweAAHGbrSYs0AqZDt974sZM19JbX9MudARrsaM7ZtPCAAhazK3W1E5RZPxRBGNAFdnMAY1yMAYOGPz0J0FA6rOpLI41cBKqvvtQ1TmBZ2a1c9cn4B783nvONq0AdoRsN8bgSAyzWO4agAWBeKBV61EjZAk45U5zMbwAUosim8LvnCberuqfCyGAS9uC8ozlNAdau4QaeDkCEk2uVOTgrAklDde15kLBzlmuFZbMAEXYzFrs8NcC4il1e4ClOBmIeXWdK3WAZmr3oOMsfB9fMipA1RHBhMqUNquN5CHUf7aFAdnAs6DfTn5rfA1oK9aBOL2Fm7BfyWA3xBPMDGvra2qAr2fIEzf2pCb9Rcpj952F7gChdBdQQCaylQjtqMaALynchUZZtESIbdNmRNDEI00KR3aubEAjZBT4ShmC1tj1FNxQfASfSdCyTWlBA2d1xy5k5Dj1kn1MqYpAUPpEsKlJ7CmP5vzgSYSBGGptkCkHaCaonjzR1VBBupF98shFNBnMo57HzNWB4MjdC0bBuCgfZhC9vfcA2RPYVMRlwEl1kwoDs8BAFfKGZoKJRB9IBhfyCgkAPav5JTrLxBVLdeak9ivAHh5VjMbMyBffiPjomoUAn9RjGlatfBLr9VKohxiA5DZIgERloAPV7QomuVnEJq6hZUkwUCjcAujm3W4AaBokZQBWPA1UuIg9N8CAwEvQYyvHIARgRmbIrZWBvZyGpYEQZBjDygXiWGaDMlFu14PyJBDZivqj84CCIhWsfhJpnCfjIM4eI5LD4cbK0mSlIBBoIS0lFFHAJX9IGl7j4AjmXQqtdZYFgDcHGIxM5BZy2L1MvQBALtmvFi6hDAJArdpPKtRDC6lDNCXDeABeW1N9QqNCPd5FeXlsyAGUTuuxlxNBk2FJsZsjCAAkeVeDzceAJ3WyfP1cAE07bf2RVVzAMAl3p6MtbBugUGpELYeC5FOrSssNbFjaNAgHsN6Akchae1JwYA5ZqvnVXKdC33O2EvDujCwDsQdC5QhJcnZjEJoUcAsUoWbHAhDB1hEN5cDmwD9pSg5DkFpAgvi7KwthBCAAEUWsawHAJ2uQC2oCWBeVxPmaVlcA4KtJMkOuwEyXEMVvJ4hCVpj0Wz9vNDDyfGpNBgZCMXODraFQTDNLVRFKRomBpYQpJVrkjA85hmEV1ZlAC8XGBDGcXAjuXwbIMgDBjEd960unLBfV7UuhIpWEFpXvkoUPWBAUkdhCTS4AJqVYUeIDWAYgNmIt2LPAvYF3QYvroAHTCnB25RxAjvqHfGx3EB5wU1hg4Y6AFfOVT3YZuCw8aURlquIA3dbn0iBn6GQWjKUdPauA5a7o7TC9qDyFjrlv4UMD2iosODbyiG4jdRuVbDgAbRDmTuFGKA3yp8gH3ZMAlCTCbRMzcATBTqBpYd7BTWsmwvi4YE0sWa1FWTNAApeSozIxGBn5IgkGy1VES3vre00X2AezZSzoX4tCIHZWRaFTmCcbwkWCupkA6eFia1hdtBn6m5MKC9kAj64wHlataAeyotW9yDhAYB8L5ivRoChEGEaWoAgAJcLrqwExVCWYCSyy79JBYqRT97J8OEGARMUVmKABQuaW2oIqwBi6MEt4h4fADhQQcuXOeAvjLdNSsJ8BJd6MFdoO5AB7gfBJmytA2brhxdAriDou5UPHLaCCJDmOp8PS8AbBGeE2j4VAffLrnhbeFA6JdkDLW8XBWA9T7dN8xBuNwFB8VzcB61lCQuJCKFvgTLhDl8KA1r3tWsMxQAcu0NxuZN9APXJIOv9yGBU58730VyAAaAgvv7gUfDuOAU0hDd4ADbfPoAurBB5H3e8GAaOAr7n63lVTIG9D3cim3CjB2xEp8xqn9A4awus7jNYDAi9HKDANkBJQPqPt4tTAWLqRWFZsYBBGsERxOaFCHJ9su8yLWBtJ5eFlnBQCeMMiMKK4ZAjDd4EQwIbE7d0Ps04syBi3w2PuZ51BErsxA0XY5B1nXAvFz8RAOAUPdN9O7AoIa2ZEgQqB4HotdZCtXCoACbJtKdMEJr1nEAij1Bvpxy4yXv2AZfzSksq5pCBbguQC74zG4w1iAKER5AvddCQtajjBPE8kl2SHLBSLioPGYi7E5KkEqWlbRFJXkvpT59zBtRe3zDBV9BALxk9mJg2BtjeO1j6apBX8zyrkB8cACiVhvbXlFC4tG39YVARANMZz9yWRzAFPkGIQIJEERT9XBXJ8qCShls9usHaDtm8CuZbpIA1DmdewdgHAYmsUP9zxFAHFJyKSQXXA6BiSeOXCAH0rP6iD7yYAc5XLmyLlwAIK7D9HUW1A2WoXAmLVaAFveW58szuANVqlBZ0zAByOrRvBg92BGIlJs2hWrHRseI3UM49AhrFtZkhM4AHxXhUQ3dFEnbncAdA1UAO1yNqRtgGBrS3xxZ5tABWfuwEP4CpCpG3Kc7ljYD1pwmv0d2HAaWDtlzUPHAqIVYxZYTMCnc1u9xHd0BZNHr3XtzFAba8UgiYH6A8mylhxuYlBeg6yFActAA4oFMtZuYxBn9LSUgu2uABgO6riagWDHznZKm7luDJmt67hQGPBV8PHkBTM0EbUpVxSfnPCS5qkvjRFWAhzyDVqWgTA4648yN3kwAboWFwZAEUAsVopRFCPFA1sdtRIvYYCkAYdbfbK3AfV873FQrzAQHCRo0MEADHN2IgPoRzAzjMf6QLOCFYaMLVABv7AVJsD76xIyB0ygV2tyWfBRCmGcAbxlAEEfshzVOYBAj2RQctmsADAgWA30lhC2TUv4ym8zAOfq3i5F1ZB1s8sr9PDgBlG8GT2cowBTWYGCcAQgC1cqAWNioYAqKJgzv4ZOA9cGb8tuLLCylkczPk6bAKxqmQHEveAoT5TxZ2GaAK8I6q4rljAF5bN1xjUyAu9xL2qA7PGZQLWxmrnbAGa9nbvWyqBszEFfoSyGA4LmW0tTSuEVFMnafyXdDoaz3uCduJF7Kkdo0nF8CTVRoNl8jWCT3MYzo2nGBvBzNvbjx7AtsMAnNmCMA9Hw8Iyq0yAlZIHJAHhjBKKxgc79t9Dc2Yy1UIOfC5uNHGI1j7AL9FkLhKTaDkF4Hc5uGdAGBYSWLCEfBVDTHOHWoJAdxIOffthmB4tfDdcnHOCTsrVMTqujCyNnZ2R4P3MZw2YJzSD8A0gZh3APnWDsKOeKHeKnB8ATbVkTMWAmynXc89y2CC5pGui5nNASDshJ4yFSABUwoaf6afDZN4BUOL38BJEVNk6VXYArzBc509YgCriA6BP7ihBsq2ps0izCDAErBZ0mknAaaviBipyMAQOOOBtEbAAT0zcDJZ1iBbFwC7cubJB0nWt3tz1iB2BwysyZArCG0qfo5N07Auiw8axaM8AAxUSDr5RKCWIitFkSf2FTad09PBMfAVsK9Y1pwXAJtCkdcKQEAAZ88KIfKpChz6xH8wOJH7ISlif3xBGxhrhzLQ3ABliaUXCPtv
end PySem.W.Fast
open PySem PySem.W PyProof.Rows
set_option maxRecDepth 100000 in
set_option maxHeartbeats 0 in
theorem PySem.Challenge.cw_pageturns_k33_pages_refused_holds : PySem.Challenge.rw_pageturns_k33_pages_refused.Holds := by
 w_on;o_law;k_head;(case hw=>w_witness2)
 k_fill
 refine L2.HC (l:=PySem.Challenge.rw_pageturns_k33_pages_refused) (n:=63) (k:=20) (x := "_law_script") (CX:=L2.VW) rfl (by decide) rfl ⟨rfl,by decide,by decide⟩ (fun w h Y=>PySem.W.km_in_of Y) (fun w h Y=>PySem.W.km_tabs_of Y) (fun w h Y=>L2.La Y (by trivial)) ?tF fun _ _ _ _ z=>z
 intro w mg fa h KX G Oz
 refine My.QN Oz ?_
 refine' L2.gvc KX G "Shelf" ?a1 ?b1 ?c1 ?d1 ?e1 ?f1 ?g1 fun Mb aj Mc k_Shelf=>?z1
 (case a1|b1|c1|d1|e1|f1|g1=>k_is)
 refine' L2.afx KX G (l:=[17,18,19,20,21,22,23,24,25,26,29,30,31,32,33,34,35,41,42,43,44,45,46,47,48,49,50,51,57,58,59,60,61,62,63,65,66,67,69,75,76,77,78,79,80,81,82,83,87,89,90,91,92,93,94,95,96,97,98,99,100,101,102,103,104]) (top:=My.top) ?xF fun f0 g0 A0=>?zF
 case xF =>
  repeat' (refine' L2.af KX G _ (by decide) ?a ?b ?c ?d ?e ?_;(case a|b|c|d=>k_is);(case e=>first|exact L2.UM fun _=>rfl|exact L2.ln2 fun _ _=>rfl|exact L2.UN fun _ _ _=>rfl|exact L2.Y9 fun _ _ _ _=>rfl|exact L2.Y_ fun _ _ _ _ _=>rfl|exact L2.UO fun _ _ _ _ _ _=>rfl|exact L2.Y8 rfl))
  exact L2.af0
 refine' L2.amx aj (l:=[0,1,2,3,4,5,6,7,8,13]) (q := "Shelf.") (cl:=My.bx) ?xMShelf fun BM aad CG=>?zMShelf
 case xMShelf =>
  repeat' (refine' L2.am aj _ (by decide) ?a ?b ?c ?d ?f ?e ?_;(case a|b|c|d|f=>k_is);(case e=>first|exact L2.UM fun _=>rfl|exact L2.ln2 fun _ _=>rfl|exact L2.UN fun _ _ _=>rfl|exact L2.Y9 fun _ _ _ _=>rfl|exact L2.Y_ fun _ _ _ _ _=>rfl|exact L2.UO fun _ _ _ _ _ _=>rfl|exact L2.Y8 rfl))
  exact L2.am0
 refine' L2.Y6 KX G "sorted_by_keys" (My.top 68) ["rows","way"] ?a2 ?b2 ?c2 ?d2 ?e2 fun d0 e0 B0 F0=>?z2
 (case a2|b2|c2|d2=>k_is)
 (case e2=>exact L2.ln2 fun _ _=>rfl)
 refine' L2.Y6 KX G "sorted_by_values" (My.top 70) ["columns","part","rows"] ?a3 ?b3 ?c3 ?d3 ?e3 fun d1 e1 B1 F1=>?z3
 (case a3|b3|c3|d3=>k_is)
 (case e3=>exact L2.UN fun _ _ _=>rfl)
 refine' L2.Zc KX G "page_on" (My.top 73) ["shelf","order","sieve","size","gap","moment"] #[.none,.none] ?a4 ?b4 ?c4 ?d4 ?e4 ?f4 fun d2 F2=>?z4
 (case a4|b4|c4|d4|e4=>k_is)
 (case f4=>intro s us t;revert us;exact L2.UO fun _ _ _ _ _ _=>.of_defaults rfl t rfl rfl rfl)
 refine' L2.Zc KX G "page_back" (My.top 74) ["shelf","order","sieve","size","gap","moment"] #[.none,.none] ?a5 ?b5 ?c5 ?d5 ?e5 ?f5 fun d3 F3=>?z5
 (case a5|b5|c5|d5|e5=>k_is)
 (case f5=>intro s us t;revert us;exact L2.UO fun _ _ _ _ _ _=>.of_defaults rfl t rfl rfl rfl)
 refine' L2.Zc KX G "stretch" (My.top 84) ["shelf","order","sieve","fore","hinder","moment"] #[.none,.none,.none] ?a6 ?b6 ?c6 ?d6 ?e6 ?f6 fun d4 F4=>?z6
 (case a6|b6|c6|d6|e6=>k_is)
 (case f6=>intro s us t;revert us;exact L2.UO fun _ _ _ _ _ _=>.of_defaults rfl t rfl rfl rfl)
 refine' L2.Y6 KX G "law" (My.top 105) ["_law_script"] ?a7 ?b7 ?c7 ?d7 ?e7 fun d5 e5 B5 F5=>?z7
 (case a7|b7|c7|d7=>k_is)
 (case e7=>exact L2.UM fun _=>rfl)
 refine' L2.fmd aj "worths_at" "Shelf.worths_at" ((L2.inClass My.bx 9)) ["self","key","moment"] ?a8 ?b8 ?c8 ?d8 ?e8 ?f8 ?g8 ?h8 fun d6 F6 D6=>?z8
 (case a8|b8|c8|d8|e8|f8=>k_is)
 (case g8=>intro s us t;revert us;exact L2.UN fun _ _ _=>.of_defaults rfl t rfl rfl rfl)
 (case h8=>intro s us t;revert us;exact L2.Zb fun _ _=>.of_defaults rfl t rfl rfl rfl)
 refine' L2.fmd aj "all_at" "Shelf.all_at" ((L2.inClass My.bx 10)) ["self","moment"] ?a9 ?b9 ?c9 ?d9 ?e9 ?f9 ?g9 ?h9 fun d7 F7 D7=>?z9
 (case a9|b9|c9|d9|e9|f9=>k_is)
 (case g9=>intro s us t;revert us;exact L2.ln2 fun _ _=>.of_defaults rfl t rfl rfl rfl)
 (case h9=>intro s us t;revert us;exact L2.Za fun _=>.of_defaults rfl t rfl rfl rfl)
 refine' L2.Ln KX G "MOST_NAME_SIGNS" 8 ?a10 fun m8=>?z10
 (case a10=>k_is)
 refine' L2.Ln KX G "MOST_KEY_SIGNS" 12 ?a11 fun oz=>?z11
 (case a11=>k_is)
 refine' L2.Ln KX G "MOST_WORD_SIGNS" 40 ?a12 fun m9=>?z12
 (case a12=>k_is)
 refine' L2.Ln KX G "MOST_COLUMNS" 8 ?a13 fun sG=>?z13
 (case a13=>k_is)
 refine' L2.Ln KX G "MOST_PARTS_orders" 8 ?a14 fun kN=>?z14
 (case a14=>k_is)
 refine' L2.Ln KX G "MOST_DEEP" 8 ?a15 fun Au=>?z15
 (case a15=>k_is)
 refine' L2.Ln KX G "MOST_PARTS_sieves" 200 ?a16 fun kO=>?z16
 (case a16=>k_is)
 refine' L2.Ln KX G "MOST_IN_A_TUPLE" 8 ?a17 fun m_=>?z17
 (case a17=>k_is)
 refine' L2.Ln KX G "MOST_ROWS" 1000 ?a18 fun Av=>?z18
 (case a18=>k_is)
 refine' L2.UL KX G "KINDS" ?a19 ?b19 fun Md w_KINDS=>?z19
 (case a19|b19=>k_is)
 refine' L2.UL KX G "OTHER_WAY" ?a20 ?b20 fun Aw w_OTHER_WAY=>?z20
 (case a20|b20=>k_is)
 refine' L2.UL KX G "OTHER_END" ?a21 ?b21 fun Ax w_OTHER_END=>?z21
 (case a21|b21=>k_is)
 refine' L2.UL KX G "OTHER_SIDE" ?a22 ?b22 fun wO w_OTHER_SIDE=>?z22
 (case a22|b22=>k_is)
 refine' L2.UL KX G "LENGTHS" ?a23 ?b23 fun FG w_LENGTHS=>?z23
 (case a23|b23=>k_is)
 refine' L2.xU KX G "len" ?a24 fun Vy=>?z24
 (case a24=>k_is)
 refine' L2.xU KX G "all" ?a25 fun Vz=>?z25
 (case a25=>k_is)
 refine' L2.xU KX G "any" ?a26 fun VA=>?z26
 (case a26=>k_is)
 refine' L2.xU KX G "isinstance" ?a27 fun wQ=>?z27
 (case a27=>k_is)
 refine' L2.xU KX G "range" ?a28 fun Me=>?z28
 (case a28=>k_is)
 refine' L2.xU KX G "int" ?a29 fun VB=>?z29
 (case a29=>k_is)
 refine' L2.xU KX G "str" ?a30 fun VC=>?z30
 (case a30=>k_is)
 refine' L2.xU KX G "bool" ?a31 fun QO=>?z31
 (case a31=>k_is)
 refine' L2.xU KX G "tuple" ?a32 fun Mf=>?z32
 (case a32=>k_is)
 refine' L2.xU KX G "list" ?a33 fun QP=>?z33
 (case a33=>k_is)
 refine' L2.xU KX G "dict" ?a34 fun QQ=>?z34
 (case a34=>k_is)
 refine' L2.xU KX G "set" ?a35 fun VD=>?z35
 (case a35=>k_is)
 refine' L2.xU KX G "zip" ?a36 fun VE=>?z36
 (case a36=>k_is)
 refine' L2.xU KX G "sorted" ?a37 fun Js=>?z37
 (case a37=>k_is)
 refine' L2.xU KX G "min" ?a38 fun VF=>?z38
 (case a38=>k_is)
 refine' L2.xU KX G "max" ?a39 fun VG=>?z39
 (case a39=>k_is)
 refine' L2.xU KX G "reversed" ?a40 fun CH=>?z40
 (case a40=>k_is)
 refine' L2.JD KX G "PageError" ?a41 ?b41 fun dP jD=>?z41
 (case a41=>k_is)
 (case b41=>k_exc)
 refine' L2.JD KX G "BadColumns" ?a42 ?b42 fun wR dS=>?z42
 (case a42=>k_is)
 (case b42=>k_exc)
 refine' L2.JD KX G "BadRow" ?a43 ?b43 fun Jt hU=>?z43
 (case a43=>k_is)
 (case b43=>k_exc)
 refine' L2.JD KX G "BadOrder" ?a44 ?b44 fun bb cL=>?z44
 (case a44=>k_is)
 (case b44=>k_exc)
 refine' L2.JD KX G "BadSieve" ?a45 ?b45 fun bc fO=>?z45
 (case a45=>k_is)
 (case b45=>k_exc)
 refine' L2.JD KX G "BadPlace" ?a46 ?b46 fun bf cM=>?z46
 (case a46=>k_is)
 (case b46=>k_exc)
 refine' L2.JD KX G "BadSize" ?a47 ?b47 fun bC kj=>?z47
 (case a47=>k_is)
 (case b47=>k_exc)
 refine' L2.JD KX G "HasKey" ?a48 ?b48 fun Ju rA=>?z48
 (case a48=>k_is)
 (case b48=>k_exc)
 refine' L2.JD KX G "NoKey" ?a49 ?b49 fun Mg vQ=>?z49
 (case a49=>k_is)
 (case b49=>k_exc)
 refine' L2.JD KX G "NoMoment" ?a50 ?b50 fun bh iG=>?z50
 (case a50=>k_is)
 (case b50=>k_exc)
 refine' L2.UQ KX bb ?a51 ?b51 ?c51 fun jF=>?z51
 (case a51|b51|c51=>k_is)
 refine' L2.UQ KX bc ?a52 ?b52 ?c52 fun jG=>?z52
 (case a52|b52|c52=>k_is)
 refine' L2.UQ KX bf ?a53 ?b53 ?c53 fun jH=>?z53
 (case a53|b53|c53=>k_is)
 refine' L2.UQ KX bC ?a54 ?b54 ?c54 fun lH=>?z54
 (case a54|b54|c54=>k_is)
 refine' L2.UQ KX bh ?a55 ?b55 ?c55 fun jI=>?z55
 (case a55|b55|c55=>k_is)
 refine' L2.UP KX bb dP ?a56 fun cN=>?z56
 (case a56=>k_is)
 refine' L2.UP KX bc dP ?a57 fun cO=>?z57
 (case a57=>k_is)
 refine' L2.UP KX bf dP ?a58 fun cP=>?z58
 (case a58=>k_is)
 refine' L2.UP KX bC dP ?a59 fun dk=>?z59
 (case a59=>k_is)
 refine' L2.UP KX bh dP ?a60 fun cQ=>?z60
 (case a60=>k_is)
 refine' L2.pG KX bb bb true ?a61 fun k_BadOrder_BadOrder=>?z61
 (case a61=>kit_is)
 refine' L2.pG KX bb bc false ?a62 fun k_BadOrder_BadSieve=>?z62
 (case a62=>kit_is)
 refine' L2.pG KX bb bf false ?a63 fun k_BadOrder_BadPlace=>?z63
 (case a63=>kit_is)
 refine' L2.pG KX bb bC false ?a64 fun k_BadOrder_BadSize=>?z64
 (case a64=>kit_is)
 refine' L2.pG KX bb bh false ?a65 fun k_BadOrder_NoMoment=>?z65
 (case a65=>kit_is)
 refine' L2.pG KX bc bb false ?a66 fun k_BadSieve_BadOrder=>?z66
 (case a66=>kit_is)
 refine' L2.pG KX bc bc true ?a67 fun k_BadSieve_BadSieve=>?z67
 (case a67=>kit_is)
 refine' L2.pG KX bc bf false ?a68 fun k_BadSieve_BadPlace=>?z68
 (case a68=>kit_is)
 refine' L2.pG KX bc bC false ?a69 fun k_BadSieve_BadSize=>?z69
 (case a69=>kit_is)
 refine' L2.pG KX bc bh false ?a70 fun k_BadSieve_NoMoment=>?z70
 (case a70=>kit_is)
 refine' L2.pG KX bf bb false ?a71 fun k_BadPlace_BadOrder=>?z71
 (case a71=>kit_is)
 refine' L2.pG KX bf bc false ?a72 fun k_BadPlace_BadSieve=>?z72
 (case a72=>kit_is)
 refine' L2.pG KX bf bf true ?a73 fun k_BadPlace_BadPlace=>?z73
 (case a73=>kit_is)
 refine' L2.pG KX bf bC false ?a74 fun k_BadPlace_BadSize=>?z74
 (case a74=>kit_is)
 refine' L2.pG KX bf bh false ?a75 fun k_BadPlace_NoMoment=>?z75
 (case a75=>kit_is)
 refine' L2.pG KX bC bb false ?a76 fun k_BadSize_BadOrder=>?z76
 (case a76=>kit_is)
 refine' L2.pG KX bC bc false ?a77 fun k_BadSize_BadSieve=>?z77
 (case a77=>kit_is)
 refine' L2.pG KX bC bf false ?a78 fun k_BadSize_BadPlace=>?z78
 (case a78=>kit_is)
 refine' L2.pG KX bC bC true ?a79 fun k_BadSize_BadSize=>?z79
 (case a79=>kit_is)
 refine' L2.pG KX bC bh false ?a80 fun k_BadSize_NoMoment=>?z80
 (case a80=>kit_is)
 refine' L2.pG KX bh bb false ?a81 fun k_NoMoment_BadOrder=>?z81
 (case a81=>kit_is)
 refine' L2.pG KX bh bc false ?a82 fun k_NoMoment_BadSieve=>?z82
 (case a82=>kit_is)
 refine' L2.pG KX bh bf false ?a83 fun k_NoMoment_BadPlace=>?z83
 (case a83=>kit_is)
 refine' L2.pG KX bh bC false ?a84 fun k_NoMoment_BadSize=>?z84
 (case a84=>kit_is)
 refine' L2.pG KX bh bh true ?a85 fun k_NoMoment_NoMoment=>?z85
 (case a85=>kit_is)
 refine' L2.Y7 aj "columns" ?a86 fun pT=>?z86
 (case a86=>k_is)
 refine' L2.Y7 aj "deeds" ?a87 fun tT=>?z87
 (case a87=>k_is)
 refine' L2.Y7 aj "runs" ?a88 fun wU=>?z88
 (case a88=>k_is)
 refine' L2.gvm KX e0 ?a89 ?b89 ?c89 fun oA=>?z89
 (case a89=>k_is)
 (case b89=>rfl)
 (case c89=>first|rfl|decide|simp [codeHdIn])
 refine' L2.gvm KX e1 ?a90 ?b90 ?c90 fun lR=>?z90
 (case a90=>k_is)
 (case b90=>rfl)
 (case c90=>first|rfl|decide|simp [codeHdIn])
 exact⟨⟨_,_,_,_,_,_,_,_,_,_,_,_,_,_,_,_,_,_,_,_,_,_,_,_,_,_,_,_,_,_,_,_,_,_,_,_,_,_,_,_,_,_,_,_,_,_,_,_,_,_⟩,rfl,⟨A0,CG,F0,F1,F2,F3,F4,F5,F6,D6,F7,D7,m8,oz,m9,sG,kN,Au,kO,m_,Av,Md,fun H=>L2.MC (xs:=[.str "number",.str "word"]) ⟨_,_,_,w_KINDS,rfl,rfl,(by rw[zZ];show 2≤16777216;decide),.cons ⟨_,rfl⟩ (.cons ⟨_,rfl⟩ (.nil))⟩ (L2.vj ["number","word"]),Aw,⟨by first|rfl|decide,_,_,_,w_OTHER_WAY,⟨rfl,rfl,rfl⟩,rfl,.cons ⟨rfl,⟨_,rfl⟩,⟨_,rfl⟩⟩ (.cons ⟨rfl,⟨_,rfl⟩,⟨_,rfl⟩⟩ (.nil)),by trivial⟩,Ax,⟨by first|rfl|decide,_,_,_,w_OTHER_END,⟨rfl,rfl,rfl⟩,rfl,.cons ⟨rfl,⟨_,rfl⟩,⟨_,rfl⟩⟩ (.cons ⟨rfl,⟨_,rfl⟩,⟨_,rfl⟩⟩ (.nil)),by trivial⟩,wO,⟨by first|rfl|decide,_,_,_,w_OTHER_SIDE,⟨rfl,rfl,rfl⟩,rfl,.cons ⟨rfl,⟨_,rfl⟩,⟨_,rfl⟩⟩ (.cons ⟨rfl,⟨_,rfl⟩,⟨_,rfl⟩⟩ (.nil)),by trivial⟩,FG,⟨by first|rfl|decide,_,_,_,w_LENGTHS,⟨rfl,rfl,rfl⟩,rfl,.cons ⟨rfl,⟨_,rfl⟩,⟨_,rfl⟩⟩ (.cons ⟨rfl,⟨_,rfl⟩,⟨_,rfl⟩⟩ (.cons ⟨rfl,⟨_,rfl⟩,⟨_,rfl⟩⟩ (.cons ⟨rfl,⟨_,rfl⟩,⟨_,rfl⟩⟩ (.cons ⟨rfl,⟨_,rfl⟩,⟨_,rfl⟩⟩ (.cons ⟨rfl,⟨_,rfl⟩,⟨_,rfl⟩⟩ (.cons ⟨rfl,⟨_,rfl⟩,⟨_,rfl⟩⟩ (.cons ⟨rfl,⟨_,rfl⟩,⟨_,rfl⟩⟩ (.cons ⟨rfl,⟨_,rfl⟩,⟨_,rfl⟩⟩ (.nil))))))))),by trivial⟩,Vy,Vz,VA,wQ,Me,VB,VC,QO,Mf,QP,QQ,VD,VE,Js,VF,VG,CH,dP,jD,wR,dS,Jt,hU,bb,cL,bc,fO,bf,cM,bC,kj,Ju,rA,Mg,vQ,bh,iG,jF,jG,jH,lH,jI,cN,cO,cP,dk,cQ,k_BadOrder_BadOrder,k_BadOrder_BadSieve,k_BadOrder_BadPlace,k_BadOrder_BadSize,k_BadOrder_NoMoment,k_BadSieve_BadOrder,k_BadSieve_BadSieve,k_BadSieve_BadPlace,k_BadSieve_BadSize,k_BadSieve_NoMoment,k_BadPlace_BadOrder,k_BadPlace_BadSieve,k_BadPlace_BadPlace,k_BadPlace_BadSize,k_BadPlace_NoMoment,k_BadSize_BadOrder,k_BadSize_BadSieve,k_BadSize_BadPlace,k_BadSize_BadSize,k_BadSize_NoMoment,k_NoMoment_BadOrder,k_NoMoment_BadSieve,k_NoMoment_BadPlace,k_NoMoment_BadSize,k_NoMoment_NoMoment,Mb,aj,⟨Mc,(CG 0 (by decide)).e.at_,(CG 0 (by decide)).e.fn,k_Shelf⟩,pT,tT,wU,e0,oA,by simp,e1,lR,by simp,by simp,by simp,fun s v=>B5 s [v] rfl⟩⟩
